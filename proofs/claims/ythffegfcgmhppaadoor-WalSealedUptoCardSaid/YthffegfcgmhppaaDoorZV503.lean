/-
  Texts W5, W6, W7, W8, W9, UA, UC, V1, UE, L0, L1, L6, UF, UG, LA, LE, L2, L5, one behind the other.
-/
import Derived.WalkKit
import Derived.WalkSpells
import Derived.WalkLawsBesides
import Derived.Laws.AppendOwn
import Derived.Laws.OwnMore
import Derived.Deep.AppendSrc
import Derived.Deep.MidRow
import Derived.Lib.Hide
import GoSem.Claim
import Derived.Orders
import Derived.Tactics
import Derived.Maps.RangeRun
import Derived.Maps.Range
import Derived.Maps.OwnOps
import Derived.Maps.RangeWalk
import Derived.Deep.Cut
import Derived.Deep.RegionWith
import Derived.Deep.DrawnRows
import Derived.StillTailTactics
import Derived.Carry
import Derived.Laws.CopyOwn
import Derived.Lib.AppendZerosOnto
import Derived.Deep.QuietTactic
import Derived.BigQuiet
import Derived.Laws.BytesString
import Derived.Laws.AppendOwnNone
import Derived.ProofKit
import Derived.OpenShut
import Derived.Deep.Slices
import Derived.Deep.Fields
import Derived.JoinedCond
import Derived.Laws.ShiftsVarLaws
import Derived.Laws.BitsAllLaws
import Derived.Deep.Matrix
import Derived.Deep.Grids
import Derived.Test.YthffegfcgmhppaaDoorRows
import Derived.Test.YthffegfcgmhppaaDoorZV502
namespace Go.Proofs.YthffegfcgmhppaaDoor
open Go.RowKit
set_option linter.unusedSimpArgs false
set_option linter.unusedVariables false
theorem pow128 (k : Nat) : 128 ^ k = 2 ^ (7 * k) := by rw [Nat.pow_mul]
/-- a group is laid behind those that were read -/
theorem or_step (acc x k : Nat) (ha : acc < 128 ^ k) (hx : x % 128 * 128 ^ k < 18446744073709551616) (h64 : acc < 18446744073709551616) :
    bits .or .u64 (acc : Int) (IntKind.u64.wrap ((x : Int) % 128 * 2 ^ (7 * k))) = ((acc + x % 128 * 128 ^ k : Nat) : Int) := by
  rw [pow128] at ha hx ⊢
  have e : (x : Int) % 128 * 2 ^ (7 * k) = ((x % 128 * 2 ^ (7 * k) : Nat) : Int) := by simp
  have e2 : IntKind.u64.wrap ((x % 128 * 2 ^ (7 * k) : Nat) : Int) = ((x % 128 * 2 ^ (7 * k) : Nat) : Int) := by rw [IntKind.wrap_u64]; omega
  rw [e, e2, u64_or_nat _ _ h64 hx, Nat.or_comm, ← Nat.shiftLeft_eq, ← Nat.shiftLeft_add_eq_or_of_lt ha, Nat.shiftLeft_eq, Nat.add_comm]
theorem acc_next (acc x k : Nat) (ha : acc < 128 ^ k) : acc + x % 128 * 128 ^ k < 128 ^ (k + 1) := by
  rw [Nat.pow_succ, Nat.mul_comm (128 ^ k)]
  have : x % 128 * 128 ^ k ≤ 127 * 128 ^ k := Nat.mul_le_mul_right _ (by omega)
  omega
theorem pow_lt9 {k : Nat} (h : k ≤ 9) : 128 ^ k ≤ 9223372036854775808 := by have := pow_le_pow128 h; rw [pow9] at this; exact this
theorem grp_fits {k : Nat} (x : Nat) (h : k < 9) : x % 128 * 128 ^ k < 18446744073709551616 := by
  have h8 : 128 ^ k ≤ 128 ^ 8 := pow_le_pow128 (by omega)
  have : x % 128 * 128 ^ k ≤ 127 * 128 ^ 8 := Nat.mul_le_mul (by omega) h8
  have e8 : (127 : Nat) * 128 ^ 8 < 18446744073709551616 := by decide
  omega
theorem ret3 {a a' : Int} {b b' c c' : Nat} (h : a = a') (h2 : b = b') (h3 : c = c') : Ending.returned (.tuple #[.int .u64 a, .int .i64 (b : Int), .int .i64 (c : Int)]) = .returned (.tuple #[.int .u64 a', .int .i64 (b' : Int), .int .i64 (c' : Int)]) := by rw [h, h2, h3]
set_option maxRecDepth 100000 in
set_option maxHeartbeats 1000000 in
theorem firstNumber_any (D : Nat → Prop) (a : Option Addr) (n c : Nat) (l : List UInt8) (w : World) (hB : Bs D w a n c l) (hn : n ≤ 100000000000000) :
    Calls Tryd.prog 63 #[.slice a n c] w fun e w' => e = .returned (.tuple #[.int .u64 ((fnum l 0 0).1 : Int), .int .i64 ((fnum l 0 0).2.1 : Int), .int .i64 ((fnum l 0 0).2.2 : Int)]) ∧ w = w' := by
  have HB := Lib.hid hB
  have HL := Lib.hid hB.1
  clear hB
  obtain ⟨F, hF⟩ : ∃ F, F = fnum l 0 0 := ⟨_, rfl⟩
  rw [← hF]
  have HF := Lib.hid hF
  clear hF
  go_enter Tryd.func63, Tryd.ntmps63
  go_wp2
  go_loop [5, 10] (fun t i => ∃ (k acc : Nat), k ≤ n ∧ k ≤ 9 ∧ i = .int .i64 (k : Int) ∧ t = .int .u64 (acc : Int) ∧ acc < 128 ^ k ∧ F = fnum (l.drop k) k acc) (fun _ i => n - (intOf i).toNat)
  case atStart => exact ⟨0, 0, Nat.zero_le _, by omega, rfl, rfl, by simp, HF.out⟩
  case round =>
    obtain ⟨k, acc, hk, hk9, rfl, rfl, hacc, hFk⟩ := hrel
    have HFk := Lib.hid hFk
    have HAcc := Lib.hid hacc
    clear hFk hacc HF
    by_cases hlt : k < n
    · have hkl : k < l.length := by have := HL.out; omega
      obtain ⟨b, off, hDb, hbw, rfl, hc⟩ := HB.out.cells (by omega)
      have hcell := hc k hkl
      have hd : l.drop k = l[k] :: l.drop (k + 1) := List.drop_eq_getElem_cons hkl
      have HD := Lib.hid hd
      have hx := l[k].toNat_lt
      clear hc hd
      generalize l[k] = x at *
      by_cases h9 : k = 9
      · subst h9
        by_cases hb : 1 < x.toNat
        · have e := HFk.out
          rw [HD.out, fnum, if_pos ⟨rfl, hb⟩] at e
          subst e
          go_wp2
          go_ret3
          exact ⟨rfl, rfl⟩
        · by_cases hz : x.toNat = 0
          · have e := HFk.out
            rw [HD.out, fnum, if_neg (by omega), if_neg (by omega), if_pos ⟨hz, by omega⟩] at e
            subst e
            go_wp2
            go_ret3
            exact ⟨rfl, rfl⟩
          · have h1 : x.toNat = 1 := by omega
            have e := HFk.out
            rw [HD.out, fnum, if_neg (by omega), if_neg (by omega), if_neg (by omega)] at e
            have ho := or_step acc x.toNat 9 HAcc.out (by rw [h1, pow9]; decide) (by have := HAcc.out; rw [pow9] at this; omega)
            have ho2 : bits .or .u64 (acc : Int) 9223372036854775808 = (acc : Int) + 9223372036854775808 := by
              have h := or_step acc 1 9 HAcc.out (by decide) (by have := HAcc.out; rw [pow9] at this; omega)
              rw [show IntKind.u64.wrap (((1 : Nat) : Int) % 128 * 2 ^ (7 * 9)) = 9223372036854775808 by decide] at h
              rw [h, pow9]; omega
            have HO := Lib.hid ho2
            subst e
            clear ho ho2
            have hz2 : ((x.toNat : Int) == 0) = false := by rw [beq_eq_false_iff_ne]; omega
            go_wp2
            go_ret3
            exact ⟨ret3 HO.out rfl rfl, rfl⟩
      · by_cases hb : 128 ≤ x.toNat
        · have e := HFk.out
          rw [HD.out, fnum, if_neg (by omega), if_pos hb] at e
          have HE := Lib.hid e
          have HO := Lib.hid (or_step acc x.toNat k HAcc.out (grp_fits _ (by omega)) (by have := HAcc.out; have := pow_lt9 hk9; omega))
          clear e
          go_wp2
          go_round
          case rel => exact ⟨k + 1, _, by omega, by omega, by go_num, by rw [HO.out], acc_next _ _ _ HAcc.out, HE.out⟩
          case measure => simp [intOf]; omega
        · by_cases hz : x.toNat = 0 ∧ 0 < k
          · have e := HFk.out
            rw [HD.out, fnum, if_neg (by omega), if_neg hb, if_pos hz] at e
            subst e
            obtain ⟨hz1, hz2⟩ := hz
            go_wp2
            go_ret3
            exact ⟨rfl, rfl⟩
          · have e := HFk.out
            rw [HD.out, fnum, if_neg (by omega), if_neg hb, if_neg hz] at e
            have HO := Lib.hid (or_step acc x.toNat k HAcc.out (grp_fits _ (by omega)) (by have := HAcc.out; have := pow_lt9 hk9; omega))
            subst e
            by_cases hz1 : x.toNat = 0
            · obtain rfl : k = 0 := by omega
              obtain rfl : acc = 0 := by have := HAcc.out; omega
              have hb0 : bits .or .u64 0 0 = 0 := by decide
              have hcell0 : w.cell? ⟨b, off, none⟩ = some (.int .u8 0) := by simpa [hz1] using hcell
              clear HO hcell
              rw [hz1]
              go_wp2
              go_ret3
              exact ⟨rfl, rfl⟩
            · have hz2 : ((x.toNat : Int) == 0) = false := by rw [beq_eq_false_iff_ne]; omega
              go_wp2
              go_ret3
              exact ⟨ret3 HO.out rfl rfl, rfl⟩
    · have e := HFk.out
      rw [List.drop_of_length_le (by have := HL.out; omega), fnum] at e
      subst e
      go_wp2
      go_ret3
      exact ⟨rfl, rfl⟩
end Go.Proofs.YthffegfcgmhppaaDoor
namespace Go.Proofs.YthffegfcgmhppaaDoor
open Go.RowKit
set_option linter.unusedSimpArgs false
set_option linter.unusedVariables false
/-- what a method of a reader leaves -/
def Reads (g : Nat) (k : Option Nat) (w : World) (l' : List UInt8) (e' : Nat) (w' : World) : Prop := Rd w' g k l' e' ∧ Kept (fun j => j = g) w w'
theorem Rd.facts {w : World} {g : Nat} {k : Option Nat} {l : List UInt8} {e : Nat} (h : Rd w g k l e) : ∃ a c, w.heap[g]? = some (.cells #[.slice a l.length c, .int .i64 (e : Int)] 86 (0, 0)) ∧ w.cell? ⟨g, 0, none⟩ = some (.slice a l.length c) ∧ w.cell? ⟨g, 1, none⟩ = some (.int .i64 (e : Int)) ∧ w.frozen? ⟨g, 0, none⟩ = false ∧ w.frozen? ⟨g, 1, none⟩ = false ∧ Bs (fun b => k = some b) w a l.length c l ∧ k ≠ some g := by
  obtain ⟨a, c, hg, hB, hk⟩ := h
  exact ⟨a, c, hg, by rw [cell_of_row w g 0 _ _ _ hg]; rfl, by rw [cell_of_row w g 1 _ _ _ hg]; rfl, frozen_of_row w g 0 _ _ hg, frozen_of_row w g 1 _ _ hg, hB, hk⟩
def failed (e f : Nat) : Nat := if e = 0 then f else e
set_option maxRecDepth 100000 in
set_option maxHeartbeats 400000 in
theorem fail_any (g : Nat) (k : Option Nat) (l : List UInt8) (e f : Nat) (F : Int) (w : World) (hR : Rd w g k l e) (hF : F = (f : Int)) :
    Calls Tryd.prog 38 #[.pointer (some ⟨g, 0, none⟩), .int .i64 F] w fun x w' => x = .returned (.tuple #[]) ∧ Reads g k w l (failed e f) w' := by
  subst hF
  obtain ⟨a, c, hg, h0, h1, f0, f1, hB, hk⟩ := hR.facts
  have HG := Lib.hid hg
  have HB := Lib.hid hB
  have HK := Lib.hid hk
  have HR := Lib.hid hR
  clear hg hB hk hR
  by_cases he : e = 0
  · subst he
    go_enter Tryd.func38, Tryd.ntmps38
    go_wp2
    go_end0
    refine ⟨rfl, ⟨a, c, ?_, HB.out.kept ((Kept.refl (fun j => j = g) w).setCell (fun _ => rfl) _) (fun b _ hb e => HK.out (by rw [hb, e])), HK.out⟩, (Kept.refl (fun j => j = g) w).setCell (fun _ => rfl) _⟩
    rw [heap_setCell_same w g 1 _ _ _ HG.out]
    rfl
  · have he2 : ((e : Int) == 0) = false := by rw [beq_eq_false_iff_ne]; omega
    go_enter Tryd.func38, Tryd.ntmps38
    go_wp2
    go_end0
    refine ⟨rfl, ?_, Kept.refl _ _⟩
    rw [failed, if_neg he]
    exact HR.out
set_option maxRecDepth 100000 in
theorem left_any (g : Nat) (k : Option Nat) (l : List UInt8) (e : Nat) (w : World) (hR : Rd w g k l e) :
    Calls Tryd.prog 37 #[.pointer (some ⟨g, 0, none⟩)] w fun x w' => x = .returned (.int .i64 (l.length : Int)) ∧ w = w' := by
  obtain ⟨a, c, hg, h0, h1, f0, f1, hB, hk⟩ := hR.facts
  clear hg hB hk hR
  go_enter Tryd.func37, Tryd.ntmps37
  go_wp2
  go_ret
  exact ⟨rfl, rfl⟩
def endE (e n : Nat) : Nat := if e = 0 ∧ 0 < n then 7 else e
set_option maxRecDepth 100000 in
theorem end_any (g : Nat) (k : Option Nat) (l : List UInt8) (e : Nat) (w : World) (hR : Rd w g k l e) :
    Calls Tryd.prog 20 #[.pointer (some ⟨g, 0, none⟩)] w fun x w' => x = .returned (.int .i64 (endE e l.length : Int)) ∧ w = w' := by
  obtain ⟨a, c, hg, h0, h1, f0, f1, hB, hk⟩ := hR.facts
  have HR := Lib.hid hR
  clear hg hB hk hR
  by_cases he : e = 0
  · subst he
    by_cases hl : 0 < l.length
    · go_enter Tryd.func20, Tryd.ntmps20
      go_wp2_with (go_at_call 37; refine (left_any g k l _ _ HR.out).mono ?_; rintro e w2 ⟨rfl, rfl⟩)
      go_ret
      exact ⟨ret_int (by rw [endE, if_pos ⟨rfl, hl⟩]; rfl), rfl⟩
    · have hl0 : l.length = 0 := by omega
      go_enter Tryd.func20, Tryd.ntmps20
      go_wp2_with (go_at_call 37; refine (left_any g k l _ _ HR.out).mono ?_; rintro e w2 ⟨rfl, rfl⟩)
      go_ret
      exact ⟨ret_int (by rw [endE, if_neg (by omega)]; rfl), rfl⟩
  · have he2 : ((e : Int) == 0) = false := by rw [beq_eq_false_iff_ne]; omega
    go_enter Tryd.func20, Tryd.ntmps20
    go_wp2
    go_ret
    exact ⟨ret_int (by rw [endE, if_neg (by omega)]), rfl⟩
theorem vals_drop (l : List UInt8) (n : Nat) : vals (l.drop n) = (vals l).drop n := by simp [vals, List.map_drop]
theorem Bs.from {D : Nat → Prop} {w : World} {a : Option Addr} {n c : Nat} {l : List UInt8} (h : Bs D w a n c l) (F : Nat) (hF : F ≤ n) : Bs D w (if c = F then a else a.map (fun x => x.add F)) (n - F) (c - F) (l.drop F) := by
  obtain ⟨h1, h2, h3, h4, h5, h6⟩ := h
  have h4' : c ≤ maxLen := h4
  refine ⟨by rw [List.length_drop]; omega, ?_, by omega, by unfold maxLen at *; omega, ?_, fun hp => ?_⟩
  · rw [vals_len, List.length_drop]; omega
  · intro ha
    by_cases hcF : c = F
    · omega
    · rw [if_neg hcF] at ha
      cases a with
      | none => have := h5 rfl; omega
      | some x => cases ha
  · obtain ⟨b, off, hD, rfl, hr⟩ := h6 (by omega)
    rw [if_neg (by omega)]
    refine ⟨b, off + F, hD, by rw [Option.map_some, Addr.add_mid], fun j v hv => ?_⟩
    rw [vals_drop, List.getElem?_drop] at hv
    rw [Nat.add_assoc]
    exact hr (F + j) v hv
set_option maxRecDepth 100000 in
set_option maxHeartbeats 400000 in
theorem take_any (g : Nat) (k : Option Nat) (l : List UInt8) (e : Nat) (n : Nat) (w : World) (hR : Rd w g k l e) (hn : n ≤ l.length) :
    Calls Tryd.prog 39 #[.pointer (some ⟨g, 0, none⟩), .int .i64 (n : Int)] w fun x w' => ∃ a c, x = .returned (.slice a n c) ∧ Bs (fun b => k = some b) w' a n c (l.take n) ∧ Reads g k w (l.drop n) e w' := by
  obtain ⟨a, c, hg, h0, h1, f0, f1, hB, hk⟩ := hR.facts
  have hc1 : l.length ≤ c := hB.2.2.1
  have hc2 : c ≤ 9223372036854775807 := hB.2.2.2.1
  have fin : ∀ (a' : Option Addr) (c' : Nat), Bs (fun b => k = some b) w a' (l.length - n) c' (l.drop n) → Bs (fun b => k = some b) (w.setCell ⟨g, 0, none⟩ (.slice a' (l.length - n) c')) a n c (l.take n) ∧ Reads g k w (l.drop n) e (w.setCell ⟨g, 0, none⟩ (.slice a' (l.length - n) c')) := by
    intro a' c' hs
    have K := (Kept.refl (fun j => j = g) w).setCell (p := ⟨g, 0, none⟩) (fun _ => rfl) (.slice a' (l.length - n) c')
    refine ⟨(hB.upto n hn).kept K (fun b _ hb e => hk (by rw [hb, e])), ⟨a', c', ?_, ?_, hk⟩, K⟩
    · rw [heap_setCell_same w g 0 _ _ _ hg, List.length_drop]
      rfl
    · rw [List.length_drop]
      exact hs.kept K (fun b _ hb e => hk (by rw [hb, e]))
  have Bf := hB.from n hn
  have HF := Lib.hid fin
  have HB := Lib.hid Bf
  clear hg hB hk hR fin Bf
  by_cases hcn : c = n
  · have hb := HB.out
    rw [if_pos hcn] at hb
    subst hcn
    rw [Nat.sub_self] at hb
    have HB2 := Lib.hid hb
    clear hb HB
    go_enter Tryd.func39, Tryd.ntmps39
    go_wp2
    go_ret
    have h := HF.out _ _ HB2.out
    rw [show l.length - c = 0 by omega] at h
    exact ⟨a, _, rfl, h⟩
  · have hb := HB.out
    rw [if_neg hcn] at hb
    have HB2 := Lib.hid hb
    clear hb HB
    go_enter Tryd.func39, Tryd.ntmps39
    go_wp2
    go_ret
    exact ⟨a, _, rfl, HF.out _ _ HB2.out⟩
end Go.Proofs.YthffegfcgmhppaaDoor
namespace Go.Proofs.YthffegfcgmhppaaDoor
open Go.RowKit
set_option linter.unusedSimpArgs false
set_option linter.unusedVariables false
theorem Reads.trans {g : Nat} {k : Option Nat} {w w1 w2 : World} {l1 l2 : List UInt8} {e1 e2 : Nat} (h : Reads g k w l1 e1 w1) (h2 : Reads g k w1 l2 e2 w2) : Reads g k w l2 e2 w2 := ⟨h2.1, h.2.trans h2.2 (fun _ _ h => h)⟩
set_option maxRecDepth 100000 in
set_option maxHeartbeats 400000 in
theorem ruint_any (g : Nat) (k : Option Nat) (l : List UInt8) (e : Nat) (w : World) (hR : Rd w g k l e) (hl : l.length ≤ 100000000000000) :
    Calls Tryd.prog 54 #[.pointer (some ⟨g, 0, none⟩)] w fun x w' => x = .returned (.int .u64 ((rUint ⟨l, e⟩).1 : Int)) ∧ Reads g k w (rUint ⟨l, e⟩).2.l (rUint ⟨l, e⟩).2.e w' := by
  obtain ⟨a, c, hg, h0, h1, f0, f1, hB, hk⟩ := hR.facts
  have HB := Lib.hid hB
  have HR := Lib.hid hR
  clear hg hB hk hR
  by_cases he : e = 0
  · subst he
    rw [rUint_ok ⟨l, 0⟩ rfl]
    have hsz := fnum_size l 0 0
    obtain ⟨V, hV⟩ : ∃ V, V = (fnum l 0 0).1 := ⟨_, rfl⟩
    obtain ⟨K, hK⟩ : ∃ K, K = (fnum l 0 0).2.1 := ⟨_, rfl⟩
    obtain ⟨E, hE⟩ : ∃ E, E = (fnum l 0 0).2.2 := ⟨_, rfl⟩
    have hC := firstNumber_any _ a l.length c l w HB.out hl
    rw [← hV, ← hK, ← hE] at hC
    rw [← hK] at hsz
    simp only [← hV, ← hK, ← hE]
    have HC := Lib.hid hC
    have hsz2 : K ≤ l.length := by omega
    clear hC hV hK hE HB hsz
    go_enter Tryd.func54, Tryd.ntmps54
    go_wp2_with (first
      | (go_at_call 39; refine (take_any g k l _ K _ H2.out.1 hsz2).mono ?_; rintro e w3 ⟨a3, c3, rfl, -, h3⟩; have H3 := Lib.hid h3; clear h3)
      | (go_at_call 38; refine (fail_any g k l 0 E _ _ HR.out rfl).mono ?_; rintro e w2 ⟨rfl, h2⟩; have H2 := Lib.hid h2; clear h2)
      | (go_at_call 63; refine HC.out.mono ?_; rintro e w1 ⟨rfl, rfl⟩))
    go_ret
    exact ⟨rfl, H2.out.trans H3.out⟩
  · have he2 : ((e : Int) == 0) = false := by rw [beq_eq_false_iff_ne]; omega
    have he3 : ((e : Int) != 0) = true := by rw [bne_iff_ne]; omega
    rw [rUint_err ⟨l, e⟩ he]
    go_enter Tryd.func54, Tryd.ntmps54
    go_wp2
    go_ret
    exact ⟨rfl, HR.out, Kept.refl _ _⟩
theorem retB (b : Bool) {x y : Bool} (h : x = y) : Ending.returned (.bool x) = .returned (.bool y) := by rw [h]
end Go.Proofs.YthffegfcgmhppaaDoor
namespace Go.Proofs.YthffegfcgmhppaaDoor
open Go.RowKit
set_option linter.unusedSimpArgs false
set_option linter.unusedVariables false
set_option maxRecDepth 100000 in
set_option maxHeartbeats 400000 in
theorem rlen_any (g : Nat) (k : Option Nat) (l : List UInt8) (e : Nat) (most : Int) (w : World) (hR : Rd w g k l e) (hl : l.length ≤ 100000000000000) (h1 : -9223372036854775808 ≤ most) (h2 : most ≤ 9223372036854775807) :
    Calls Tryd.prog 36 #[.pointer (some ⟨g, 0, none⟩), .int .i64 most] w fun x w' => x = .returned (.int .u64 ((rLen ⟨l, e⟩ most).1 : Int)) ∧ Reads g k w (rLen ⟨l, e⟩ most).2.l (rLen ⟨l, e⟩ most).2.e w' := by
  have hC := ruint_any g k l e w hR hl
  unfold rLen
  have hv := rUint_val ⟨l, e⟩
  generalize rUint ⟨l, e⟩ = R at *
  obtain ⟨V, S⟩ := R
  simp only at hC hv ⊢
  have HC := Lib.hid hC
  clear hC hR
  by_cases hm : most < 0 ∨ most < (V : Int)
  · rw [if_pos hm]
    by_cases hm0 : most < 0
    · go_enter Tryd.func36, Tryd.ntmps36
      go_wp2_with (first
        | (go_at_call 54; refine HC.out.mono ?_; rintro e w1 ⟨rfl, h1⟩; have H1 := Lib.hid h1; clear h1)
        | (go_at_call 38; refine (fail_any g k _ _ 2 _ _ H1.out.1 rfl).mono ?_; rintro e w2 ⟨rfl, h2⟩; have H2 := Lib.hid h2; clear h2))
      go_ret
      exact ⟨rfl, H1.out.trans H2.out⟩
    · have hm1 : most < (V : Int) := by omega
      go_enter Tryd.func36, Tryd.ntmps36
      go_wp2_with (first
        | (go_at_call 54; refine HC.out.mono ?_; rintro e w1 ⟨rfl, h1⟩; have H1 := Lib.hid h1; clear h1)
        | (go_at_call 38; refine (fail_any g k _ _ 2 _ _ H1.out.1 rfl).mono ?_; rintro e w2 ⟨rfl, h2⟩; have H2 := Lib.hid h2; clear h2))
      go_ret
      exact ⟨rfl, H1.out.trans H2.out⟩
  · rw [if_neg hm]
    have hm0 : ¬ most < 0 := by omega
    have hm1 : ¬ most < (V : Int) := by omega
    clear hm
    go_enter Tryd.func36, Tryd.ntmps36
    go_wp2_with (first
      | (go_at_call 54; refine HC.out.mono ?_; rintro e w1 ⟨rfl, h1⟩; have H1 := Lib.hid h1; clear h1))
    go_ret
    exact ⟨rfl, H1.out⟩
end Go.Proofs.YthffegfcgmhppaaDoor
namespace Go.Proofs.YthffegfcgmhppaaDoor
open Go.RowKit
set_option linter.unusedSimpArgs false
set_option linter.unusedVariables false
/-- where the loop of Ints stands -/
def AtI (g : Nat) (k : Option Nat) (w : World) (L : Nat) (R : List Int × RS) (m : Nat) (v : Value) (wr : World) : Prop :=
  ∃ acc s, rIntsGo m acc s = R ∧ Reads g k w s.l s.e wr ∧ FreshI w v acc wr ∧ acc.length + s.l.length ≤ L
theorem FreshI.kept {S : Nat → Prop} {w w1 w2 : World} {v : Value} {l : List Int} (h : FreshI w v l w1) (hk : Kept S w1 w2) (hs : ∀ j, w.heap.size ≤ j → ¬ S j) : FreshI w v l w2 := by
  obtain ⟨kk, ho, hf⟩ := h
  exact ⟨kk, ho.kept hk (fun j hj => hs j (hf j hj)), hf⟩
end Go.Proofs.YthffegfcgmhppaaDoor
namespace Go.Proofs.YthffegfcgmhppaaDoor
open Go.RowKit
set_option linter.unusedSimpArgs false
set_option linter.unusedVariables false
/-- a slice of bytes of one's own -/
def baccO (v : Value) (l : List UInt8) : Obj := ⟨fun B w => ∃ k, Own w 5 1 k v l.length (vals l) ∧ ∀ j, k = some j → B j, fun {B S w w'} h hk hs => by
  obtain ⟨k, h1, h2⟩ := h
  exact ⟨k, h1.kept hk (fun j hj => hs j (h1.lt j hj) (h2 j hj)), h2⟩⟩
theorem Lv.bacc0 {w0 w : World} {L : List Obj} (h : Lv w0 w L) : Lv w0 w (baccO (.slice none 0 0) [] :: L) :=
  h.cons (Below.refl _ _) (B := fun _ => False) ⟨none, Own.nil _ _ _, (fun _ h => by cases h)⟩ (fun _ h => h.elim)
theorem Lv.baccBytes {w0 w : World} {L : List Obj} (h : Lv w0 w L) {i : Nat} {v : Value} {l : List UInt8} (hi : L[i]? = some (baccO v l)) : Lv w0 w (L.set i (bytesO v l)) := by
  refine h.weaken hi (fun B hB => ?_)
  obtain ⟨k, h1, h2⟩ := hB
  obtain ⟨a, c, hv, hs⟩ := h1.sl
  exact ⟨a, c, hv, rfl, hs.dom (fun b hb => h2 b hb)⟩
theorem wpList_bacc {w0 w : World} {L : List Obj} (h : Lv w0 w L) {i : Nat} {v : Value} {l : List UInt8} (hi : L[i]? = some (baccO v l)) {ops : Array Oper} {rest : List Oper} {o : Oper} {a : Act} {Q : Exit → Act → World → Prop} (hgd : o.guard = none) (s x : Operand)
    (ho : o.op = .call { callee := .builtin .append, args := #[s, x], argTypes := #[34, 34] }) (hs : a.eval s = v) (us : List UInt8) (hx : Src Tryd.prog 1 34 (a.eval x) us.length (vals us) w) (hb : l.length + us.length ≤ 1000000)
    (K : ∀ v' w', Lv w0 w' (L.set i (baccO v' (l ++ us))) → wpList Tryd.prog ops Q rest (a.put o.dst v') w') : wpList Tryd.prog ops Q (o :: rest) a w := by
  obtain ⟨i0, hi0, hz0, hz1, hz2⟩ := info_parts info5
  obtain ⟨B, ⟨k, h1, h2⟩, hlt, _, hset⟩ := h.get hi
  refine wpList_append_any w hgd s x _ _ ho 5 i0 _ 1 1 Tryd.underlying34 hi0 hz0 hz1 hz2 rfl k v l.length (vals l) hs h1 us.length (vals us) hx (by unfold maxLen; omega) (by omega) ?_
  intro k' v' w' ho' hf' hK' hn'
  refine K v' w' (hset w' _ (fun j => k' = some j) ⟨k', ?_, fun _ h => h⟩ (hK'.mono (fun j _ hj => h2 j hj)) (fun j hj => (hf' j hj).imp (fun e => h2 j e) id) (fun j hj => ho'.lt j hj))
  rw [List.length_append, vals_app]
  exact ho'
theorem run_mk64 (W : World) : (Instr.makeSlice 34 (.int .i64 64) (.int .i64 64)).run Tryd.prog W = .ok (.slice (some ⟨W.heap.size, 0, none⟩) 64 64) (W.alloc (.cells Z64 5)) := by kernel_rfl
theorem Z64_vals : Z64 = (vals zeroB).toArray := by simp [Z64, zeroB, vals]
theorem Wr.new (w : World) : Wr (w.alloc (.cells #[.slice none 0 0] 66)) w.heap.size none [] := ⟨_, heap_new rfl, Own.nil _ _ _, by simp⟩
/-- some bytes, filled up with zeros -/
def padB (l : List UInt8) : List UInt8 := l ++ zeroB.drop l.length
theorem zeroB_len : zeroB.length = 64 := by simp [zeroB]
theorem padB_len (l : List UInt8) (h : l.length ≤ 64) : (padB l).length = 64 := by
  unfold padB; rw [List.length_append, List.length_drop, zeroB_len]; omega
theorem splice_pad (l : List UInt8) : splice (vals zeroB) 0 (vals l) = vals (padB l) := by
  unfold splice padB
  rw [vals_app, List.take_zero, List.nil_append, Nat.zero_add, vals_len, vals_drop]
/-- what is written to the sectors -/
def blkB (b : List UInt8) (i : Nat) : List UInt8 := padB ((b.drop (i * 64)).take 64)
theorem blkB_len (b : List UInt8) (i : Nat) : (blkB b i).length = 64 := padB_len _ (by rw [List.length_take]; omega)
theorem blkB_get (b : List UInt8) (i j : Nat) (hj : j < 64) : (blkB b i)[j]? = if i * 64 + j < b.length then b[i * 64 + j]? else some 0 := by
  have hl : ((b.drop (i * 64)).take 64).length = min 64 (b.length - i * 64) := by rw [List.length_take, List.length_drop]
  unfold blkB padB
  by_cases h : i * 64 + j < b.length
  · rw [if_pos h, List.getElem?_append_left (by rw [hl]; omega), List.getElem?_take, if_pos hj, List.getElem?_drop]
  · rw [if_neg h, List.getElem?_append_right (by rw [hl]; omega), List.getElem?_drop]
    unfold zeroB
    rw [List.getElem?_replicate, if_pos (by rw [hl]; omega)]
theorem blkB_far (b : List UInt8) (i : Nat) (h : b.length ≤ i * 64) : blkB b i = zeroB := by
  unfold blkB
  rw [List.drop_of_length_le h]
  rfl
def allB (b : List UInt8) (n : Nat) : List UInt8 := ((List.range n).map (blkB b)).flatten
theorem allB_succ (b : List UInt8) (n : Nat) : allB b (n + 1) = allB b n ++ blkB b n := by simp [allB, List.range_succ]
theorem allB_len (b : List UInt8) (n : Nat) : (allB b n).length = 64 * n := by
  induction n with
  | zero => rfl
  | succ n ih => rw [allB_succ, List.length_append, ih, blkB_len]; omega
theorem allB_get (b : List UInt8) (n : Nat) : ∀ j, j < 64 * n → (allB b n)[j]? = if j < b.length then b[j]? else some 0 := by
  induction n with
  | zero => intro j hj; omega
  | succ n ih =>
    intro j hj
    rw [allB_succ]
    by_cases h : j < 64 * n
    · rw [List.getElem?_append_left (by rw [allB_len]; exact h), ih j h]
    · rw [List.getElem?_append_right (by rw [allB_len]; omega), allB_len, blkB_get b n (j - 64 * n) (by omega), show n * 64 + (j - 64 * n) = j by omega]
theorem allB_take (b : List UInt8) (n : Nat) (h : b.length ≤ 64 * n) : (allB b n).take b.length = b := by
  apply List.ext_getElem?
  intro j
  rw [List.getElem?_take]
  by_cases hj : j < b.length
  · rw [if_pos hj, allB_get b n j (by omega), if_pos hj]
  · rw [if_neg hj, List.getElem?_eq_none (by omega)]
/-- the disk when the first i sectors have been written -/
def wr0 (b : List UInt8) : Nat → DM
  | 0 => DM.new 16
  | i + 1 => (wr0 b i).write i (blkB b i)
theorem wr0_fuse (b : List UInt8) (i : Nat) : (wr0 b i).fuse = 0 := by
  induction i with
  | zero => rfl
  | succ i ih => exact (write_fuse ih).trans ih
theorem wr0_on (b : List UInt8) (i : Nat) : (wr0 b i).on = true := by
  induction i with
  | zero => rfl
  | succ i ih => exact (write_on (wr0_fuse b i)).trans ih
theorem wr0_len (b : List UInt8) (i : Nat) : (wr0 b i).S.length = 16 := by
  induction i with
  | zero => simp [wr0, DM.new]
  | succ i ih => exact (write_len _ _ _).trans ih
theorem wr0_ok (b : List UInt8) (i : Nat) : (wr0 b i).Ok i := by
  induction i with
  | zero => exact DM.new_ok (by omega) (by omega)
  | succ i ih => exact DM.write_ok ih (blkB_len b i)
theorem write_get (d : DM) (k : Nat) (l : List UInt8) (j : Nat) : (d.write k l).S[j]? = if k = j then d.S[j]?.map (· ++ [l]) else d.S[j]? := by
  unfold DM.write
  rw [DM.burn_S]
  simp only [List.getElem?_modify]
  split <;> simp
theorem wr0_get (b : List UInt8) (i k : Nat) (hk : k < 16) : (wr0 b i).S[k]? = some (if k < i then [zeroB, blkB b k] else [zeroB]) := by
  induction i with
  | zero =>
    show (List.replicate 16 [zeroB])[k]? = _
    rw [List.getElem?_replicate, if_pos hk, if_neg (by omega)]
  | succ i ih =>
    show ((wr0 b i).write i (blkB b i)).S[k]? = _
    rw [write_get, ih]
    by_cases e : i = k
    · subst e; simp
    · rw [if_neg e]
      by_cases h : k < i
      · rw [if_pos h, if_pos (by omega)]
      · rw [if_neg h, if_neg (by omega)]
/-- the first eight sectors have the blocks, flushed -/
def Has8 (b : List UInt8) (d : DM) : Prop := ∀ k, k < 8 → d.S[k]? = some [blkB b k]
theorem has8_flush (b : List UInt8) (i : Nat) (h : b.length ≤ i * 64) : Has8 b (wr0 b i).flush := by
  intro k hk
  unfold DM.flush
  rw [DM.burn_S]
  simp only [List.getElem?_map, wr0_get b i k (by omega), Option.map_some]
  by_cases hi : k < i
  · rw [if_pos hi]; rfl
  · rw [if_neg hi, blkB_far b k (Nat.le_trans h (Nat.mul_le_mul_right _ (by omega)))]; rfl
theorem Has8.write {b : List UInt8} {d : DM} (h : Has8 b d) {k : Nat} (hk : 8 ≤ k) (l : List UInt8) : Has8 b (d.write k l) := by
  intro j hj
  rw [write_get, if_neg (by omega)]
  exact h j hj
theorem setFuse_S (d : DM) (n : Int) : (d.setFuse n).S = d.S := by unfold DM.setFuse; split <;> rfl
theorem Has8.restart {b : List UInt8} {d : DM} (h : Has8 b d) (ts : List TM) (k : Nat) (hk : k < 8) (h2 : k < (d.restart ts).S.length) : lastB ((d.restart ts).S[k]'h2) = blkB b k := by
  have hd : k < d.S.length := by rw [restart_len] at h2; exact h2
  have e : d.S[k] = [blkB b k] := Option.some.inj ((List.getElem?_eq_getElem hd).symm.trans (h k hk))
  rw [restart_get d ts k hd h2, e]
  cases firstOf ts k with
  | none => rfl
  | some t => simp [surv]
theorem encL_pos (z : List Int) : 0 < (encL z).length := by
  unfold encL
  have := encU_len_pos z.length
  rw [List.length_append]; omega
theorem encL_le (z : List Int) (h : Ok64 z) (hz : z.length ≤ 30) : (encL z).length ≤ 310 := by
  unfold encL
  have h1 := encU_len10 z.length (by omega)
  have h2 := encIs_len z h
  rw [List.length_append]; omega
theorem rUint_enc (n : Nat) (r : List UInt8) (h : n < 18446744073709551616) : rUint ⟨encU n ++ r, 0⟩ = (n, ⟨r, 0⟩) := by
  rw [rUint_ok _ rfl]
  have := fnum_enc n r 0 0 (by simpa using h) (by omega) (by omega)
  simp only [this, Nat.zero_add, Nat.pow_zero, Nat.mul_one, List.drop_left]
theorem rInt_enc (n : Int) (r : List UInt8) (h1 : -9223372036854775808 ≤ n) (h2 : n ≤ 9223372036854775807) : rInt ⟨encI n ++ r, 0⟩ = (n, ⟨r, 0⟩) := by
  unfold rInt encI
  rw [rUint_enc _ _ (zig_lt n h1 h2)]
  simp only [zag_zig]
theorem rLen_enc (n : Nat) (r : List UInt8) (most : Int) (h : n < 18446744073709551616) (hm : (n : Int) ≤ most) : rLen ⟨encU n ++ r, 0⟩ most = (n, ⟨r, 0⟩) := by
  unfold rLen
  rw [rUint_enc n r h, if_neg (by simp only; omega)]
theorem rIntsGo_enc (l : List Int) : ∀ (acc : List Int) (r : List UInt8), Ok64 l → rIntsGo l.length acc ⟨l.flatMap encI ++ r, 0⟩ = (acc ++ l, ⟨r, 0⟩) := by
  induction l with
  | nil => intro acc r _; simp [rIntsGo]
  | cons x t ih =>
    intro acc r h
    have hx := h x (by simp)
    have ht : Ok64 t := fun y hy => h y (by simp [hy])
    rw [List.flatMap_cons, List.length_cons, rIntsGo, List.append_assoc, rInt_enc x _ hx.1 hx.2, if_pos rfl, ih _ _ ht]
    simp
theorem rInts_enc (l : List Int) (r : List UInt8) (most : Int) (h : Ok64 l) (hl : l.length < 18446744073709551616) (hm : (l.length : Int) ≤ most) : rInts ⟨encL l ++ r, 0⟩ most = (l, ⟨r, 0⟩) := by
  unfold rInts encL
  rw [List.append_assoc, rLen_enc _ _ most hl hm]
  simpa using rIntsGo_enc l [] r h
end Go.Proofs.YthffegfcgmhppaaDoor
namespace Go.Proofs.YthffegfcgmhppaaDoor
open Go.ChangeShapes Go.WideShapes Go.ChangeAt Go.RowKit
set_option linter.unusedSimpArgs false
set_option linter.unusedVariables false
section
variable {H : Type} {enc : TypeId × Value → H} {W : World} {base : Nat} {held : Bool}
set_option maxRecDepth 100000 in
theorem open_is {base0 : Nat} {v : Value} {d : DataW H} {p : List MemPlace} (hval : Value.okWide Tryd.prog W .any base0 24 v) (h : DataW.Trod enc Tryd.prog W base (fun _ => true) held 24 v d p) :
    ∃ a n c l, v = .slice a n c ∧ Is (Old W) W a n c l ∧ Ok64 l := by
  obtain ⟨a1, n1, c1, rfl⟩ := okWide_slice Tryd.underlying24 hval
  obtain ⟨fuel, hf⟩ := h
  obtain ⟨a, n, c, l, hcs, h1, h2⟩ := ints_of_trod hf
  simp [Value.cells] at hcs
  obtain ⟨rfl, rfl, rfl⟩ := hcs
  exact ⟨_, _, _, l, rfl, h1, h2⟩
end
end Go.Proofs.YthffegfcgmhppaaDoor
namespace Go.Proofs.YthffegfcgmhppaaDoor
open Go.RowKit
set_option linter.unusedSimpArgs false
set_option linter.unusedVariables false
set_option maxRecDepth 100000 in
set_option maxHeartbeats 400000 in
theorem putText_any (g : Nat) (k : Option Nat) (l : List UInt8) (s : ByteArray) (w : World) (hW : Wr w g k l) (hl : l.length ≤ 1000000000000) (hs : s.size ≤ 100000000000000) :
    Calls Tryd.prog 46 #[.pointer (some ⟨g, 0, none⟩), .string s] w fun e w' => e = .returned (.tuple #[]) ∧ Wrote g k w (l ++ s.data.toList) w' := by
  obtain ⟨i0, hi, hz0, hz1, hz2⟩ := info_parts info5
  obtain ⟨v, hg, hO, hk⟩ := hW
  have h0 : w.cell? ⟨g, 0, none⟩ = some v := by rw [cell_of_row w g 0 _ _ _ hg]; rfl
  have HG := Lib.hid hg
  have HO := Lib.hid hO
  have HK := Lib.hid hk
  clear hg hO hk
  go_enter Tryd.func46, Tryd.ntmps46
  go_wp2_with (at_builtin; refine wpList_append_any _ rfl (.tmp 8) (.tmp 9) 34 9 rfl 5 i0 (.int .u8 0) 1 1 Tryd.underlying34 hi hz0 hz1 hz2 rfl k v l.length (vals l) rfl HO.out s.size (byteCells s) (Src.ofString _ Tryd.underlying9 s) (by unfold maxLen; omega) (by omega) ?_)
  intro k' v' w' ho hf hK hn
  obtain ⟨a, c, rfl, -⟩ := ho.sl
  have hg' := hK.heap HG.out HK.out
  have c0 : w'.cell? ⟨g, 0, none⟩ = some v := by rw [cell_of_row w' g 0 _ _ _ hg']; rfl
  have f0 : w'.frozen? ⟨g, 0, none⟩ = false := frozen_of_row w' g 0 _ _ hg'
  have R : Wrote g k w (l ++ s.data.toList) (w'.setCell ⟨g, 0, none⟩ (.slice a (l.length + s.size) c)) := by
    have hg2 := HG.out
    have hl2 := heap_lt hg2
    refine ⟨k', ⟨_, one_set hg', ?_, ?_⟩, hf, (hK.mono (fun _ _ h => .inr h)).setCell (fun _ => .inl rfl) _⟩
    · rw [vals_app, List.length_append, Array.length_toList]
      rw [vals_str] at ho
      exact ho.kept ((Kept.refl (fun j => j = g) w').setCell (fun _ => rfl) _) (fun j hj e => by
        subst e
        rcases hf _ hj with h | h
        · exact HK.out h
        · omega)
    · intro e
      rcases hf _ e with h | h
      · exact HK.out h
      · omega
  have HR := Lib.hid R
  clear R hg' hn hK hf ho h0
  go_wp2
  go_end0
  exact ⟨rfl, HR.out⟩
set_option maxRecDepth 100000 in
set_option maxHeartbeats 400000 in
theorem wtext_any (g : Nat) (k : Option Nat) (l : List UInt8) (s : ByteArray) (w : World) (hW : Wr w g k l) (hl : l.length ≤ 400000000000) (hs : s.size ≤ 100000000000000) :
    Calls Tryd.prog 24 #[.pointer (some ⟨g, 0, none⟩), .string s] w fun e w' => e = .returned (.tuple #[]) ∧ Wrote g k w (l ++ encT s.data.toList) w' := by
  have HW := Lib.hid hW
  have HL := Lib.hid (encU_len10 s.size (by omega))
  clear hW
  go_enter Tryd.func24, Tryd.ntmps24
  go_wp2_with (first
    | (go_at_call 46; refine (putText_any g _ _ s _ W1.out (by have := HL.out; simp; omega) hs).mono ?_; rintro e w2 ⟨rfl, hw2⟩; have H2 := Lib.hid hw2; clear hw2)
    | (go_at_call 45; refine (wuint_any g k l s.size _ _ HW.out (by omega) (by omega) (by first | rfl | omega | (simp only [IntKind.wrap_u64]; omega))).mono ?_; rintro e w1 ⟨rfl, k1, hw1, hl1⟩; have W1 := Lib.hid hw1; have L1 := Lib.hid hl1; clear hw1 hl1))
  go_end0
  refine ⟨rfl, ?_⟩
  have h := H2.out.after L1.out
  rw [List.append_assoc] at h
  exact h
set_option maxRecDepth 100000 in
set_option maxHeartbeats 400000 in
theorem rtext_any (g : Nat) (k : Option Nat) (l : List UInt8) (e : Nat) (most : Int) (w : World) (hR : Rd w g k l e) (hl : l.length ≤ 100000000000000) (h1 : -9223372036854775808 ≤ most) (h2 : most ≤ 9223372036854775807) :
    Calls Tryd.prog 18 #[.pointer (some ⟨g, 0, none⟩), .int .i64 most] w fun x w' => x = .returned (.string ⟨(rText ⟨l, e⟩ most).1.toArray⟩) ∧ Reads g k w (rText ⟨l, e⟩ most).2.l (rText ⟨l, e⟩ most).2.e w' := by
  have hC := rlen_any g k l e most w hR hl h1 h2
  unfold rText
  have hv : (rLen ⟨l, e⟩ most).1 < 18446744073709551616 := by
    unfold rLen
    split
    · show 0 < 18446744073709551616
      omega
    · exact rUint_val _
  have hll := rLen_len ⟨l, e⟩ most
  generalize rLen ⟨l, e⟩ most = R at *
  obtain ⟨V, S, E⟩ := R
  simp only at hC hv hll ⊢
  have HC := Lib.hid hC
  clear hC hR
  by_cases hm : S.length < V
  · rw [if_pos hm]
    go_enter Tryd.func18, Tryd.ntmps18
    go_wp2_with (first
      | (go_at_call 36; refine HC.out.mono ?_; rintro e w1 ⟨rfl, h1⟩; have H1 := Lib.hid h1; clear h1)
      | (go_at_call 37; refine (left_any g k _ _ _ H1.out.1).mono ?_; rintro e w2 ⟨rfl, rfl⟩)
      | (go_at_call 38; refine (fail_any g k _ _ 6 _ _ H1.out.1 rfl).mono ?_; rintro e w2 ⟨rfl, h2⟩; have H2 := Lib.hid h2; clear h2))
    go_ret
    exact ⟨rfl, H1.out.trans H2.out⟩
  · rw [if_neg hm]
    go_enter Tryd.func18, Tryd.ntmps18
    go_wp2_with (first
      | (go_at_call 36; refine HC.out.mono ?_; rintro e w1 ⟨rfl, h1⟩; have H1 := Lib.hid h1; clear h1)
      | (go_at_call 37; refine (left_any g k _ _ _ H1.out.1).mono ?_; rintro e w2 ⟨rfl, rfl⟩)
      | (go_at_call 39; refine (take_any g k S E V _ H1.out.1 (by omega)).mono ?_; rintro e w3 ⟨a3, c3, rfl, hb3, h3⟩; have r3 := run_str hb3; have H3 := Lib.hid h3; clear h3 hb3))
    go_ret
    exact ⟨rfl, H1.out.trans H3.out⟩
theorem rText_enc (s r : List UInt8) (most : Int) (h : s.length < 18446744073709551616) (hm : (s.length : Int) ≤ most) : rText ⟨encT s ++ r, 0⟩ most = (s, ⟨r, 0⟩) := by
  unfold rText encT
  rw [List.append_assoc, rLen_enc _ _ most h hm, if_neg (by simp only [List.length_append]; omega)]
  simp only [List.take_left, List.drop_left]
end Go.Proofs.YthffegfcgmhppaaDoor
namespace Go.Proofs.YthffegfcgmhppaaDoor
open Go.RowKit
set_option linter.unusedSimpArgs false
set_option linter.unusedVariables false
/-- a row of one's own, of things of one cell, from any place of its block on -/
def Rw (w : World) (e : TypeId) (k : Option Nat) (v : Value) (n : Nat) (xs : List Value) : Prop :=
  xs.length = n ∧ ((k = none ∧ v = .slice none 0 0 ∧ n = 0) ∨
    ∃ g off cap cur, k = some g ∧ v = .slice (some ⟨g, off, none⟩) n cap ∧ w.heap[g]? = some (.cells cur e (0, 0)) ∧ n ≤ cap ∧ cap ≤ maxLen ∧ off + cap = cur.size ∧ (cur.toList.drop off).take n = xs)
theorem Rw.nil (w : World) (e : TypeId) : Rw w e none (.slice none 0 0) 0 [] := ⟨rfl, .inl ⟨rfl, rfl, rfl⟩⟩
theorem Rw.lt {w : World} {e : TypeId} {k : Option Nat} {v : Value} {n : Nat} {xs : List Value} (h : Rw w e k v n xs) : ∀ j, k = some j → j < w.heap.size := by
  intro j hj
  rcases h.2 with ⟨rfl, _⟩ | ⟨g, off, cap, cur, rfl, _, hg, _⟩
  · cases hj
  · cases hj; exact (Array.getElem?_eq_some_iff.1 hg).1
theorem Rw.kept {S : Nat → Prop} {w w' : World} {e : TypeId} {k : Option Nat} {v : Value} {n : Nat} {xs : List Value} (h : Rw w e k v n xs) (hk : Kept S w w') (hs : ∀ j, k = some j → ¬ S j) : Rw w' e k v n xs := by
  refine ⟨h.1, ?_⟩
  rcases h.2 with hn | ⟨g, off, cap, cur, rfl, rfl, hg, rest⟩
  · exact .inl hn
  · exact .inr ⟨g, off, cap, cur, rfl, rfl, hk.heap hg (hs g rfl), rest⟩
/-- it reads as its cells -/
theorem Rw.at {w : World} {e : TypeId} {k : Option Nat} {v : Value} {n : Nat} {xs : List Value} (h : Rw w e k v n xs) (hp : 0 < n) : ∃ g off cap, k = some g ∧ v = .slice (some ⟨g, off, none⟩) n cap ∧ n ≤ cap ∧ cap ≤ 9223372036854775807 ∧ g < w.heap.size ∧ ∀ j (hj : j < xs.length), w.cell? ⟨g, off + j, none⟩ = some xs[j] := by
  obtain ⟨hl, h⟩ := h
  rcases h with ⟨_, _, rfl⟩ | ⟨g, off, cap, cur, rfl, rfl, hg, h1, h2, h3, h4⟩
  · omega
  · refine ⟨g, off, cap, rfl, rfl, h1, h2, (Array.getElem?_eq_some_iff.1 hg).1, fun j hj => ?_⟩
    have hlen : j < n := by omega
    rw [show cur = cur.toList.toArray by simp] at hg
    rw [cell_of_row w g (off + j) _ _ _ hg]
    have e2 : xs[j]? = some xs[j] := List.getElem?_eq_getElem hj
    rw [← e2, ← h4, List.getElem?_take, if_pos hlen, List.getElem?_drop]
    simp
theorem Rw.one (w : World) (e : TypeId) (x : Value) : Rw (w.alloc (.cells #[x] e)) e (some w.heap.size) (.slice (some ⟨w.heap.size, 0, none⟩) 1 1) 1 [x] :=
  ⟨rfl, .inr ⟨w.heap.size, 0, 1, #[x], rfl, rfl, heap_new rfl, Nat.le_refl _, by decide, rfl, rfl⟩⟩
/-- cut short -/
theorem Rw.upto {w : World} {e : TypeId} {k : Option Nat} {a : Option Addr} {n c : Nat} {xs : List Value} (h : Rw w e k (.slice a n c) n xs) (m : Nat) (hm : m ≤ n) : Rw w e k (.slice a m c) m (xs.take m) := by
  obtain ⟨hl, h⟩ := h
  refine ⟨by rw [List.length_take]; omega, ?_⟩
  rcases h with ⟨rfl, e1, rfl⟩ | ⟨g, off, cap, cur, rfl, e1, hg, h1, h2, h3, h4⟩
  · cases e1
    obtain rfl : m = 0 := by omega
    exact .inl ⟨rfl, rfl, rfl⟩
  · cases e1
    refine .inr ⟨g, off, c, cur, rfl, rfl, hg, by omega, h2, h3, ?_⟩
    rw [← h4, List.take_take, Nat.min_eq_left hm]
/-- from a later place on -/
theorem Rw.from {w : World} {e : TypeId} {k : Option Nat} {g off n c : Nat} {xs : List Value} (h : Rw w e k (.slice (some ⟨g, off, none⟩) n c) n xs) (m : Nat) (hm : m ≤ n) : Rw w e k (.slice (some ⟨g, off + m, none⟩) (n - m) (c - m)) (n - m) (xs.drop m) := by
  obtain ⟨hl, h⟩ := h
  refine ⟨by rw [List.length_drop]; omega, ?_⟩
  rcases h with ⟨rfl, e1, rfl⟩ | ⟨g, off, cap, cur, rfl, e1, hg, h1, h2, h3, h4⟩
  · cases e1
  · cases e1
    refine .inr ⟨_, off + m, c - m, cur, rfl, rfl, hg, by omega, by omega, by omega, ?_⟩
    rw [← h4, List.drop_take, List.drop_drop]
section
variable {P : Program} (w : World)
theorem run_append_roomO (t tx ty e : TypeId) (i : TypeInfo) (ht : P.underlying t = some (.slice e)) (hi : P.info? e = some i) (hz : i.size = 1)
    (g off sLen sCap : Nat) (cur : Array Value) (hg : w.heap[g]? = some (.cells cur e (0, 0)))
    (x : Value) (m : Nat) (news : List Value) (hs : Src P 1 tx x m news w) (hroom : sLen + m ≤ sCap) (hfit : off + sLen + news.length ≤ cur.size) :
    (Builtin.append_ #[t, tx] ty #[.slice (some ⟨g, off, none⟩) sLen sCap, x]).run P w =
      .ok (.slice (some ⟨g, off, none⟩) (sLen + m) sCap) (w.setRow g (cur.toList.take (off + sLen) ++ news ++ cur.toList.drop (off + sLen + news.length)).toArray) := by
  have hst := run_storeCells_at P g (off + sLen) e news 0 cur w hg (by simpa using hfit) hs.one
  simp only [Nat.add_zero] at hst
  rcases hs.kind with ⟨e', hk⟩ | hk <;> simp [Builtin.append_, run_underlying ht, run_underlying hk, sizeOf, typeInfo, hi, hz, hs.len, hroom, hs.cells, Addr.add_mid, hst]
/-- append onto such a row -/
theorem run_append_rw (t tx ty e : TypeId) (i : TypeInfo) (z : Value) (bytes : Nat) (ht : P.underlying t = some (.slice e)) (hi : P.info? e = some i) (hz : i.zero = some z)
    (hsize : i.size = 1) (hby : i.bytes = bytes) (hzs : z.cells.size = 1) (k : Option Nat) (v : Value) (n : Nat) (xs : List Value) (hown : Rw w e k v n xs)
    (x : Value) (m : Nat) (news : List Value) (hs : Src P 1 tx x m news w) (h63 : n + m ≤ maxLen) (hbytes : (n + m) * bytes ≤ 140737488355328) :
    ∃ k' v' w', (Builtin.append_ #[t, tx] ty #[v, x]).run P w = .ok v' w' ∧ Rw w' e k' v' (n + m) (xs ++ news) ∧ (∀ j, k' = some j → k = some j ∨ w.heap.size ≤ j) ∧ Kept (fun j => k = some j) w w' := by
  subst hby
  have hsmall : n + m ≤ 9223372036854775807 := by simp only [maxLen] at h63; omega
  have hnl : news.length = m := by have := hs.newsLen; omega
  have hlen : (xs ++ news).length = n + m := by rw [List.length_append, hown.1, hnl]
  have grows : ∀ (b : Option Addr) (old : Nat), v = .slice b n old → old < n + m → (Builtin.firstCells i.size n (.slice b n old)).run P w.drew = .ok xs.toArray w.drew → ∃ k' v' w', (Builtin.append_ #[t, tx] ty #[v, x]).run P w = .ok v' w' ∧ Rw w' e k' v' (n + m) (xs ++ news) ∧ (∀ j, k' = some j → k = some j ∨ w.heap.size ≤ j) ∧ Kept (fun j => k = some j) w w' := by
    intro b old hv ho hf
    subst hv
    have hr := run_append_grow_src (P := P) w t tx ty e i z ht hi hz b n old xs hf x m news (hsize ▸ hs) ho (by omega) (growslice_fits (by omega) hbytes)
    have hge := grownCap_ge w (n + m) old e
    have hcm : grownCap w (n + m) old e ≤ maxLen := grownCap_le_maxLen w (n + m) old e h63
    refine ⟨some w.heap.size, _, _, hr, ⟨hlen, .inr ⟨w.heap.size, 0, _, _, rfl, rfl, heap_alloc_new w.drew _, hge, hcm, ?_, ?_⟩⟩, ?_, ?_⟩
    · simp only [Array.size_append, List.size_toArray, size_zeroCells, hzs, hlen]
      omega
    · simp only [Array.toList_append, List.drop_zero]
      rw [← hlen]
      exact List.take_left
    · intro j hj; cases hj; exact .inr (Nat.le_refl _)
    · exact (Kept.refl _ w).drew.alloc _
  have hown2 := hown
  rcases hown.2 with ⟨rfl, rfl, rfl⟩ | ⟨g, off, cap, cur, rfl, rfl, hg, hnc, hcm, hcs, htake⟩
  · have hx : xs = [] := List.eq_nil_of_length_eq_zero hown.1
    subst hx
    by_cases hm : m = 0
    · subst hm
      have hn : news = [] := List.eq_nil_of_length_eq_zero hnl
      subst hn
      refine ⟨none, .slice none 0 0, w, ?_, Rw.nil w e, (fun _ h => by cases h), Kept.refl _ _⟩
      have hc := hs.cells
      rcases hs.kind with ⟨e', hk⟩ | hk <;> simp [Builtin.append_, run_underlying ht, run_underlying hk, sizeOf, typeInfo, hi, hsize, hs.len, hc]
    · exact grows none 0 rfl (by omega) (run_firstCells_none w.drew i.size 0 0 0)
  · by_cases hroom : n + m ≤ cap
    · have hfit : off + n + news.length ≤ cur.size := by omega
      have hr := run_append_roomO (P := P) w t tx ty e i ht hi hsize g off n cap cur hg x m news hs hroom hfit
      have hcl : cur.toList.length = cur.size := by simp
      refine ⟨some g, _, _, hr, ⟨hlen, .inr ⟨g, off, cap, _, rfl, rfl, setRow_heap w g cur _ e _ hg, hroom, hcm, ?_, ?_⟩⟩, ?_, ?_⟩
      · simp only [List.size_toArray, List.length_append, List.length_take, List.length_drop, Array.length_toList]
        omega
      · have e1 : (cur.toList.take (off + n)).drop off = xs := by rw [List.drop_take, ← htake, show off + n - off = n by omega]
        simp only [List.append_assoc]
        rw [List.drop_append_of_le_length (by rw [List.length_take]; omega), e1, ← List.append_assoc, ← hlen]
        exact List.take_left
      · intro j hj; cases hj; exact .inl rfl
      · exact (Kept.refl (fun j => some g = some j) w).setRow (fun _ => rfl) _
    · refine grows _ cap rfl (by omega) (run_firstCells_some w.drew i.size n ⟨g, off, none⟩ n cap xs (by rw [hsize, hown.1]; omega) ?_)
      intro j u hu
      have hj : j < xs.length := (List.getElem?_eq_some_iff.1 hu).1
      obtain ⟨g', off', cap', e1, e2, _, _, _, hc⟩ := hown2.at (by have := hown.1; omega)
      cases e2
      rw [Addr.add_mid]
      have := hc j hj
      rw [List.getElem?_eq_getElem hj] at hu
      rw [← Option.some.inj hu]
      exact this
theorem wpList_append_rw {ops : Array Oper} {rest : List Oper} {o : Oper} {a : Act} {Q : Exit → Act → World → Prop} (hgd : o.guard = none) (s x : Operand) (t tx : TypeId)
    (ho : o.op = .call { callee := .builtin .append, args := #[s, x], argTypes := #[t, tx] })
    (e : TypeId) (i : TypeInfo) (z : Value) (bytes : Nat) (ht : P.underlying t = some (.slice e)) (hi : P.info? e = some i) (hz : i.zero = some z)
    (hsize : i.size = 1) (hby : i.bytes = bytes) (hzs : z.cells.size = 1) (k : Option Nat) (v : Value) (n : Nat) (xs : List Value) (hv : a.eval s = v) (hown : Rw w e k v n xs)
    (m : Nat) (news : List Value) (hs : Src P 1 tx (a.eval x) m news w) (h63 : n + m ≤ maxLen) (hbytes : (n + m) * bytes ≤ 140737488355328)
    (h : ∀ k' v' w', Rw w' e k' v' (n + m) (xs ++ news) → (∀ j, k' = some j → k = some j ∨ w.heap.size ≤ j) → Kept (fun j => k = some j) w w' → wpList P ops Q rest (a.put o.dst v') w') : wpList P ops Q (o :: rest) a w := by
  obtain ⟨k', v', w', hr, h2, h3, h4⟩ := run_append_rw (P := P) w t tx o.type e i z bytes ht hi hz hsize hby hzs k v n xs hown (a.eval x) m news hs h63 hbytes
  refine wpList_plain hgd fun K hK => ?_
  unfold Oper.wp execOp
  simp only [ho, resolve, invoke, builtin, Sem.run_bind, Sem.run_pure, Result.andThen_ok, List.map_toArray, List.map_cons, List.map_nil, hv, hr]
  exact hK _ _ (h k' v' w' h2 h3 h4)
end
/-- an element of it is stored -/
theorem Rw.set {w : World} {e : TypeId} {g off n c : Nat} {xs : List Value} (h : Rw w e (some g) (.slice (some ⟨g, off, none⟩) n c) n xs) (k : Nat) (hk : k < n) (u : Value) : Rw (w.setCell ⟨g, off + k, none⟩ u) e (some g) (.slice (some ⟨g, off, none⟩) n c) n (xs.set k u) := by
  obtain ⟨hl, h⟩ := h
  refine ⟨by rw [List.length_set]; exact hl, ?_⟩
  rcases h with ⟨e0, _⟩ | ⟨g', off', cap, cur, e0, e1, hg, h1, h2, h3, h4⟩
  · cases e0
  · cases e0; cases e1
    refine .inr ⟨_, off, c, _, rfl, rfl, heap_setCell_same w g (off + k) _ _ _ hg, h1, h2, by simpa using h3, ?_⟩
    apply List.ext_getElem?
    intro j
    rw [← h4]
    simp only [List.getElem?_take, List.getElem?_drop, List.getElem?_set]
    by_cases hj : j < n
    · simp only [if_pos hj]
      by_cases e : k = j
      · subst e
        have : off + k < cur.size := by omega
        simp [Array.getElem?_setIfInBounds, this, hj, List.length_take, List.length_drop]
        omega
      · rw [if_neg e]
        simp [Array.getElem?_setIfInBounds, e, hj]
    · simp only [if_neg hj]
      split
      · rename_i e; subst e
        exact absurd hk hj
      · rfl
end Go.Proofs.YthffegfcgmhppaaDoor
namespace Go.Proofs.YthffegfcgmhppaaDoor
open Go.RowKit
set_option linter.unusedSimpArgs false
set_option linter.unusedVariables false
/-- nothing -/
def noO : Obj := ⟨fun _ _ => True, fun _ _ _ => trivial⟩
/-- two things that lie apart -/
def pairO (o1 o2 : Obj) : Obj := ⟨fun B w => ∃ B1 B2, o1.at' B1 w ∧ o2.at' B2 w ∧ (∀ x, B1 x → ¬ B2 x) ∧ (∀ x, B1 x → B x) ∧ ∀ x, B2 x → B x, fun {B S w w'} h hk hs => by
  obtain ⟨B1, B2, h1, h2, h3, h4, h5⟩ := h
  exact ⟨B1, B2, o1.kept h1 hk (fun j hj hb => hs j hj (h4 j hb)), o2.kept h2 hk (fun j hj hb => hs j hj (h5 j hb)), h3, h4, h5⟩⟩
theorem Lv.join {w0 w : World} {L : List Obj} (h : Lv w0 w L) {i j : Nat} {o1 o2 : Obj} (hij : i ≠ j) (hi : L[i]? = some o1) (hj : L[j]? = some o2) : Lv w0 w ((L.set i (pairO o1 o2)).set j noO) := by
  obtain ⟨h1, Bs, h2, h3, h4⟩ := h
  have hil : i < L.length := (List.getElem?_eq_some_iff.1 hi).1
  have hjl : j < L.length := (List.getElem?_eq_some_iff.1 hj).1
  have hBi : Bs[i]? = some Bs[i] := List.getElem?_eq_getElem (by omega)
  have hBj : Bs[j]? = some Bs[j] := List.getElem?_eq_getElem (by omega)
  obtain ⟨e1, e2⟩ := h3 i o1 _ hi hBi
  obtain ⟨f1, f2⟩ := h3 j o2 _ hj hBj
  refine ⟨h1, (Bs.set i (fun x => Bs[i] x ∨ Bs[j] x)).set j (fun _ => False), by simp [h2], fun k o B hk hB => ?_, fun k l A C hkl hA hC x hx hx2 => ?_⟩
  · rw [List.getElem?_set] at hk hB
    by_cases e : j = k
    · subst e
      rw [if_pos rfl, if_pos (by simpa using hjl)] at hk
      rw [if_pos rfl, if_pos (by simp; omega)] at hB
      cases hk; cases hB
      exact ⟨trivial, fun _ h => h.elim⟩
    · rw [if_neg e, List.getElem?_set] at hk hB
      by_cases e3 : i = k
      · subst e3
        rw [if_pos rfl, if_pos hil] at hk
        rw [if_pos rfl, if_pos (by omega)] at hB
        cases hk; cases hB
        exact ⟨⟨_, _, e1, f1, h4 i j _ _ hij hBi hBj, fun _ h => .inl h, fun _ h => .inr h⟩, fun x hx => hx.elim (e2 x) (f2 x)⟩
      · rw [if_neg e3] at hk hB
        exact h3 k o B hk hB
  · have key : ∀ (k l : Nat) (A C : Nat → Prop), k ≠ l → ((Bs.set i (fun x => Bs[i] x ∨ Bs[j] x)).set j (fun _ => False))[k]? = some A → ((Bs.set i (fun x => Bs[i] x ∨ Bs[j] x)).set j (fun _ => False))[l]? = some C → k = i → ∀ x, A x → ¬ C x := by
      intro k l A C hkl hA hC e x hx hx2
      subst e
      rw [List.getElem?_set, if_neg (fun e => hij e.symm), List.getElem?_set, if_pos rfl, if_pos (by omega)] at hA
      cases hA
      rw [List.getElem?_set] at hC
      by_cases e : j = l
      · rw [if_pos e, if_pos (by simp; omega)] at hC
        cases hC
        exact hx2
      · rw [if_neg e, List.getElem?_set, if_neg hkl] at hC
        exact hx.elim (fun hx => h4 k l _ _ hkl hBi hC x hx hx2) (fun hx => h4 j l _ _ e hBj hC x hx hx2)
    by_cases ek : k = i
    · exact key k l A C hkl hA hC ek x hx hx2
    · by_cases el : l = i
      · exact key l k C A (fun e => hkl e.symm) hC hA el x hx2 hx
      · rw [List.getElem?_set] at hA hC
        by_cases e : j = k
        · rw [if_pos e, if_pos (by simp; omega)] at hA
          cases hA
          exact hx
        · rw [if_neg e, List.getElem?_set, if_neg (fun e => ek e.symm)] at hA
          by_cases e2 : j = l
          · rw [if_pos e2, if_pos (by simp; omega)] at hC
            cases hC
            exact hx2
          · rw [if_neg e2, List.getElem?_set, if_neg (fun e => el e.symm)] at hC
            exact h4 k l A C hkl hA hC x hx hx2
/-- a slice of slices of bytes: its row in block k, the bytes in Bf -/
def Recs (w : World) (k : Option Nat) (Bf : Nat → Prop) (v : Value) (rs : List (List UInt8)) : Prop :=
  ∃ ys, Rw w 34 k v rs.length ys ∧ ∀ j (hj : j < rs.length), ∃ a c, ys[j]? = some (.slice a rs[j].length c) ∧ Bs Bf w a rs[j].length c rs[j]
theorem Recs.kept {S Bf : Nat → Prop} {w w' : World} {k : Option Nat} {v : Value} {rs : List (List UInt8)} (h : Recs w k Bf v rs) (hk : Kept S w w') (hr : ∀ x, k = some x → ¬ S x) (hb : ∀ x, x < w.heap.size → Bf x → ¬ S x) : Recs w' k Bf v rs := by
  obtain ⟨ys, h1, h2⟩ := h
  refine ⟨ys, h1.kept hk hr, fun j hj => ?_⟩
  obtain ⟨a, c, h3, h4⟩ := h2 j hj
  exact ⟨a, c, h3, h4.kept hk hb⟩
theorem Recs.dom {Bf Bf' : Nat → Prop} {w : World} {k : Option Nat} {v : Value} {rs : List (List UInt8)} (h : Recs w k Bf v rs) (hb : ∀ x, Bf x → Bf' x) : Recs w k Bf' v rs := by
  obtain ⟨ys, h1, h2⟩ := h
  exact ⟨ys, h1, fun j hj => by obtain ⟨a, c, h3, h4⟩ := h2 j hj; exact ⟨a, c, h3, h4.dom hb⟩⟩
theorem Recs.lt {Bf : Nat → Prop} {w : World} {k : Option Nat} {v : Value} {rs : List (List UInt8)} (h : Recs w k Bf v rs) : ∀ x, k = some x → x < w.heap.size := by
  obtain ⟨ys, h1, _⟩ := h
  exact h1.lt
theorem Recs.nil (w : World) : Recs w none (fun _ => False) (.slice none 0 0) [] := ⟨[], Rw.nil _ _, fun j hj => absurd hj (by simp)⟩
/-- a slice value of such records -/
theorem Rw.shape {w : World} {e : TypeId} {k : Option Nat} {v : Value} {n : Nat} {xs : List Value} (h : Rw w e k v n xs) : ∃ a c, v = .slice a n c ∧ n ≤ c ∧ c ≤ 9223372036854775807 := by
  rcases h.2 with ⟨_, rfl, rfl⟩ | ⟨g, off, cap, cur, _, rfl, _, h1, h2, _⟩
  · exact ⟨none, 0, rfl, Nat.le_refl _, by omega⟩
  · exact ⟨_, _, rfl, h1, h2⟩
theorem Recs.shape {Bf : Nat → Prop} {w : World} {k : Option Nat} {v : Value} {rs : List (List UInt8)} (h : Recs w k Bf v rs) : ∃ a c, v = .slice a rs.length c ∧ rs.length ≤ c ∧ c ≤ 9223372036854775807 := by
  obtain ⟨ys, h1, _⟩ := h
  exact h1.shape
/-- record j of them, as it is read -/
theorem Recs.look {Bf : Nat → Prop} {w : World} {k : Option Nat} {a : Option Addr} {n c : Nat} {rs : List (List UInt8)} (h : Recs w k Bf (.slice a n c) rs) (j : Nat) (hj : j < rs.length) :
    ∃ g off b cb, k = some g ∧ a = some ⟨g, off, none⟩ ∧ g < w.heap.size ∧ w.cell? ⟨g, off + j, none⟩ = some (.slice b rs[j].length cb) ∧ Bs Bf w b rs[j].length cb rs[j] := by
  obtain ⟨ys, h1, h2⟩ := h
  obtain ⟨g, off, cap, hk, hv, _, _, hg, hc⟩ := h1.at (by omega)
  obtain ⟨b, cb, h3, h4⟩ := h2 j hj
  have hjl : j < ys.length := by rw [h1.1]; exact hj
  have := hc j hjl
  rw [List.getElem?_eq_getElem hjl] at h3
  rw [Option.some.inj h3] at this
  cases hv
  exact ⟨g, off, b, cb, hk, rfl, hg, this, h4⟩
/-- records that can be read -/
def RdR (D : Nat → Prop) (w : World) (a : Option Addr) (n c : Nat) (rs : List (List UInt8)) : Prop :=
  rs.length = n ∧ n ≤ c ∧ c ≤ 9223372036854775807 ∧ ∀ j (hj : j < rs.length), ∃ g off b cb, D g ∧ a = some ⟨g, off, none⟩ ∧ g < w.heap.size ∧ w.cell? ⟨g, off + j, none⟩ = some (.slice b rs[j].length cb) ∧ Bs D w b rs[j].length cb rs[j]
theorem RdR.kept {S D : Nat → Prop} {w w' : World} {a : Option Addr} {n c : Nat} {rs : List (List UInt8)} (h : RdR D w a n c rs) (hk : Kept S w w') (hs : ∀ x, x < w.heap.size → D x → ¬ S x) : RdR D w' a n c rs := by
  obtain ⟨h1, h2, h3, h4⟩ := h
  refine ⟨h1, h2, h3, fun j hj => ?_⟩
  obtain ⟨g, off, b, cb, e1, e2, e3, e4, e5⟩ := h4 j hj
  exact ⟨g, off, b, cb, e1, e2, Nat.lt_of_lt_of_le e3 hk.size, (hk.cell (p := ⟨g, off + j, none⟩) e3 (hs g e3 e1)).trans e4, e5.kept hk hs⟩
theorem RdR.below {D : Nat → Prop} {w w' : World} {a : Option Addr} {n c : Nat} {rs : List (List UInt8)} (h : RdR D w a n c rs) (hb : Below w.heap.size w w') : RdR D w' a n c rs := h.kept (Kept.of_below (fun _ => False) hb) (fun _ _ _ h => h)
theorem Recs.rd {Bf D : Nat → Prop} {w : World} {k : Option Nat} {a : Option Addr} {n c : Nat} {rs : List (List UInt8)} (h : Recs w k Bf (.slice a n c) rs) (hk : ∀ x, k = some x → D x) (hb : ∀ x, Bf x → D x) : RdR D w a n c rs := by
  obtain ⟨a', c', e, h1, h2⟩ := h.shape
  cases e
  refine ⟨rfl, h1, h2, fun j hj => ?_⟩
  obtain ⟨g, off, b, cb, e1, e2, e3, e4, e5⟩ := h.look j hj
  exact ⟨g, off, b, cb, hk g e1, e2, e3, e4, e5.dom hb⟩
theorem RdR.from {D : Nat → Prop} {w : World} {a : Option Addr} {n c : Nat} {rs : List (List UInt8)} (h : RdR D w a n c rs) (s : Nat) (hs : s ≤ n) : RdR D w (if c = s then a else Option.map (fun x => x.add s) a) (n - s) (c - s) (rs.drop s) := by
  obtain ⟨h1, h2, h3, h4⟩ := h
  refine ⟨by rw [List.length_drop, h1], by omega, by omega, fun j hj => ?_⟩
  rw [List.length_drop] at hj
  obtain ⟨g, off, b, cb, e1, rfl, e3, e4, e5⟩ := h4 (s + j) (by omega)
  rw [if_neg (by omega)]
  refine ⟨g, off + s, b, cb, e1, by simp [Addr.add_mid], e3, ?_, ?_⟩
  · rw [Nat.add_assoc, e4, List.getElem_drop]
  · rw [List.getElem_drop]; exact e5
theorem RdR.upto {D : Nat → Prop} {w : World} {a : Option Addr} {n c : Nat} {rs : List (List UInt8)} (h : RdR D w a n c rs) (s : Nat) (hs : s ≤ n) : RdR D w a s c (rs.take s) := by
  obtain ⟨h1, h2, h3, h4⟩ := h
  refine ⟨by rw [List.length_take]; omega, by omega, h3, fun j hj => ?_⟩
  rw [List.length_take] at hj
  obtain ⟨g, off, b, cb, e⟩ := h4 j (by omega)
  refine ⟨g, off, b, cb, ?_⟩
  simp only [List.getElem_take]
  exact e
theorem RdR.nil (w : World) : RdR (fun _ => False) w none 0 0 [] := ⟨rfl, Nat.le_refl _, by omega, fun j hj => absurd hj (by simp)⟩
/-- some records as a thing -/
def recsO (v : Value) (rs : List (List UInt8)) : Obj := ⟨fun B w => ∃ k Bf, Recs w k Bf v rs ∧ (∀ x, k = some x → B x ∧ ¬ Bf x) ∧ ∀ x, Bf x → B x, fun {B S w w'} h hk hs => by
  obtain ⟨k, Bf, h1, h2, h3⟩ := h
  exact ⟨k, Bf, h1.kept hk (fun x hx => hs x (h1.lt x hx) (h2 x hx).1) (fun x hx hb => hs x hx (h3 x hb)), h2, h3⟩⟩
theorem Lv.recs0 {w0 w : World} {L : List Obj} (h : Lv w0 w L) : Lv w0 w (recsO (.slice none 0 0) [] :: L) :=
  h.cons (Below.refl _ _) (B := fun _ => False) ⟨none, fun _ => False, Recs.nil w, (fun _ h => by cases h), fun _ h => h⟩ (fun _ h => h.elim)
/-- a log: its place, its round and its end, its records, how many are durable, what they count for -/
structure LM where
  frm : Nat
  n : Nat
  rnd : Nat
  en : Nat
  recs : List (List UInt8)
  syn : Nat
  tak : Nat
def LM.cells (g : Nat) (m : LM) (v : Value) : List Value := [.pointer (some ⟨g, 0, none⟩), .int .i64 (m.frm : Int), .int .i64 (m.n : Int), .int .u8 (m.rnd : Int), .int .i64 (m.en : Int), v, .int .i64 (m.syn : Int), .int .i64 (m.tak : Int)]
structure Lg (w : World) (gl g : Nat) (k : Option Nat) (Bf : Nat → Prop) (v : Value) (m : LM) : Prop where
  self : w.heap[gl]? = some (.cells (LM.cells g m v).toArray 62 (0, 0))
  recs : Recs w k Bf v m.recs
  ap : k ≠ some gl ∧ ¬ Bf gl ∧ ∀ x, k = some x → ¬ Bf x
  lt : ∀ x, Bf x → x < w.heap.size
def LBlk (gl : Nat) (k : Option Nat) (Bf : Nat → Prop) (x : Nat) : Prop := x = gl ∨ k = some x ∨ Bf x
theorem Lg.blk_lt {w : World} {gl g : Nat} {k : Option Nat} {Bf : Nat → Prop} {v : Value} {m : LM} (h : Lg w gl g k Bf v m) : ∀ x, LBlk gl k Bf x → x < w.heap.size := by
  rintro x (rfl | hx | hx)
  · exact (Array.getElem?_eq_some_iff.1 h.self).1
  · exact h.recs.lt x hx
  · exact h.lt x hx
theorem Lg.kept {S : Nat → Prop} {w w' : World} {gl g : Nat} {k : Option Nat} {Bf : Nat → Prop} {v : Value} {m : LM} (h : Lg w gl g k Bf v m) (hk : Kept S w w') (hs : ∀ x, LBlk gl k Bf x → ¬ S x) : Lg w' gl g k Bf v m :=
  ⟨hk.heap h.self (hs gl (.inl rfl)), h.recs.kept hk (fun x hx => hs x (.inr (.inl hx))) (fun x _ hx => hs x (.inr (.inr hx))), h.ap, fun x hx => Nat.lt_of_lt_of_le (h.lt x hx) hk.size⟩
def logO (gl g : Nat) (m : LM) : Obj := ⟨fun B w => ∃ k Bf v, Lg w gl g k Bf v m ∧ ∀ x, LBlk gl k Bf x → B x, fun {B S w w'} h hk hs => by
  obtain ⟨k, Bf, v, h1, h2⟩ := h
  exact ⟨k, Bf, v, h1.kept hk (fun x hx => hs x (h1.blk_lt x hx) (h2 x hx)), h2⟩⟩
/-- what a walk reads of a log -/
theorem Lg.facts {w : World} {gl g : Nat} {k : Option Nat} {Bf : Nat → Prop} {v : Value} {m : LM} (h : Lg w gl g k Bf v m) : ∃ a c, v = .slice a m.recs.length c ∧ m.recs.length ≤ c ∧ c ≤ 9223372036854775807 ∧ gl < w.heap.size ∧
    w.cell? ⟨gl, 0, none⟩ = some (.pointer (some ⟨g, 0, none⟩)) ∧ w.cell? ⟨gl, 1, none⟩ = some (.int .i64 (m.frm : Int)) ∧ w.cell? ⟨gl, 2, none⟩ = some (.int .i64 (m.n : Int)) ∧ w.cell? ⟨gl, 3, none⟩ = some (.int .u8 (m.rnd : Int)) ∧ w.cell? ⟨gl, 4, none⟩ = some (.int .i64 (m.en : Int)) ∧
    w.cell? ⟨gl, 5, none⟩ = some (.slice a m.recs.length c) ∧ w.cell? ⟨gl, 6, none⟩ = some (.int .i64 (m.syn : Int)) ∧ w.cell? ⟨gl, 7, none⟩ = some (.int .i64 (m.tak : Int)) ∧ ∀ j, w.frozen? ⟨gl, j, none⟩ = false := by
  obtain ⟨a, c, rfl, h1, h2⟩ := h.recs.shape
  have hc : ∀ j u, (LM.cells g m (.slice a m.recs.length c))[j]? = some u → w.cell? ⟨gl, j, none⟩ = some u := by
    intro j u hu
    rw [cell_of_row w gl j _ _ _ h.self]
    simpa using hu
  exact ⟨a, c, rfl, h1, h2, (Array.getElem?_eq_some_iff.1 h.self).1, hc 0 _ rfl, hc 1 _ rfl, hc 2 _ rfl, hc 3 _ rfl, hc 4 _ rfl, hc 5 _ rfl, hc 6 _ rfl, hc 7 _ rfl, fun j => frozen_of_row w gl j _ _ h.self⟩
theorem Lv.log {w0 w : World} {L : List Obj} (h : Lv w0 w L) {i gl g : Nat} {m : LM} (hi : L[i]? = some (logO gl g m)) : ∃ k Bf v B, Lg w gl g k Bf v m ∧ (∀ x, LBlk gl k Bf x → B x) ∧ (∀ j, B j → w0.heap.size ≤ j ∧ j < w.heap.size) ∧
    ∀ (w' : World) (k' : Option Nat) (Bf' : Nat → Prop) (v' : Value) (m' : LM), Lg w' gl g k' Bf' v' m' → Kept B w w' → (∀ x, LBlk gl k' Bf' x → B x ∨ w.heap.size ≤ x) → Lv w0 w' (L.set i (logO gl g m')) := by
  obtain ⟨B, ⟨k, Bf, v, h1, h2⟩, h3, _, h4⟩ := h.get hi
  exact ⟨k, Bf, v, B, h1, h2, h3, fun w' k' Bf' v' m' hl hk hB => h4 w' _ (LBlk gl k' Bf') ⟨k', Bf', v', hl, fun _ h => h⟩ hk hB (fun j hj => hl.blk_lt j hj)⟩
/-- the log's own block is changed, its records stay -/
theorem Lg.put {w w' : World} {gl g : Nat} {k : Option Nat} {Bf : Nat → Prop} {v : Value} {m m' : LM} (h : Lg w gl g k Bf v m) (hr : m'.recs = m.recs) (hs : w'.heap[gl]? = some (.cells (LM.cells g m' v).toArray 62 (0, 0))) (hk : Kept (fun x => x = gl) w w') : Lg w' gl g k Bf v m' :=
  ⟨hs, by rw [hr]; exact h.recs.kept hk (fun x hx e => h.ap.1 (by rw [hx, e])) (fun x _ hx e => h.ap.2.1 (by rw [← e]; exact hx)), h.ap, fun x hx => Nat.lt_of_lt_of_le (h.lt x hx) hk.size⟩
theorem Lv.logFacts {w0 w : World} {L : List Obj} (h : Lv w0 w L) {i gl g : Nat} {m : LM} (hi : L[i]? = some (logO gl g m)) : ∃ a c, m.recs.length ≤ c ∧ c ≤ 9223372036854775807 ∧ gl < w.heap.size ∧
    w.cell? ⟨gl, 0, none⟩ = some (.pointer (some ⟨g, 0, none⟩)) ∧ w.cell? ⟨gl, 1, none⟩ = some (.int .i64 (m.frm : Int)) ∧ w.cell? ⟨gl, 2, none⟩ = some (.int .i64 (m.n : Int)) ∧ w.cell? ⟨gl, 3, none⟩ = some (.int .u8 (m.rnd : Int)) ∧ w.cell? ⟨gl, 4, none⟩ = some (.int .i64 (m.en : Int)) ∧
    w.cell? ⟨gl, 5, none⟩ = some (.slice a m.recs.length c) ∧ w.cell? ⟨gl, 6, none⟩ = some (.int .i64 (m.syn : Int)) ∧ w.cell? ⟨gl, 7, none⟩ = some (.int .i64 (m.tak : Int)) ∧ ∀ j, w.frozen? ⟨gl, j, none⟩ = false := by
  obtain ⟨k, Bf, v, B, h1, _⟩ := h.log hi
  obtain ⟨a, c, _, h2⟩ := h1.facts
  exact ⟨a, c, h2⟩
end Go.Proofs.YthffegfcgmhppaaDoor
namespace Go.Proofs.YthffegfcgmhppaaDoor
open Go.RowKit
set_option linter.unusedSimpArgs false
set_option linter.unusedVariables false
theorem or_mul (a b i m : Nat) (hm : m = 2 ^ i) (h : a < m) : a ||| (b * m) = b * m + a := by
  subst hm
  rw [Nat.or_comm, ← Nat.shiftLeft_eq, Nat.shiftLeft_add_eq_or_of_lt h]
theorem i64_or_nat (a b : Nat) (ha : a < 4294967296) (hb : b < 4294967296) : bits .or .i64 (a : Int) (b : Int) = ((a ||| b : Nat) : Int) := by
  have hab : a ||| b < 4294967296 := Nat.or_lt_two_pow (n := 32) ha hb
  show IntKind.i64.wrap ((BitVec.ofInt 64 (a : Int) ||| BitVec.ofInt 64 (b : Int)).toNat : Int) = _
  have e1 : (BitVec.ofInt 64 (a : Int)).toNat = a := by simp [BitVec.toNat_ofInt]; omega
  have e2 : (BitVec.ofInt 64 (b : Int)).toNat = b := by simp [BitVec.toNat_ofInt]; omega
  rw [BitVec.toNat_or, e1, e2]
  exact i64_id _ (by omega) (by omega)
theorem or_three (h m l : Nat) (hh : h < 256) (hm : m < 256) (hl : l < 256) : bits .or .i64 (bits .or .i64 ((h : Int) * 65536) ((m : Int) * 256)) (l : Int) = ((h * 65536 + m * 256 + l : Nat) : Int) := by
  have e1 : ((h : Int) * 65536) = ((h * 65536 : Nat) : Int) := by omega
  have e2 : ((m : Int) * 256) = ((m * 256 : Nat) : Int) := by omega
  rw [e1, e2, i64_or_nat _ _ (by omega) (by omega), Nat.or_comm, or_mul (m * 256) h 16 65536 (by decide) (by omega), i64_or_nat _ _ (by omega) (by omega), Nat.or_comm]
  have e3 : h * 65536 + m * 256 = (h * 256 + m) * 256 := by omega
  rw [e3, or_mul l (h * 256 + m) 8 256 (by decide) (by omega)]
theorem or_two (h l : Nat) (hh : h < 256) (hl : l < 256) : bits .or .i64 ((h : Int) * 256) (l : Int) = ((h * 256 + l : Nat) : Int) := by
  have e1 : ((h : Int) * 256) = ((h * 256 : Nat) : Int) := by omega
  rw [e1, i64_or_nat _ _ (by omega) (by omega), Nat.or_comm, or_mul l h 8 256 (by decide) (by omega)]
theorem run_allocS (W : World) : (Instr.alloc 60 true (.tuple #[])).run Tryd.prog W = .ok (.pointer (some ⟨W.heap.size, 0, none⟩)) (W.alloc (.cells #[.int .u8 0, .int .i64 0] 60)) := by kernel_rfl
theorem run_buildS (r e : Int) (W : World) : (Instr.build 60 #[(0, .int .u8 r), (1, .int .i64 e)]).run Tryd.prog W = .ok (.agg #[.int .u8 r, .int .i64 e]) W := by kernel_rfl
theorem sizeS (r e : Value) : (Tryd.prog.info? 60).map (·.size) = some (#[r, e] : Array Value).size := by kernel_rfl
theorem oneS (r e : Int) : (#[.int .u8 r, .int .i64 e] : Array Value).all (·.oneCell') = true := by simp [Value.oneCell']
set_option maxRecDepth 100000 in
set_option maxHeartbeats 1000000 in
theorem decode_any (r h m l : Nat) (hr : r < 256) (hh : h < 256) (hm : m < 256) (hl : l < 256) (w : World) :
    Calls Tryd.prog 62 #[.int .u8 (r : Int), .int .u8 (h : Int), .int .u8 (m : Int), .int .u8 (l : Int)] w fun e w' => e = .returned (.agg #[.int .u8 (r : Int), .int .i64 ((h * 65536 + m * 256 + l : Nat) : Int)]) ∧ Below w.heap.size w w' := by
  have hb := run_buildS
  have ho := or_three h m l hh hm hl
  obtain ⟨E, hE⟩ : ∃ E, E = h * 65536 + m * 256 + l := ⟨_, rfl⟩
  rw [← hE] at ho ⊢
  have HO := Lib.hid ho
  clear hE ho
  go_enter Tryd.func62, Tryd.ntmps62
  go_wp2_with (first
    | (refine wpList_alloc_z rfl 60 rfl _ 60 run_allocS ?_)
    | (refine wpList_store_row rfl 60 (.tmp 8) (.tmp 20) rfl w.heap.size _ rfl rfl 60 _ (heap_new rfl) (sizeS _ _) rfl (oneS _ _) ?_))
  refine bodyPost_ret (results_cell_row rfl _ _ w.heap.size 60 _ (0, 0) _ rfl (setRow_heap _ _ _ _ _ _ (heap_new rfl)) Tryd.underlying60 rfl (sizeS _ _)) rfl ⟨?_, below_setRow ((Below.refl _ _).alloc (Nat.le_refl _) _) (Nat.le_refl _) _⟩
  rw [HO.out]
end Go.Proofs.YthffegfcgmhppaaDoor
namespace Go.Proofs.YthffegfcgmhppaaDoor
open Go.RowKit
set_option linter.unusedSimpArgs false
set_option linter.unusedVariables false
theorem run_build0b (W : World) : (Instr.buildSlice 34 0 #[]).run Tryd.prog W = .ok (.slice (some ⟨W.heap.size, 0, none⟩) 0 0) (W.alloc (.cells #[] 5)) := by kernel_rfl
set_option maxRecDepth 100000 in
set_option maxHeartbeats 400000 in
theorem cloneB_any (Z : Nat → Prop) (a : Option Addr) (n c : Nat) (l : List UInt8) (w : World) (hB : Bs Z w a n c l) (hn : n ≤ 1000000) :
    Calls Tryd.prog 26 #[.slice a n c] w fun e w' => ∃ v, e = .returned v ∧ Made w v l w' := by
  obtain ⟨i0, hi, hz0, hz1, hz2⟩ := info_parts info5
  have hl := hB.1
  have hc1 : n ≤ c := hB.2.2.1
  have hc2 : c ≤ 9223372036854775807 := hB.2.2.2.1
  match a, hB with
  | none, hB =>
    have hc0 : c = 0 := hB.2.2.2.2.1 rfl
    obtain rfl : n = 0 := by omega
    subst hc0
    obtain rfl : l = [] := List.eq_nil_of_length_eq_zero hl
    clear hB
    have ke := fun (w : World) => Lib.run_eql_slice_nil (P := Tryd.prog) w 34 5 none 0 0 0 0 Tryd.underlying34
    go_enter Tryd.func26, Tryd.ntmps26
    go_wp2
    go_ret
    exact ⟨_, rfl, none, Own.nil _ _ _, (fun j h => by cases h), Below.refl _ _⟩
  | some ad, hB =>
    have HB := Lib.hid hB
    have ke := fun (w : World) => Lib.run_eql_slice_nil (P := Tryd.prog) w 34 5 (some ad) n c 0 0 Tryd.underlying34
    have hb0 := run_build0b
    have HLn := Lib.hid hl
    clear hB hl
    go_enter Tryd.func26, Tryd.ntmps26
    go_wp2_with (at_builtin; refine wpList_append_any _ rfl (.tmp 5) (.tmp 6) 34 34 rfl 5 i0 _ 1 1 Tryd.underlying34 hi hz0 hz1 hz2 rfl (some w.heap.size) _ 0 [] rfl (Own.made w 5 1 #[] 0 (Nat.zero_le _) rfl) n (vals l) ((HB.out.kept ((Kept.refl (fun _ => False) w).alloc _) (fun _ _ _ h => h)).src Tryd.underlying34) (by unfold maxLen; omega) (by omega) ?_)
    intro k' v' w' ho hf hK hn
    have R : Made w v' l w' := ⟨k', by rw [HLn.out]; first | exact ho | (rw [Nat.zero_add] at ho; exact ho), fun j hj => by
      rcases hf j hj with h | h
      · cases h; exact Nat.le_refl _
      · exact Nat.le_trans (by simp) h, ((Below.refl w.heap.size w).alloc (Nat.le_refl _) _).trans (hK.below (by simp) (fun j hj h => by cases h; omega))⟩
    have HR := Lib.hid R
    clear R ho hf hK hn
    go_wp2
    go_ret
    exact ⟨_, rfl, HR.out⟩
/-- a record behind its length -/
def joinB (rs : List (List UInt8)) : List UInt8 := rs.flatMap fun r => UInt8.ofNat (r.length / 256) :: UInt8.ofNat r.length :: r
theorem joinB_snoc (rs : List (List UInt8)) (r : List UInt8) : joinB (rs ++ [r]) = (joinB rs ++ [UInt8.ofNat (r.length / 256), UInt8.ofNat r.length]) ++ r := by simp [joinB]
theorem joinB_app (rs qs : List (List UInt8)) : joinB (rs ++ qs) = joinB rs ++ joinB qs := by simp [joinB]
def lenB (rs : List (List UInt8)) : Nat := (rs.map fun r => r.length + 2).sum
theorem joinB_len (rs : List (List UInt8)) : (joinB rs).length = lenB rs := by
  induction rs with
  | nil => rfl
  | cons r rs ih =>
    have e1 : joinB (r :: rs) = UInt8.ofNat (r.length / 256) :: UInt8.ofNat r.length :: (r ++ joinB rs) := by simp [joinB]
    have e2 : lenB (r :: rs) = r.length + 2 + lenB rs := by simp [lenB]
    rw [e1, e2, List.length_cons, List.length_cons, List.length_append, ih]
    omega
theorem lenB_take (rs : List (List UInt8)) (i : Nat) : lenB (rs.take i) ≤ lenB rs := by
  induction rs generalizing i with
  | nil => simp [lenB]
  | cons r rs ih =>
    cases i with
    | zero => simp [lenB]
    | succ i =>
      have := ih i
      simp only [lenB, List.take_succ_cons, List.map_cons, List.sum_cons] at this ⊢
      omega
theorem run_build2b (x y : Int) (W : World) : (Instr.buildSlice 34 2 #[(0, .int .u8 x), (1, .int .u8 y)]).run Tryd.prog W = .ok (.slice (some ⟨W.heap.size, 0, none⟩) 2 2) (W.alloc (.cells #[.int .u8 x, .int .u8 y] 5)) := by kernel_rfl
theorem src_bytes {w : World} {g : Nat} {us : List UInt8} (hg : w.heap[g]? = some (.cells (vals us).toArray 5 (0, 0))) : Src Tryd.prog 1 34 (.slice (some ⟨g, 0, none⟩) us.length us.length) us.length (vals us) w :=
  Src.ofSlice w Tryd.underlying34 ⟨g, 0, none⟩ us.length us.length (vals us) (by rw [vals_len]; omega) (fun j u hu => by rw [Addr.add_mid, Nat.zero_add, cell_of_row w g j _ _ _ hg]; simpa using hu) (vals_one us)
theorem u8_ofNat (n : Nat) : ((UInt8.ofNat n).toNat : Int) = ((n % 256 : Nat) : Int) := by rw [UInt8.toNat_ofNat']
theorem Lv.madeOf {w w' : World} {v : Value} {l : List UInt8} (h : Lv w w' [baccO v l]) : Made w v l w' := by
  obtain ⟨B, ⟨k, h1, h2⟩, h3, _⟩ := h.get (i := 0) rfl
  exact ⟨k, h1, fun j hj => (h3 j (h2 j hj)).1, h.args⟩
set_option maxRecDepth 100000 in
set_option maxHeartbeats 2000000 in
theorem join_any (Bf : Nat → Prop) (a : Option Addr) (n c : Nat) (rs : List (List UInt8)) (w : World) (hR : RdR Bf w a n c rs) (h64 : ∀ r ∈ rs, r.length < 65536) (hb : lenB rs ≤ 1000000) :
    Calls Tryd.prog 27 #[.slice a n c] w fun e w' => ∃ v, e = .returned v ∧ Made w v (joinB rs) w' := by
  obtain ⟨hn, hs1, hs2, hlook⟩ := hR
  have hR : RdR Bf w a n c rs := ⟨hn, hs1, hs2, hlook⟩
  have HR := Lib.hid hR
  have H64 := Lib.hid h64
  have HB := Lib.hid hb
  have hsm : rs.length ≤ 1000000 := by
    have : ∀ rs : List (List UInt8), rs.length ≤ lenB rs := by
      intro rs
      induction rs with
      | nil => exact Nat.le_refl _
      | cons r rs ih => simp only [lenB, List.map_cons, List.sum_cons, List.length_cons] at ih ⊢; omega
    exact Nat.le_trans (this rs) hb
  have HSM := Lib.hid hsm
  have HLK := Lib.hid hlook
  have HN := Lib.hid hn.symm
  rw [hn] at HSM
  clear hR h64 hb hsm hlook hn
  go_enter Tryd.func27, Tryd.ntmps27
  go_wp2_with fail
  go_loopw [3, 8] (fun u t wr => ∃ (i : Nat) (v0 : Value), i ≤ n ∧ v0 = u ∧ t = .int .i64 (i : Int) ∧ Lv w wr [baccO v0 (joinB (rs.take i))]) (fun _ t _ => n - (intOf t).toNat)
  case atStart => exact ⟨0, _, Nat.zero_le _, rfl, rfl, (Lv.refl w).bacc0⟩
  case round =>
    obtain ⟨i, v0, hi, hv0, rfl, hL⟩ := hrel
    subst hv0
    have HL := Lib.hid hL
    clear hL
    by_cases hlt : i < n
    · have hn2 : (i : Int) < (n : Int) := by omega
      have hw1 : IntKind.i64.wrap ((i : Int) + 1) = (i : Int) + 1 := i64_id _ (by omega) (by omega)
      obtain ⟨r, hr⟩ : ∃ r, r = rs[i]'(by rw [← HN.out]; exact hlt) := ⟨_, rfl⟩
      obtain ⟨g, off, b, cb, -, rfl, hg, hcell0, hbs⟩ := HLK.out i (by rw [← HN.out]; exact hlt)
      have hcell := (HL.out.args.cell (p := ⟨g, off + i, none⟩) hg).trans hcell0
      clear hcell0
      rw [← hr] at hcell hbs
      have hr64 : r.length < 65536 := H64.out r (by rw [hr]; exact List.getElem_mem _)
      have HBS := Lib.hid hbs
      have hcb1 : r.length ≤ cb := hbs.2.2.1
      have hcb2 : cb ≤ 9223372036854775807 := hbs.2.2.2.1
      have hbld := run_build2b
      obtain ⟨R, hRl⟩ : ∃ R, R = r.length := ⟨_, rfl⟩
      obtain ⟨us, hus⟩ : ∃ us : List UInt8, us = [UInt8.ofNat (R / 256), UInt8.ofNat R] := ⟨_, rfl⟩
      have hm1 : IntKind.u8.wrap ((R : Int) / 256) = ((R / 256 : Nat) : Int) := by rw [IntKind.wrap_u8]; omega
      have hm2 : IntKind.u8.wrap (R : Int) = ((R % 256 : Nat) : Int) := by rw [IntKind.wrap_u8]; omega
      have HUV : Hid (vals us = [.int .u8 ((R / 256 : Nat) : Int), .int .u8 ((R % 256 : Nat) : Int)]) := Lib.hid (by
        rw [hus]
        have : R / 256 % 256 = R / 256 := by omega
        simp only [vals, List.map_cons, List.map_nil, u8_ofNat, this])
      have HUL : Hid (us.length = 2) := Lib.hid (by rw [hus]; rfl)
      have HTK : Hid (joinB (rs.take (i + 1)) = (joinB (rs.take i) ++ us) ++ r) := Lib.hid (by
        rw [List.take_succ_eq_append_getElem (by rw [← HN.out]; exact hlt), joinB_snoc, hus, ← hr, hRl])
      have HLE : Hid ((joinB (rs.take i)).length + us.length + r.length ≤ 1000000) := Lib.hid (by
        have e1 := joinB_len (rs.take (i + 1))
        have e2 := lenB_take rs (i + 1)
        rw [HTK.out, List.length_append, List.length_append] at e1
        have := HB.out
        omega)
      rw [← hRl] at hcell hr64 hcb1 HBS
      have HRL := Lib.hid hRl
      obtain ⟨JT, hJT⟩ : ∃ JT, JT = joinB (rs.take i) := ⟨_, rfl⟩
      rw [← hJT] at HL HTK HLE
      obtain ⟨RH, hRH⟩ : ∃ RH, RH = R / 256 := ⟨_, rfl⟩
      obtain ⟨RM, hRM⟩ : ∃ RM, RM = R % 256 := ⟨_, rfl⟩
      rw [← hRH] at hm1 HUV
      rw [← hRM] at hm2 HUV
      have HSRC : Hid (Src Tryd.prog 1 34 (.slice (some ⟨wr.heap.size, 0, none⟩) 2 2) us.length (vals us) (wr.alloc (.cells #[.int .u8 (RH : Int), .int .u8 (RM : Int)] 5))) := Lib.hid (by
        have := src_bytes (us := us) (g := wr.heap.size) (w := wr.alloc (.cells #[.int .u8 (RH : Int), .int .u8 (RM : Int)] 5)) (by rw [HUV.out]; exact heap_new rfl)
        rw [HUL.out] at this ⊢
        exact this)
      have HLn : Hid (Lv w (wr.alloc (.cells #[.int .u8 (RH : Int), .int .u8 (RM : Int)] 5)) [baccO v0 JT]) := Lib.hid (HL.out.below ((Below.refl _ _).alloc (Nat.le_refl _) _))
      have HG1 : Hid True := Lib.hid trivial
      clear hr hJT hus hRH hRM hRl hg hbs HL
      go_wp2_with (first
        | (have x1 := HG1; at_builtin; refine wpList_bacc HLn.out (i := 0) (v := v0) (l := JT) rfl rfl (.tmp 12) (.tmp 20) rfl rfl us HSRC.out (by have := HLE.out; omega) ?_; clear HLn HSRC; intro v2 w2 hl2; have HL2 := Lib.hid hl2; have HG2 := x1; clear hl2 x1 HG1)
        | (have x1 := HG2; at_builtin; refine wpList_bacc HL2.out (i := 0) (v := v2) (l := JT ++ us) rfl rfl (.tmp 22) (.tmp 23) rfl rfl r (by have e := HRL.out; have hb := HBS.out; subst e; exact (hb.kept (Kept.of_below (fun _ => False) HL2.out.args) (fun _ _ _ h => h)).src Tryd.underlying34) (by rw [List.length_append]; have := HLE.out; omega) ?_; clear HL2; intro v3 w3 hl3; have HL3 := Lib.hid hl3; clear hl3 x1 HG2))
      go_roundw
      case rel => exact ⟨i + 1, _, by omega, rfl, by go_num, by rw [HTK.out]; exact HL3.out⟩
      case measure => simp [intOf]; omega
    · obtain rfl : i = n := by omega
      have hm := HL.out.madeOf
      have e1 : rs.take i = rs := List.take_of_length_le (by rw [← HN.out]; exact Nat.le_refl _)
      rw [e1] at hm
      have HM := Lib.hid hm
      clear hm e1 HL
      go_wp2
      go_ret
      exact ⟨_, rfl, HM.out⟩
end Go.Proofs.YthffegfcgmhppaaDoor
namespace Go.Proofs.YthffegfcgmhppaaDoor
open Go.RowKit
set_option linter.unusedSimpArgs false
set_option linter.unusedVariables false
theorem info56 : (Tryd.prog.info? 22).map (fun i => (i.zero, i.size, i.bytes)) = some (some (.slice none 0 0), 1, 24) := by kernel_rfl
theorem info32 : (Tryd.prog.info? 34).map (fun i => (i.zero, i.size, i.bytes)) = some (some (.slice none 0 0), 1, 24) := by kernel_rfl
/-- the slice v, in block r, has these bytes; they lie in Bf -/
def InR (w : World) (Bf : Nat → Prop) (r : Nat) (v : Value) (s : List (List UInt8)) : Prop :=
  ∃ ys, Rw w 34 (some r) v s.length ys ∧ ∀ j (hj : j < s.length), ∃ a c, ys[j]? = some (.slice a 64 c) ∧ Bs Bf w a 64 c s[j]
theorem InR.kept {S Bf : Nat → Prop} {w w' : World} {r : Nat} {v : Value} {s : List (List UInt8)} (h : InR w Bf r v s) (hk : Kept S w w') (hr : ¬ S r) (hb : ∀ x, x < w.heap.size → Bf x → ¬ S x) : InR w' Bf r v s := by
  obtain ⟨ys, h1, h2⟩ := h
  refine ⟨ys, h1.kept hk (fun j hj => by cases hj; exact hr), fun j hj => ?_⟩
  obtain ⟨a, c, h3, h4⟩ := h2 j hj
  exact ⟨a, c, h3, h4.kept hk hb⟩
theorem InR.dom {Bf Bf' : Nat → Prop} {w : World} {r : Nat} {v : Value} {s : List (List UInt8)} (h : InR w Bf r v s) (hb : ∀ x, Bf x → Bf' x) : InR w Bf' r v s := by
  obtain ⟨ys, h1, h2⟩ := h
  exact ⟨ys, h1, fun j hj => by obtain ⟨a, c, h3, h4⟩ := h2 j hj; exact ⟨a, c, h3, h4.dom hb⟩⟩
/-- a struct of type ty in block g whose first field is a slice, for each sector a slice of slices of bytes -/
structure Trk (w : World) (ty : TypeId) (ext : List Value) (g : Nat) (gso : Option Nat) (vo : Value) (row : Nat → Nat) (Bf : Nat → Prop) (S : List (List (List UInt8))) : Prop where
  self : w.heap[g]? = some (.cells (vo :: ext).toArray ty (0, 0))
  outer : ∃ xs, Rw w 22 gso vo S.length xs ∧ ∀ k (hk : k < S.length), ∃ v, xs[k]? = some v ∧ InR w Bf (row k) v S[k]
  inj : ∀ i j, i < S.length → j < S.length → row i = row j → i = j
  ap1 : gso ≠ some g
  ap2 : ∀ i, i < S.length → row i ≠ g ∧ gso ≠ some (row i)
  bf : ¬ Bf g ∧ (∀ x, gso = some x → ¬ Bf x) ∧ ∀ i, i < S.length → ¬ Bf (row i)
  lt : ∀ x, Bf x → x < w.heap.size
def TBlk (g : Nat) (gso : Option Nat) (row : Nat → Nat) (Bf : Nat → Prop) (n : Nat) (x : Nat) : Prop := x = g ∨ gso = some x ∨ (∃ i, i < n ∧ row i = x) ∨ Bf x
theorem Trk.blk_lt {w : World} {ty : TypeId} {ext : List Value} {g : Nat} {gso : Option Nat} {vo : Value} {row : Nat → Nat} {Bf : Nat → Prop} {S : List (List (List UInt8))} (h : Trk w ty ext g gso vo row Bf S) : ∀ x, TBlk g gso row Bf S.length x → x < w.heap.size := by
  rintro x (rfl | hx | ⟨i, hi, rfl⟩ | hx)
  · exact (Array.getElem?_eq_some_iff.1 h.self).1
  · obtain ⟨xs, h1, _⟩ := h.outer
    exact h1.lt x hx
  · obtain ⟨xs, _, h2⟩ := h.outer
    obtain ⟨v, _, ys, h3, _⟩ := h2 i hi
    exact h3.lt _ rfl
  · exact h.lt x hx
theorem Trk.kept {B : Nat → Prop} {w w' : World} {ty : TypeId} {ext : List Value} {g : Nat} {gso : Option Nat} {vo : Value} {row : Nat → Nat} {Bf : Nat → Prop} {S : List (List (List UInt8))} (h : Trk w ty ext g gso vo row Bf S) (hk : Kept B w w') (hs : ∀ x, TBlk g gso row Bf S.length x → ¬ B x) : Trk w' ty ext g gso vo row Bf S := by
  obtain ⟨xs, h1, h2⟩ := h.outer
  refine ⟨hk.heap h.self (hs g (.inl rfl)), ⟨xs, h1.kept hk (fun j hj => hs j (.inr (.inl hj))), fun k hkl => ?_⟩, h.inj, h.ap1, h.ap2, h.bf, fun x hx => Nat.lt_of_lt_of_le (h.lt x hx) hk.size⟩
  obtain ⟨v, h3, h4⟩ := h2 k hkl
  exact ⟨v, h3, h4.kept hk (hs _ (.inr (.inr (.inl ⟨k, hkl, rfl⟩)))) (fun x _ hx => hs x (.inr (.inr (.inr hx))))⟩
/-- sector k gets another slice -/
theorem Trk.put {w : World} {ty : TypeId} {ext : List Value} {g : Nat} {gso : Option Nat} {vo : Value} {row : Nat → Nat} {Bf : Nat → Prop} {S : List (List (List UInt8))} (h : Trk w ty ext g gso vo row Bf S) {k : Nat} (hk : k < S.length) {w' : World} {r' : Nat} {v' : Value} {s' : List (List UInt8)} {Bf' : Nat → Prop}
    (hK : Kept (fun j => j = row k ∨ gso = some j) w w')
    (hO : ∀ xs, Rw w 22 gso vo S.length xs → Rw w' 22 gso vo S.length (xs.set k v'))
    (hI : InR w' Bf' r' v' s') (hr : r' = row k ∨ w.heap.size ≤ r')
    (hB : ∀ x, Bf x → Bf' x) (hB2 : ∀ x, Bf' x → Bf x ∨ (w.heap.size ≤ x ∧ x ≠ r')) (hBl : ∀ x, Bf' x → x < w'.heap.size) :
    Trk w' ty ext g gso vo (fun i => if i = k then r' else row i) Bf' (S.set k s') := by
  have hlt := h.blk_lt
  have hg : g < w.heap.size := hlt g (.inl rfl)
  have hrow : ∀ i, i < S.length → row i < w.heap.size := fun i hi => hlt _ (.inr (.inr (.inl ⟨i, hi, rfl⟩)))
  obtain ⟨xs, h1, h2⟩ := h.outer
  have hne : ∀ i, i < S.length → i ≠ k → row i ≠ r' := by
    intro i hi hik e
    rcases hr with hr | hr
    · exact hik (h.inj i k hi hk (e.trans hr))
    · have := hrow i hi; omega
  have nb : ∀ x, x < w.heap.size → (Bf' x → Bf x) := fun x hx hb => (hB2 x hb).resolve_right (fun e => by omega)
  refine ⟨hK.heap h.self ?_, ⟨xs.set k v', by rw [List.length_set]; exact hO xs h1, fun i hi => ?_⟩, fun i j hi hj e => ?_, h.ap1, fun i hi => ?_, ⟨fun hb => h.bf.1 (nb g hg hb), fun x hx hb => h.bf.2.1 x hx (nb x (h1.lt x hx) hb), fun i hi hb => ?_⟩, hBl⟩
  · rintro (e | e)
    · exact (h.ap2 k hk).1 e.symm
    · exact h.ap1 e
  · have hi2 : i < S.length := by rw [List.length_set] at hi; exact hi
    by_cases e : i = k
    · subst e
      refine ⟨v', ?_, ?_⟩
      · rw [List.getElem?_set, if_pos rfl, if_pos (by rw [h1.1]; exact hi2)]
      · simp only [if_true, List.getElem_set_self]
        exact hI
    · obtain ⟨v, h3, h4⟩ := h2 i hi2
      refine ⟨v, by rw [List.getElem?_set, if_neg (fun x => e x.symm)]; exact h3, ?_⟩
      rw [if_neg e, List.getElem_set_ne (fun x => e x.symm)]
      refine (h4.kept hK ?_ ?_).dom hB
      · rintro (e2 | e2)
        · exact e (h.inj i k hi2 hk e2)
        · exact (h.ap2 i hi2).2 e2
      · rintro x _ hx (e2 | e2)
        · subst e2; exact h.bf.2.2 k hk hx
        · exact h.bf.2.1 x e2 hx
  · rw [List.length_set] at hi hj
    by_cases e1 : i = k
    · by_cases e2 : j = k
      · rw [e1, e2]
      · simp only [if_pos e1, if_neg e2] at e
        exact absurd e.symm (hne j hj e2)
    · by_cases e2 : j = k
      · simp only [if_neg e1, if_pos e2] at e
        exact absurd e (hne i hi e1)
      · simp only [if_neg e1, if_neg e2] at e
        exact h.inj i j hi hj e
  · rw [List.length_set] at hi
    by_cases e : i = k
    · rw [if_pos e]
      rcases hr with hr | hr
      · rw [hr]; exact h.ap2 k hk
      · refine ⟨by omega, fun e2 => ?_⟩
        have := h1.lt _ e2
        omega
    · rw [if_neg e]; exact h.ap2 i hi
  · rw [List.length_set] at hi
    by_cases e : i = k
    · simp only [if_pos e] at hb
      rcases hr with hr | hr
      · rw [hr] at hb
        exact h.bf.2.2 k hk (nb _ (hrow k hk) hb)
      · rcases hB2 _ hb with hb | hb
        · have := h.lt _ hb; omega
        · exact hb.2 rfl
    · simp only [if_neg e] at hb
      exact h.bf.2.2 i hi (nb _ (hrow i hi) hb)
/-- the blocks stay, or are new -/
theorem TBlk.put {g : Nat} {gso : Option Nat} {row : Nat → Nat} {Bf Bf' : Nat → Prop} {n k r' z : Nat} (hk : k < n) (hr : r' = row k ∨ z ≤ r') (hB2 : ∀ x, Bf' x → Bf x ∨ (z ≤ x ∧ x ≠ r')) : ∀ x, TBlk g gso (fun i => if i = k then r' else row i) Bf' n x → TBlk g gso row Bf n x ∨ z ≤ x := by
  rintro x (rfl | hx | ⟨i, hi, rfl⟩ | hx)
  · exact .inl (.inl rfl)
  · exact .inl (.inr (.inl hx))
  · by_cases e : i = k
    · simp only [if_pos e]
      rcases hr with hr | hr
      · exact .inl (.inr (.inr (.inl ⟨k, hk, hr.symm⟩)))
      · exact .inr hr
    · simp only [if_neg e]
      exact .inl (.inr (.inr (.inl ⟨i, hi, rfl⟩)))
  · rcases hB2 x hx with hx | hx
    · exact .inl (.inr (.inr (.inr hx)))
    · exact .inr hx.1
/-- such a struct -/
def trackO (ty : TypeId) (ext : List Value) (g : Nat) (S : List (List (List UInt8))) : Obj := ⟨fun B w => ∃ gso vo row Bf, Trk w ty ext g gso vo row Bf S ∧ ∀ x, TBlk g gso row Bf S.length x → B x, fun {B S w w'} h hk hs => by
  obtain ⟨gso, vo, row, Bf, h1, h2⟩ := h
  exact ⟨gso, vo, row, Bf, h1.kept hk (fun x hx => hs x (h1.blk_lt x hx) (h2 x hx)), h2⟩⟩
/-- how it reads at sector k -/
theorem Trk.look {w : World} {ty : TypeId} {ext : List Value} {g : Nat} {gso : Option Nat} {vo : Value} {row : Nat → Nat} {Bf : Nat → Prop} {S : List (List (List UInt8))} (h : Trk w ty ext g gso vo row Bf S) {k : Nat} (hk : k < S.length) (hp : 0 < S[k].length) :
    ∃ gs so co ro rc, gso = some gs ∧ vo = .slice (some ⟨gs, so, none⟩) S.length co ∧ (S.length ≤ co ∧ co ≤ 9223372036854775807) ∧ (S[k].length ≤ rc ∧ rc ≤ 9223372036854775807) ∧ g < w.heap.size ∧ gs < w.heap.size ∧ row k < w.heap.size ∧
      w.cell? ⟨g, 0, none⟩ = some vo ∧ w.cell? ⟨gs, so + k, none⟩ = some (.slice (some ⟨row k, ro, none⟩) S[k].length rc) ∧
      InR w Bf (row k) (.slice (some ⟨row k, ro, none⟩) S[k].length rc) S[k] ∧
      ∀ j (hj : j < S[k].length), ∃ a c, w.cell? ⟨row k, ro + j, none⟩ = some (.slice a 64 c) ∧ Bs Bf w a 64 c S[k][j] := by
  obtain ⟨xs, h1, h2⟩ := h.outer
  obtain ⟨gs, so, co, rfl, rfl, e1, e2, e3, e4⟩ := h1.at (by omega)
  obtain ⟨v, hv, hin⟩ := h2 k hk
  have hin2 := hin
  obtain ⟨ys, h3, h5⟩ := hin
  obtain ⟨r, ro, rc, hr, rfl, f1, f2, f3, f4⟩ := h3.at hp
  obtain rfl : row k = r := Option.some.inj hr
  have hxk : k < xs.length := by rw [h1.1]; exact hk
  have hc := e4 k hxk
  rw [List.getElem?_eq_getElem hxk] at hv
  rw [Option.some.inj hv] at hc
  refine ⟨gs, so, co, ro, rc, rfl, rfl, ⟨e1, e2⟩, ⟨f1, f2⟩, (Array.getElem?_eq_some_iff.1 h.self).1, e3, f3, ?_, hc, hin2, fun j hj => ?_⟩
  · rw [cell_of_row w g 0 _ _ _ h.self]; rfl
  · obtain ⟨a, c, g1, g2⟩ := h5 j hj
    have hjl : j < ys.length := by rw [h3.1]; exact hj
    have := f4 j hjl
    rw [List.getElem?_eq_getElem hjl] at g1
    rw [Option.some.inj g1] at this
    exact ⟨a, c, this, g2⟩
end Go.Proofs.YthffegfcgmhppaaDoor
namespace Go.Proofs.YthffegfcgmhppaaDoor
open Go.RowKit
set_option linter.unusedSimpArgs false
set_option linter.unusedVariables false
theorem Bs.small {D : Nat → Prop} {w : World} {a : Option Addr} {n c : Nat} {l : List UInt8} (h : Bs D w a n c l) : Bs (fun x => D x ∧ x < w.heap.size) w a n c l := by
  obtain ⟨h1, h2, h3, h4, h5, h6⟩ := h
  refine ⟨h1, h2, h3, h4, h5, fun hn => ?_⟩
  obtain ⟨b, off, hD, ha, hr⟩ := h6 hn
  exact ⟨b, off, ⟨hD, range_lt hr (by rw [h2]; omega)⟩, ha, hr⟩
/-- a sector more -/
theorem Trk.push {w : World} {ty : TypeId} {ext : List Value} {g : Nat} {gso : Option Nat} {vo : Value} {row : Nat → Nat} {Bf : Nat → Prop} {S : List (List (List UInt8))} (h : Trk w ty ext g gso vo row Bf S) {xs : List Value} (hx : Rw w 22 gso vo S.length xs) (hin : ∀ k (hk : k < S.length), ∃ v, xs[k]? = some v ∧ InR w Bf (row k) v S[k])
    {w' : World} {gso' : Option Nat} {vo' v' : Value} {r : Nat} {s : List (List UInt8)} {Bf' : Nat → Prop}
    (hself : w'.heap[g]? = some (.cells (vo' :: ext).toArray ty (0, 0))) (hK : Kept (fun j => j = g ∨ gso = some j) w w')
    (hO : Rw w' 22 gso' vo' (S.length + 1) (xs ++ [v'])) (hI : InR w' Bf' r v' s)
    (hgs : ∀ j, gso' = some j → gso = some j ∨ w.heap.size ≤ j) (hr : w.heap.size ≤ r) (hgr : gso' ≠ some r)
    (hB : ∀ x, Bf x → Bf' x) (hB2 : ∀ x, Bf' x → Bf x ∨ (w.heap.size ≤ x ∧ x ≠ r ∧ gso' ≠ some x)) (hBl : ∀ x, Bf' x → x < w'.heap.size) :
    Trk w' ty ext g gso' vo' (fun i => if i = S.length then r else row i) Bf' (S ++ [s]) := by
  have hlt := h.blk_lt
  have hg : g < w.heap.size := hlt g (.inl rfl)
  have hrow : ∀ i, i < S.length → row i < w.heap.size := fun i hi => hlt _ (.inr (.inr (.inl ⟨i, hi, rfl⟩)))
  have hxl := hx.1
  have nb : ∀ x, x < w.heap.size → (Bf' x → Bf x) := fun x hx hb => (hB2 x hb).resolve_right (fun e => by omega)
  refine ⟨hself, ⟨xs ++ [v'], by rw [List.length_append]; exact hO, fun i hi => ?_⟩, fun i j hi hj e => ?_, fun e => ?_, fun i hi => ?_, ⟨fun hb => h.bf.1 (nb g hg hb), fun x hx2 hb => ?_, fun i hi hb => ?_⟩, hBl⟩
  · by_cases e : i = S.length
    · subst e
      refine ⟨v', ?_, ?_⟩
      · rw [List.getElem?_append_right (by omega), hxl, Nat.sub_self]; rfl
      · simp only [if_true, List.getElem_concat_length]
        exact hI
    · have hi2 : i < S.length := by rw [List.length_append, List.length_singleton] at hi; omega
      obtain ⟨v, h3, h4⟩ := hin i hi2
      refine ⟨v, by rw [List.getElem?_append_left (by omega)]; exact h3, ?_⟩
      rw [if_neg e, List.getElem_append_left hi2]
      refine (h4.kept hK ?_ ?_).dom hB
      · rintro (e2 | e2)
        · exact (h.ap2 i hi2).1 e2
        · exact (h.ap2 i hi2).2 e2
      · rintro x _ hx2 (e2 | e2)
        · subst e2; exact h.bf.1 hx2
        · exact h.bf.2.1 x e2 hx2
  · rw [List.length_append, List.length_singleton] at hi hj
    by_cases e1 : i = S.length
    · by_cases e2 : j = S.length
      · rw [e1, e2]
      · simp only [if_pos e1, if_neg e2] at e
        have := hrow j (by omega); omega
    · by_cases e2 : j = S.length
      · simp only [if_neg e1, if_pos e2] at e
        have := hrow i (by omega); omega
      · simp only [if_neg e1, if_neg e2] at e
        exact h.inj i j (by omega) (by omega) e
  · rcases hgs _ e with e | e
    · exact h.ap1 e
    · omega
  · rw [List.length_append, List.length_singleton] at hi
    by_cases e : i = S.length
    · simp only [if_pos e]
      exact ⟨by omega, hgr⟩
    · simp only [if_neg e]
      refine ⟨(h.ap2 i (by omega)).1, fun e2 => ?_⟩
      rcases hgs _ e2 with e2 | e2
      · exact (h.ap2 i (by omega)).2 e2
      · have := hrow i (by omega); omega
  · rcases hB2 x hb with hb | ⟨_, _, e⟩
    · rcases hgs _ hx2 with e | e
      · exact h.bf.2.1 x e hb
      · have := h.lt x hb; omega
    · exact e hx2
  · rw [List.length_append, List.length_singleton] at hi
    by_cases e : i = S.length
    · simp only [if_pos e] at hb
      rcases hB2 _ hb with hb | hb
      · have := h.lt _ hb; omega
      · exact hb.2.1 rfl
    · simp only [if_neg e] at hb
      exact h.bf.2.2 i (by omega) (nb _ (hrow i (by omega)) hb)
theorem run_bs56 (a : Option Addr) (n c : Nat) (W : World) : (Instr.buildSlice 22 1 #[(0, .slice a n c)]).run Tryd.prog W = .ok (.slice (some ⟨W.heap.size, 0, none⟩) 1 1) (W.alloc (.cells #[.slice a n c] 34)) := by kernel_rfl
theorem src_one {w : World} {g : Nat} {t tx e' : TypeId} {a : Option Addr} {n c : Nat} (hk : Tryd.prog.underlying tx = some (.slice e')) (hg : w.heap[g]? = some (.cells #[.slice a n c] t (0, 0))) : Src Tryd.prog 1 tx (.slice (some ⟨g, 0, none⟩) 1 1) 1 [.slice a n c] w :=
  Src.ofSlice w hk ⟨g, 0, none⟩ 1 1 [.slice a n c] rfl (fun j u hu => by rw [Addr.add_mid, Nat.zero_add, cell_of_row w g j _ _ _ hg]; simpa using hu) (by simp [Value.oneCell'])
section
variable {P : Program}
theorem goes_append_rw {o : Oper} {a1 : Act} {w : World} {T : Value → World → Prop} (hgd : o.guard = none) (s x : Operand) (t tx : TypeId)
    (ho : o.op = .call { callee := .builtin .append, args := #[s, x], argTypes := #[t, tx] })
    (e : TypeId) (i : TypeInfo) (z : Value) (bytes : Nat) (ht : P.underlying t = some (.slice e)) (hi : P.info? e = some i) (hz : i.zero = some z)
    (hsize : i.size = 1) (hby : i.bytes = bytes) (hzs : z.cells.size = 1) (k : Option Nat) (v : Value) (n : Nat) (xs : List Value) (hv : a1.eval s = v) (hown : Rw w e k v n xs)
    (X : Value) (hx : a1.eval x = X) (m : Nat) (news : List Value) (hs : Src P 1 tx X m news w) (h63 : n + m ≤ maxLen) (hbytes : (n + m) * bytes ≤ 140737488355328)
    (h : ∀ k' v' w', Rw w' e k' v' (n + m) (xs ++ news) → (∀ j, k' = some j → k = some j ∨ w.heap.size ≤ j) → Kept (fun j => k = some j) w w' → T v' w') : wpList P #[] (Roll.Post a1 o.dst T) [o] a1 w := by
  obtain ⟨k', v', w', hr, h2, h3, h4⟩ := run_append_rw (P := P) w t tx o.type e i z bytes ht hi hz hsize hby hzs k v n xs hown X m news hs h63 hbytes
  refine Roll.goes_val v' hgd ?_ (h k' v' w' h2 h3 h4)
  unfold execOp
  simp only [ho, resolve, invoke, builtin, Sem.run_bind, Sem.run_pure, Result.andThen_ok, List.map_toArray, List.map_cons, List.map_nil, hv, hx, hr]
end
end Go.Proofs.YthffegfcgmhppaaDoor
namespace Go.Proofs.YthffegfcgmhppaaDoor
open Go.RowKit
set_option linter.unusedSimpArgs false
set_option linter.unusedVariables false
def sliceLen : Value → Nat
  | .slice _ n _ => n
  | _ => 0
theorem joinB_cons (r : List UInt8) (rs : List (List UInt8)) : joinB (r :: rs) = UInt8.ofNat (r.length / 256) :: UInt8.ofNat r.length :: (r ++ joinB rs) := by simp [joinB]
/-- what is left of a slice -/
theorem Bs.past {D : Nat → Prop} {w : World} {b off n c : Nat} {l : List UInt8} (h : Bs D w (some ⟨b, off, none⟩) n c l) (m : Nat) (hm : m ≤ n) : Bs D w (some ⟨b, off + m, none⟩) (n - m) (c - m) (l.drop m) := by
  obtain ⟨h1, h2, h3, h4, h5, h6⟩ := h
  refine ⟨by rw [List.length_drop]; omega, ?_, by omega, by omega, (fun h => by cases h), fun hp => ?_⟩
  · rw [vals_len, List.length_drop]; omega
  · obtain ⟨b', off', hD, ha, hr⟩ := h6 (by omega)
    cases ha
    refine ⟨b, off + m, hD, rfl, fun j u hu => ?_⟩
    have := hr (m + j) u (by rw [vals_drop, List.getElem?_drop] at hu; exact hu)
    rwa [← Nat.add_assoc] at this
theorem below_drewN' (w : World) (n : Nat) : Below w.heap.size w (w.drewN n) := ⟨rfl, rfl, rfl, Nat.le_refl _, fun _ _ => rfl⟩
theorem Bs.empty (D : Nat → Prop) (w : World) (a : Option Addr) (c : Nat) (hc : c ≤ maxLen) (ha : a = none → c = 0) : Bs D w a 0 c [] := ⟨rfl, Sl.empty _ _ _ _ _ hc ha⟩
theorem info32' : (Tryd.prog.info? 34).map (fun i => (i.zero, i.size, i.bytes)) = some (some (.slice none 0 0), 1, 24) := by kernel_rfl
set_option maxRecDepth 100000 in
set_option maxHeartbeats 2000000 in
theorem split_any (Z : Nat → Prop) (a : Option Addr) (n c : Nat) (rs : List (List UInt8)) (w : World) (hB : Bs Z w a n c (joinB rs)) (h64 : ∀ r ∈ rs, r.length < 65536) (hb : lenB rs ≤ 1000000) :
    Calls Tryd.prog 35 #[.slice a n c] w fun e w' => ∃ v k, e = .returned (.tuple #[v, .bool true]) ∧ Recs w' k (fun x => Z x ∧ x < w.heap.size) v rs ∧ (∀ x, k = some x → w.heap.size ≤ x) ∧ Below w.heap.size w w' := by
  have HB := Lib.hid hB.small
  have H64 := Lib.hid h64
  have HLB := Lib.hid hb
  obtain ⟨Y, hY⟩ : ∃ Y : Nat → Prop, Y = fun x => Z x ∧ x < w.heap.size := ⟨_, rfl⟩
  rw [← hY] at HB ⊢
  have HY : Hid (∀ x, Y x → x < w.heap.size) := Lib.hid (fun x hx => by rw [hY] at hx; exact hx.2)
  have HN : Hid (rs.length ≤ 1000000) := Lib.hid (by
    have : ∀ rs : List (List UInt8), rs.length ≤ lenB rs := by
      intro rs
      induction rs with
      | nil => exact Nat.le_refl _
      | cons r rs ih => simp only [lenB, List.map_cons, List.sum_cons, List.length_cons] at ih ⊢; omega
    exact Nat.le_trans (this rs) hb)
  clear hB h64 hb hY
  go_enter Tryd.func35, Tryd.ntmps35
  go_wp2_with fail
  go_loopw [0, 4] (fun u t wr => ∃ (i : Nat) (v0 : Value) (a' : Option Addr) (n' c' : Nat) (k : Option Nat), i ≤ rs.length ∧ u = .slice a' n' c' ∧ v0 = t ∧ Bs Y w a' n' c' (joinB (rs.drop i)) ∧ Recs wr k Y v0 (rs.take i) ∧ (∀ x, k = some x → w.heap.size ≤ x) ∧ Below w.heap.size w wr) (fun u _ _ => sliceLen u)
  case atStart => exact ⟨0, _, _, _, _, none, Nat.zero_le _, rfl, rfl, HB.out, (Recs.nil w).dom (fun _ h => h.elim), (fun _ h => by cases h), Below.refl _ _⟩
  case round =>
    obtain ⟨i, v0, a', n', c', k, hi, rfl, hv0, hbs, hrec, hkn, hbl⟩ := hrel
    subst hv0
    by_cases hlt : i < rs.length
    · obtain ⟨r, hr⟩ : ∃ r, r = rs[i] := ⟨_, rfl⟩
      have hdr : joinB (rs.drop i) = UInt8.ofNat (r.length / 256) :: UInt8.ofNat r.length :: (r ++ joinB (rs.drop (i + 1))) := by
        rw [List.drop_eq_getElem_cons hlt, joinB_cons, hr]
      obtain ⟨R, hR⟩ : ∃ R, R = r.length := ⟨_, rfl⟩
      obtain ⟨rest, hrest⟩ : ∃ rest, rest = joinB (rs.drop (i + 1)) := ⟨_, rfl⟩
      rw [← hR, ← hrest] at hdr
      have hR64 : R < 65536 := by rw [hR]; exact H64.out r (by rw [hr]; exact List.getElem_mem _)
      rw [hdr] at hbs
      have hn' : n' = R + 2 + rest.length := by have := hbs.1; simp only [List.length_cons, List.length_append, ← hR] at this; omega
      have hc1 : n' ≤ c' := hbs.2.2.1
      have hc2 : c' ≤ 9223372036854775807 := hbs.2.2.2.1
      obtain ⟨b, off, hD, hbw, rfl, hcell⟩ := hbs.cells (by omega)
      obtain ⟨U, hU⟩ : ∃ U, U = R + 2 := ⟨_, rfl⟩
      obtain ⟨RH, hRH⟩ : ∃ RH, RH = R / 256 := ⟨_, rfl⟩
      obtain ⟨RL, hRL⟩ : ∃ RL, RL = R % 256 := ⟨_, rfl⟩
      have hor := or_two RH RL (by omega) (by omega)
      have hor2 : RH * 256 + RL = R := by omega
      rw [hor2] at hor
      have e0 : w.cell? ⟨b, off, none⟩ = some (.int .u8 (RH : Int)) := by
        have := hcell 0 (by simp)
        rw [Nat.add_zero] at this
        rw [this]
        have : R / 256 % 256 = R / 256 := by omega
        simp only [List.getElem_cons_zero, u8_ofNat, this, hRH]
      have e1 : w.cell? ⟨b, off + 1, none⟩ = some (.int .u8 (RL : Int)) := by
        have := hcell 1 (by simp)
        rw [this]
        simp only [List.getElem_cons_succ, List.getElem_cons_zero, u8_ofNat, hRL]
      have f0 : wr.cell? ⟨b, off, none⟩ = some (.int .u8 (RH : Int)) := (hbl.cell (p := ⟨b, off, none⟩) hbw).trans e0
      have f1 : wr.cell? ⟨b, off + 1, none⟩ = some (.int .u8 (RL : Int)) := (hbl.cell (p := ⟨b, off + 1, none⟩) hbw).trans e1
      have hw1 : IntKind.i64.wrap (RH : Int) = (RH : Int) := i64_id _ (by omega) (by omega)
      have hw2 : IntKind.i64.wrap (RL : Int) = (RL : Int) := i64_id _ (by omega) (by omega)
      have hw3 : IntKind.i64.wrap ((RH : Int) * 256) = (RH : Int) * 256 := i64_id _ (by omega) (by omega)
      have hw4 : IntKind.i64.wrap (2 + (R : Int)) = (U : Int) := by rw [i64_id _ (by omega) (by omega)]; omega
      have hp : (0 : Int) < (n' : Int) := by omega
      have hp2 : (2 : Int) ≤ (n' : Int) := by omega
      have hUn : (U : Int) ≤ (n' : Int) := by omega
      have hUc : (U : Int) ≤ (c' : Int) := by omega
      have hU2 : (2 : Int) ≤ (U : Int) := by omega
      have HBS := Lib.hid hbs
      have HREC := Lib.hid hrec
      have HKN := Lib.hid hkn
      have HBL := Lib.hid hbl
      have HR := Lib.hid hR
      have HU := Lib.hid hU
      have HRr := Lib.hid hr
      have HRest := Lib.hid hrest
      have HN' := Lib.hid hn'
      clear hbs hrec hkn hbl hdr hr hrest e0 e1 hcell hor2 hRH hRL hR hU hn'
      go_wp2_with fail
      go_quiet (fail)
      have hbs56 := run_bs56
      obtain ⟨A2, hA2⟩ : ∃ A2 : Option Addr, A2 = if c' = 2 then some ⟨b, off, none⟩ else some ⟨b, off + 2, none⟩ := ⟨_, rfl⟩
      obtain ⟨AU, hAU⟩ : ∃ AU : Option Addr, AU = if c' = U then some ⟨b, off, none⟩ else some ⟨b, off + U, none⟩ := ⟨_, rfl⟩
      have HA2 : Hid (Bs Y w A2 (U - 2) (c' - 2) r) := Lib.hid (by
        have hcl := HBS.out.2.2.2.1
        have eU : U - 2 = R := by have := HU.out; omega
        rw [hA2, eU]
        split
        · rename_i e
          have hr0 : R = 0 := by have := HU.out; omega
          have : r = [] := List.eq_nil_of_length_eq_zero (by have := HR.out; omega)
          rw [this, hr0]
          exact Bs.empty _ _ _ _ (by omega) (fun h => by cases h)
        · have := (HBS.out.upto U (by omega)).past 2 (by have := HU.out; omega)
          rw [eU] at this
          have e2 : (List.take U (UInt8.ofNat (R / 256) :: UInt8.ofNat R :: (r ++ rest))).drop 2 = r := by
            rw [HU.out, List.take_succ_cons, List.take_succ_cons, List.drop_succ_cons, List.drop_succ_cons, List.drop_zero, List.take_append_of_le_length (by have := HR.out; omega), List.take_of_length_le (by have := HR.out; omega)]
          rw [e2] at this
          exact this)
      have HAU : Hid (Bs Y w AU (n' - U) (c' - U) (joinB (rs.drop (i + 1)))) := Lib.hid (by
        have hcl := HBS.out.2.2.2.1
        rw [hAU, ← HRest.out]
        split
        · rename_i e
          have hr0 : rest.length = 0 := by have := HU.out; have := HN'.out; omega
          have : rest = [] := List.eq_nil_of_length_eq_zero hr0
          rw [this, show n' - U = 0 by omega]
          exact Bs.empty _ _ _ _ (by omega) (fun h => by cases h)
        · have := HBS.out.past U (by omega)
          have e2 : (UInt8.ofNat (R / 256) :: UInt8.ofNat R :: (r ++ rest)).drop U = rest := by
            rw [HU.out, List.drop_succ_cons, List.drop_succ_cons, List.drop_append, List.drop_of_length_le (by have := HR.out; omega), List.nil_append, show R - r.length = 0 by have := HR.out; omega, List.drop_zero]
          rw [e2] at this
          exact this)
      obtain ⟨ys, hys, hyj⟩ := HREC.out
      have htl : (rs.take i).length = i := by rw [List.length_take]; omega
      rw [htl] at hys
      obtain ⟨W1, hW1⟩ : ∃ W1, W1 = (wr.drewN nq).alloc (.cells #[.slice A2 (U - 2) (c' - 2)] 34) := ⟨_, rfl⟩
      have hbW : Below wr.heap.size wr W1 := by rw [hW1]; exact (below_drewN' wr nq).alloc (Nat.le_refl _) _
      have HYS : Hid (Rw W1 34 k v0 i ys) := Lib.hid (hys.kept (Kept.of_below (fun _ => False) hbW) (fun _ _ h => h))
      have HYJ := Lib.hid hyj
      have HYL := Lib.hid hys.1
      have HSRC : Hid (Src Tryd.prog 1 22 (.slice (some ⟨wr.heap.size, 0, none⟩) 1 1) 1 [.slice A2 (U - 2) (c' - 2)] W1) := Lib.hid (src_one Tryd.underlying22 (by rw [hW1]; exact heap_new rfl))
      have HBW : Hid (Below wr.heap.size wr W1) := Lib.hid hbW
      have HW1 := Lib.hid hW1
      have HA2E := Lib.hid hA2
      have HAUE := Lib.hid hAU
      clear hys hyj hA2 hAU hW1 hbW htl
      obtain ⟨i0, ji, jz0, jz1, jz2⟩ := info_parts info32'
      go_upto_region 9 with (first
        | (at_builtin; rw [← HA2E.out]; rw [← HW1.out]; refine wpList_append_rw _ rfl (.tmp 27) (.tmp 31) 22 22 rfl 34 i0 (.slice none 0 0) 24 Tryd.underlying22 ji jz0 jz1 jz2 rfl k v0 i ys rfl HYS.out 1 _ HSRC.out (by have := HN.out; unfold maxLen; omega) (by have := HN.out; omega) ?_; intro k2 v2 w2 g1 g2 g3; have G1 := Lib.hid g1; have G2 := Lib.hid g2; have G3 := Lib.hid g3; clear g1 g2 g3 HYS HSRC))
      go_wp2_with fail
      rw [← HAUE.out]
      go_roundw
      case rel =>
        refine ⟨i + 1, _, AU, n' - U, c' - U, k2, by omega, rfl, rfl, HAU.out, ⟨ys ++ [.slice A2 (U - 2) (c' - 2)], ?_, fun j hj => ?_⟩, fun x hx => ?_, ?_⟩
        · rw [show (rs.take (i + 1)).length = i + 1 by rw [List.length_take]; omega]
          exact G1.out
        · have hj2 : j < i + 1 := by rw [List.length_take] at hj; omega
          have hyl : ys.length = i := HYL.out
          have hyj := HYJ.out
          have htl : (rs.take i).length = i := by rw [List.length_take]; omega
          simp only [List.getElem_take]
          by_cases e : j < i
          · obtain ⟨a3, c3, h3, h4⟩ := hyj j (by omega)
            rw [List.getElem_take] at h3 h4
            have hb3 : Below wr.heap.size wr W1 := HBW.out
            exact ⟨a3, c3, by rw [List.getElem?_append_left (by omega)]; exact h3, (h4.kept (Kept.of_below (fun _ => False) hb3) (fun _ _ _ h => h)).kept G3.out (fun x _ hx hk => by have := HY.out x hx; have := HKN.out x hk; omega)⟩
          · obtain rfl : j = i := by omega
            refine ⟨A2, c' - 2, ?_, ?_⟩
            · rw [List.getElem?_append_right (by omega), hyl, Nat.sub_self, ← HRr.out, ← HR.out, show R = U - 2 by have := HU.out; omega]
              rfl
            · rw [← HRr.out, ← HR.out, show R = U - 2 by have := HU.out; omega]
              exact HA2.out.kept ((Kept.of_below (fun j => k = some j) (HBL.out.trans (HBW.out.mono HBL.out.size))).trans G3.out (fun _ _ h => h)) (fun x _ hx hk => by have := HY.out x hx; have := HKN.out x hk; omega)
        · rcases G2.out x hx with e | e
          · exact HKN.out x e
          · have := HBL.out.size; have := HBW.out.size; omega
        · exact (HBL.out.trans (HBW.out.mono HBL.out.size)).trans (G3.out.below (Nat.le_trans HBL.out.size HBW.out.size) (fun j hj e => by have := HKN.out j e; omega))
      case measure => simp [sliceLen]; omega
    · obtain rfl : i = rs.length := by omega
      have e1 : rs.take rs.length = rs := List.take_of_length_le (Nat.le_refl _)
      have e2 : joinB (rs.drop rs.length) = [] := by rw [List.drop_of_length_le (Nat.le_refl _)]; rfl
      rw [e1] at hrec
      rw [e2] at hbs
      obtain rfl : n' = 0 := by have := hbs.1; simpa using this.symm
      have HREC := Lib.hid hrec
      have HKN := Lib.hid hkn
      have HBL := Lib.hid hbl
      clear hbs hrec hkn hbl e1 e2 hi hlt
      go_wp2
      go_ret2
      exact ⟨_, k, rfl, HREC.out, HKN.out, HBL.out⟩
end Go.Proofs.YthffegfcgmhppaaDoor
namespace Go.Proofs.YthffegfcgmhppaaDoor
open Go.RowKit
set_option linter.unusedSimpArgs false
set_option linter.unusedVariables false
theorem Lv.onto {w0 w w' : World} {L : List Obj} {o : Obj} (h : Lv w0 w L) (h2 : Lv w w' [o]) : Lv w0 w' (o :: L) := by
  obtain ⟨B, h3, h4, _⟩ := h2.get (i := 0) rfl
  exact h.cons h2.args h3 h4
set_option maxRecDepth 100000 in
set_option maxHeartbeats 1000000 in
theorem wpList_racc {w0 w : World} {L : List Obj} (h : Lv w0 w L) {i j : Nat} (hij : i ≠ j) {v : Value} {rs : List (List UInt8)} {a : Option Addr} {n c : Nat} {l : List UInt8} (hi : L[i]? = some (recsO v rs)) (hj : L[j]? = some (bytesO (.slice a n c) l)) {ops : Array Oper} {rest : List Oper} {o : Oper} {t : Act} {Q : Exit → Act → World → Prop} (hgd : o.guard = none) (s x : Operand)
    (ho : o.op = .call { callee := .builtin .append, args := #[s, x], argTypes := #[22, 22] }) (hs : t.eval s = v) (hx : Src Tryd.prog 1 22 (t.eval x) 1 [.slice a n c] w) (hb : rs.length ≤ 1000000)
    (K : ∀ a' c' w', Lv w0 w' ((L.set i (recsO (.slice a' (rs.length + 1) c') (rs ++ [l]))).set j noO) → wpList Tryd.prog ops Q rest (t.put o.dst (.slice a' (rs.length + 1) c')) w') : wpList Tryd.prog ops Q (o :: rest) t w := by
  obtain ⟨i0, ji, jz0, jz1, jz2⟩ := info_parts info32'
  have hL := h.join hij hi hj
  have hil : i < L.length := (List.getElem?_eq_some_iff.1 hi).1
  have hg : ((L.set i (pairO (recsO v rs) (bytesO (.slice a n c) l))).set j noO)[i]? = some (pairO (recsO v rs) (bytesO (.slice a n c) l)) := by
    rw [List.getElem?_set_ne (fun e => hij e.symm), List.getElem?_set_self hil]
  obtain ⟨B, ⟨B1, B2, ⟨k, Bf, ⟨ys, h1, h2⟩, h3, h4⟩, ⟨a2, c2, e2, hb2⟩, h5, h6, h7⟩, hlt, _, hset⟩ := hL.get hg
  have hn : l.length = n := by injection e2 with _ e _; exact e.symm
  rw [hn] at e2 hb2
  cases e2
  refine wpList_append_rw w hgd s x _ _ ho 34 i0 (.slice none 0 0) 24 Tryd.underlying22 ji jz0 jz1 jz2 rfl k v rs.length ys hs h1 1 _ hx (by unfold maxLen; omega) (by omega) ?_
  intro k' v' w' g1 g2 g3
  obtain ⟨a', c', rfl, -, -⟩ := g1.shape
  have hkB : ∀ x, k = some x → B x := fun x hx => h6 x (h3 x hx).1
  have hgr : ∀ y, Bf y ∨ (B2 y ∧ y < w.heap.size) → k' ≠ some y := by
    intro y hy e
    rcases g2 y e with e | e
    · rcases hy with hy | hy
      · exact (h3 y e).2 hy
      · exact h5 y (h3 y e).1 hy.1
    · rcases hy with hy | hy
      · have := (hlt y (h6 y (h4 y hy))).2; omega
      · omega
  have key := hset w' (recsO (.slice a' (rs.length + 1) c') (rs ++ [l])) (fun y => k' = some y ∨ Bf y ∨ (B2 y ∧ y < w.heap.size)) ⟨k', fun y => Bf y ∨ (B2 y ∧ y < w.heap.size), ⟨ys ++ [.slice a n c], by rw [List.length_append]; exact g1, fun q hq => ?_⟩, fun y hy => ⟨.inl hy, fun hb => hgr y hb hy⟩, fun y hy => .inr hy⟩ (g3.mono (fun y _ hy => hkB y hy)) ?_ ?_
  · have e3 : (((L.set i (pairO (recsO v rs) (bytesO (.slice a n c) l))).set j noO).set i (recsO (.slice a' (rs.length + 1) c') (rs ++ [l]))) = (L.set i (recsO (.slice a' (rs.length + 1) c') (rs ++ [l]))).set j noO := by
      rw [List.set_comm _ _ (fun e => hij e.symm), List.set_set]
    rw [e3] at key
    exact K a' c' w' key
  · have hyl : ys.length = rs.length := h1.1
    by_cases e : q < rs.length
    · obtain ⟨a4, c4, e4, e5⟩ := h2 q e
      simp only [List.getElem_append_left e]
      exact ⟨a4, c4, by rw [List.getElem?_append_left (by omega)]; exact e4, (e5.kept g3 (fun y _ hy e => (h3 y e).2 hy)).dom (fun y hy => .inl hy)⟩
    · have hq2 : q = rs.length := by rw [List.length_append, List.length_singleton] at hq; omega
      have e6 : (rs ++ [l])[q]'hq = l := by rw [List.getElem_append_right (by omega)]; simp
      refine ⟨a, c, ?_, ?_⟩
      · rw [List.getElem?_append_right (by omega), show q - ys.length = 0 by omega, e6, hn]; rfl
      · rw [e6, hn]
        exact (hb2.small.kept g3 (fun y _ hy e => h5 y (h3 y e).1 hy.1)).dom (fun y hy => .inr hy)
  · rintro y (hy | hy | hy)
    · exact (g2 y hy).imp (fun e => hkB y e) id
    · exact .inl (h6 y (h4 y hy))
    · exact .inl (h7 y hy.1)
  · rintro y (hy | hy | hy)
    · exact g1.lt y hy
    · exact Nat.lt_of_lt_of_le (hlt y (h6 y (h4 y hy))).2 g3.size
    · exact Nat.lt_of_lt_of_le hy.2 g3.size
theorem run_makeR (n : Nat) (hn : n ≤ 1000000) (W : World) :
    (Instr.makeSlice 22 (.int .i64 0) (.int .i64 (n : Int))).run Tryd.prog W = .ok (.slice (some ⟨W.heap.size, 0, none⟩) 0 n) (W.alloc (.cells (madeCells #[.slice none 0 0] n) 34)) := by
  obtain ⟨i0, hi, hz0, hz1, hz2⟩ := info_parts info32'
  have h := run_make (P := Tryd.prog) W 22 34 i0 (.slice none 0 0) Tryd.underlying22 hi hz0 .i64 .i64 0 (n : Int) (by omega) (by omega) (by rw [hz2]; omega) (by omega)
  rw [h, hz1]
  simp [Value.cells]
theorem Lv.recsMake {w0 w : World} {L : List Obj} (h : Lv w0 w L) (n : Nat) (hn : n ≤ 1000000) : Lv w0 (w.alloc (.cells (madeCells #[.slice none 0 0] n) 34)) (recsO (.slice (some ⟨w.heap.size, 0, none⟩) 0 n) [] :: L) := by
  refine h.cons ((Below.refl _ _).alloc (Nat.le_refl _) _) (B := fun x => x = w.heap.size) ⟨some w.heap.size, fun _ => False, ⟨[], ⟨rfl, .inr ⟨w.heap.size, 0, n, _, rfl, rfl, heap_new rfl, Nat.zero_le _, by unfold maxLen; omega, by rw [size_madeCells]; omega, rfl⟩⟩, fun j hj => absurd hj (by simp)⟩, fun x hx => ⟨(Option.some.inj hx).symm, fun h => h⟩, fun _ h => h.elim⟩ (fun x hx => by subst hx; exact ⟨Nat.le_refl _, by rw [size_alloc1]; omega⟩)
set_option maxRecDepth 100000 in
set_option maxHeartbeats 4000000 in
theorem records_lv {w0 w : World} {L : List Obj} {gl g ii : Nat} {m : LM} (h : Lv w0 w L) (hi : L[ii]? = some (logO gl g m)) (hn : m.recs.length ≤ 100000) (h64 : ∀ r ∈ m.recs, r.length ≤ 1000000) :
    Calls Tryd.prog 16 #[.pointer (some ⟨gl, 0, none⟩)] w fun x w' => ∃ a c, x = .returned (.slice a m.recs.length c) ∧ Lv w0 w' (recsO (.slice a m.recs.length c) m.recs :: L) := by
  obtain ⟨kl, Bl, vl, BL, hlg, hlB, -, -⟩ := h.log hi
  obtain ⟨al, cl, rfl, h1, h2, hgl, -, -, -, -, -, c5, -, -, -⟩ := hlg.facts
  have HRD := Lib.hid (hlg.recs.rd (D := BL) (fun x hx => hlB x (.inr (.inl hx))) (fun x hx => hlB x (.inr (.inr hx))))
  have HL := Lib.hid h
  have H64 := Lib.hid h64
  obtain ⟨rs, hrs⟩ : ∃ rs, rs = m.recs := ⟨_, rfl⟩
  rw [← hrs] at HRD H64 h1 c5 hn ⊢
  obtain ⟨n, hnn⟩ : ∃ n, n = rs.length := ⟨_, rfl⟩
  rw [← hnn] at HRD h1 c5 hn ⊢
  have HN := Lib.hid hnn
  have hmk := run_makeR n (by omega)
  obtain ⟨w1, hw1⟩ : ∃ w1, w1 = w.alloc (.cells (madeCells #[.slice none 0 0] n) 34) := ⟨_, rfl⟩
  have HL1 : Hid (Lv w w1 [recsO (.slice (some ⟨w.heap.size, 0, none⟩) 0 n) []]) := Lib.hid (by rw [hw1]; exact (Lv.refl w).recsMake n (by omega))
  have C5 := Lib.hid c5
  have c51 : w1.cell? ⟨gl, 5, none⟩ = some (.slice al n cl) := (HL1.out.args.cell (p := ⟨gl, 5, none⟩) hgl).trans c5
  have HW1 := Lib.hid hw1
  clear hlg hlB h64 h hi hrs hnn hw1
  go_enter Tryd.func16, Tryd.ntmps16
  go_upto_region 2 with fail
  rw [← HW1.out]
  go_wp2_with fail
  go_loopw [3, 17] (fun u t wr => ∃ (i : Nat) (v0 : Value), i ≤ n ∧ v0 = u ∧ t = .int .i64 (i : Int) ∧ Lv w wr [recsO v0 (rs.take i)]) (fun _ t _ => n - (intOf t).toNat)
  case atStart => exact ⟨0, _, Nat.zero_le _, rfl, rfl, HL1.out⟩
  case round =>
    obtain ⟨i, v0, hi9, hv0, rfl, hL⟩ := hrel
    subst hv0
    have HLr := Lib.hid hL
    by_cases hlt : i < n
    · have hn2 : (i : Int) < (n : Int) := by omega
      have hw1 : IntKind.i64.wrap ((i : Int) + 1) = (i : Int) + 1 := i64_id _ (by omega) (by omega)
      have hlr : i < rs.length := by rw [← HN.out]; exact hlt
      obtain ⟨r, hr⟩ : ∃ r, r = rs[i]'hlr := ⟨_, rfl⟩
      obtain ⟨g, off, b, cb, -, rfl, hg, hcell, hbs⟩ := (HRD.out.below hL.args).2.2.2 i hlr
      rw [← hr] at hcell hbs
      have hrb : r.length ≤ 1000000 := H64.out r (by rw [hr]; exact List.getElem_mem _)
      have HBS := Lib.hid hbs
      have HRB := Lib.hid hrb
      have HTK : Hid (rs.take (i + 1) = rs.take i ++ [r]) := Lib.hid (by rw [List.take_succ_eq_append_getElem hlr, hr])
      have HTL : Hid ((rs.take i).length = i) := Lib.hid (by rw [List.length_take]; omega)
      obtain ⟨RT, hRT⟩ : ∃ RT, RT = rs.take i := ⟨_, rfl⟩
      rw [← hRT] at HLr HTK HTL
      have hbs56 := run_bs56
      have HG1 : Hid True := Lib.hid trivial
      clear hL hbs hr hRT hg
      go_wp2_with (first
        | (have x1 := HG1; go_at_call 26; refine (cloneB_any _ b r.length cb r wr HBS.out HRB.out).mono ?_; rintro e w2 ⟨v3, rfl, hm⟩; have hl2 := HLr.out.made hm; obtain ⟨a3, c3, rfl, -⟩ := hm.bs; have HL2 := Lib.hid hl2; have HL3 : Hid (Lv w (w2.alloc (.cells #[.slice a3 r.length c3] 34)) [bytesO (.slice a3 r.length c3) r, recsO v0 RT]) := Lib.hid (hl2.below ((Below.refl _ _).alloc (Nat.le_refl _) _)); have HSRC : Hid (Src Tryd.prog 1 22 (.slice (some ⟨w2.heap.size, 0, none⟩) 1 1) 1 [.slice a3 r.length c3] (w2.alloc (.cells #[.slice a3 r.length c3] 34))) := Lib.hid (src_one Tryd.underlying22 (heap_new rfl)); clear hl2 hm HLr x1 HG1)
        | (at_builtin; refine wpList_racc HL3.out (i := 1) (j := 0) (by omega) rfl rfl rfl (.tmp 21) (.tmp 24) rfl rfl HSRC.out (by have := HTL.out; omega) ?_; clear HL3 HSRC; intro a4 c4 w4 hl4; have HL4 := Lib.hid hl4; clear hl4))
      go_roundw
      case rel => exact ⟨i + 1, _, by omega, rfl, by go_num, by rw [HTK.out]; exact HL4.out.tail⟩
      case measure => simp [intOf]; omega
    · obtain rfl : i = n := by omega
      have e1 : rs.take i = rs := List.take_of_length_le (by rw [← HN.out]; exact Nat.le_refl _)
      rw [e1] at HLr
      obtain ⟨_, ⟨k9, Bf9, hr9, _, _⟩, _, _, _⟩ := HLr.out.get (i := 0) rfl
      obtain ⟨a9, c9, rfl, -, -⟩ := hr9.shape
      rw [← HN.out] at HLr
      have e9 : rs.length = i := HN.out.symm
      have HF := Lib.hid (HL.out.onto HLr.out)
      clear hL e1 hr9 HLr
      go_wp2
      go_ret
      exact ⟨_, _, by rw [e9]; rfl, HF.out⟩
end Go.Proofs.YthffegfcgmhppaaDoor
namespace Go.Proofs.YthffegfcgmhppaaDoor
open Go.RowKit
set_option linter.unusedSimpArgs false
set_option linter.unusedVariables false
/-- max(x, y) -/
theorem wpList_max2 {P : Program} {ops : Array Oper} {rest : List Oper} {o : Oper} {a : Act} {w : World} {Q : Exit → Act → World → Prop} (hgd : o.guard = none) (x y : Operand) (t1 t2 : TypeId)
    (ho : o.op = .call { callee := .builtin .max, args := #[x, y], argTypes := #[t1, t2] }) (n m r : Int) (hx : a.eval x = .int .i64 n) (hy : a.eval y = .int .i64 m) (hr0 : max n m = r)
    (h : wpList P ops Q rest (a.put o.dst (.int .i64 r)) w) : wpList P ops Q (o :: rest) a w := by
  have hr : (Builtin.max_ #[t1, t2] o.type #[.int .i64 n, .int .i64 m]).run P w = .ok (.int .i64 r) w := by
    subst hr0
    by_cases hn : n < m
    · have e : max n m = m := by omega
      rw [e]
      simp [Builtin.max_, Builtin.max2, hn, Result.andThen]
    · have e : max n m = n := by omega
      rw [e]
      simp [Builtin.max_, Builtin.max2, hn, Result.andThen]
  refine wpList_plain hgd fun K hK => ?_
  unfold Oper.wp execOp
  simp only [ho, resolve, invoke, builtin, Sem.run_bind, Sem.run_pure, Result.andThen_ok, List.map_toArray, List.map_cons, List.map_nil, hx, hy, hr]
  exact hK _ _ h
section
variable {w0 w : World} {L : List Obj} {gl g i : Nat} {m : LM} {d : DM}
theorem synced_lv (h : Lv w0 w L) (hi : L[i]? = some (logO gl g m)) :
    Calls Tryd.prog 43 #[.pointer (some ⟨gl, 0, none⟩)] w fun e w' => e = .returned (.int .i64 (m.syn : Int)) ∧ w = w' := by
  obtain ⟨a, c, h1, h2, hg, c0, c1, c2, c3, c4, c5, c6, c7, f0⟩ := h.logFacts hi
  clear h hi
  go_enter Tryd.func43, Tryd.ntmps43
  go_wp2
  go_ret
  exact ⟨rfl, rfl⟩
theorem below_drewN (w : World) (n : Nat) : Below w.heap.size w (w.drewN n) := ⟨rfl, rfl, rfl, Nat.le_refl _, fun _ _ => rfl⟩
/-- what is left, and the longest record -/
def roomZ (n : Nat) (tak : Int) : Int := max (min ((n : Int) * 64 - 128 - tak - 12) 4000) (-1)
set_option maxRecDepth 100000 in
set_option maxHeartbeats 1000000 in
theorem room_lv (h : Lv w0 w L) (hi : L[i]? = some (logO gl g m)) (hn : m.n ≤ 4096) (ht : m.tak ≤ 1000000) :
    Calls Tryd.prog 9 #[.pointer (some ⟨gl, 0, none⟩)] w fun e w' => e = .returned (.int .i64 (roomZ m.n m.tak)) ∧ Below w.heap.size w w' := by
  obtain ⟨a, c, h1, h2, hg, c0, c1, c2, c3, c4, c5, c6, c7, f0⟩ := h.logFacts hi
  obtain ⟨R, hR⟩ : ∃ R, R = roomZ m.n m.tak := ⟨_, rfl⟩
  rw [← hR]
  have HR := Lib.hid hR
  have w1 : IntKind.i64.wrap ((m.n : Int) * 64) = (m.n : Int) * 64 := i64_id _ (by omega) (by omega)
  have w2 : IntKind.i64.wrap ((m.n : Int) * 64 - 128) = (m.n : Int) * 64 - 128 := i64_id _ (by omega) (by omega)
  have w3 : IntKind.i64.wrap ((m.n : Int) * 64 - 128 - (m.tak : Int)) = (m.n : Int) * 64 - 128 - (m.tak : Int) := i64_id _ (by omega) (by omega)
  have w4 : IntKind.i64.wrap ((m.n : Int) * 64 - 128 - (m.tak : Int) - 12) = (m.n : Int) * 64 - 128 - (m.tak : Int) - 12 := i64_id _ (by omega) (by omega)
  obtain ⟨M, hM⟩ : ∃ M, M = min ((m.n : Int) * 64 - 128 - (m.tak : Int) - 12) 4000 := ⟨_, rfl⟩
  have HM : Hid (min ((m.n : Int) * 64 - 128 - (m.tak : Int) - 12) 4000 = M) := Lib.hid hM.symm
  have HX : Hid (max M (-1) = R) := Lib.hid (by rw [hR, hM]; rfl)
  clear h hi hR hM
  go_enter Tryd.func9, Tryd.ntmps9
  go_wp2_with fail
  go_quiet (fail)
  go_wp2_with (first
    | (refine wpList_min2 rfl (.tmp 16) (.const (.int .i64 4000)) 3 3 rfl _ 4000 M rfl rfl HM.out ?_)
    | (refine wpList_max2 rfl (.tmp 17) (.const (.int .i64 (-1))) 3 3 rfl M (-1) R rfl rfl HX.out ?_))
  go_ret
  exact ⟨rfl, below_drewN _ _⟩
def validB (S : Nat) (f n : Int) : Bool := decide (4 ≤ n ∧ 0 ≤ f ∧ n ≤ (S : Int) - f)
set_option maxRecDepth 100000 in
set_option maxHeartbeats 1000000 in
theorem valid_lv (h : Lv w0 w L) (hi : L[i]? = some (diskO g d)) (f n : Int) (f1 : -9223372036854775808 ≤ f) (f2 : f ≤ 9223372036854775807) (n1 : -9223372036854775808 ≤ n) (n2 : n ≤ 9223372036854775807) :
    Calls Tryd.prog 32 #[.pointer (some ⟨g, 0, none⟩), .int .i64 f, .int .i64 n] w fun e w' => e = .returned (.bool (validB d.S.length f n)) ∧ w = w' := by
  have hS := (h.ok hi).2.1
  obtain ⟨B, hB⟩ : ∃ B, B = validB d.S.length f n := ⟨_, rfl⟩
  obtain ⟨S, hSS⟩ : ∃ S, S = d.S.length := ⟨_, rfl⟩
  have HS := Lib.hid hSS
  rw [← hB]
  rw [← hSS] at hS hB
  unfold validB at hB
  have HB := Lib.hid hB
  have HL := Lib.hid h
  have HI := Lib.hid hi
  clear h hi hB hSS
  by_cases a1 : 4 ≤ n
  · by_cases a2 : 0 ≤ f
    · have w1 : IntKind.i64.wrap ((S : Int) - f) = (S : Int) - f := i64_id _ (by omega) (by omega)
      by_cases a3 : n ≤ (S : Int) - f
      · have HT : Hid (B = true) := Lib.hid (by rw [HB.out, decide_eq_true ⟨a1, a2, a3⟩])
        go_enter Tryd.func32, Tryd.ntmps32
        go_wp2_with (go_at_call 52; refine (len_lv HL.out HI.out).mono ?_; rintro e w3 ⟨rfl, rfl⟩; rw [← HS.out])
        go_ret
        exact ⟨by rw [HT.out]; rfl, rfl⟩
      · have HT : Hid (B = false) := Lib.hid (by rw [HB.out, decide_eq_false (fun h => a3 h.2.2)])
        have a4 : decide (n ≤ (S : Int) - f) = false := by simpa using a3
        have a5 : (S : Int) - f < n := by omega
        clear a3
        go_enter Tryd.func32, Tryd.ntmps32
        go_wp2_with (go_at_call 52; refine (len_lv HL.out HI.out).mono ?_; rintro e w3 ⟨rfl, rfl⟩; rw [← HS.out])
        go_ret
        exact ⟨by rw [HT.out]; rfl, rfl⟩
    · have HT : Hid (B = false) := Lib.hid (by rw [HB.out, decide_eq_false (fun h => a2 h.2.1)])
      have a4 : decide (0 ≤ f) = false := by simpa using a2
      have a5 : f < 0 := by omega
      clear a2
      go_enter Tryd.func32, Tryd.ntmps32
      go_wp2
      go_ret
      exact ⟨by rw [HT.out]; rfl, rfl⟩
  · have HT : Hid (B = false) := Lib.hid (by rw [HB.out, decide_eq_false (fun h => a1 h.1)])
    have a4 : decide (4 ≤ n) = false := by simpa using a1
    have a5 : n < 4 := by omega
    clear a1
    go_enter Tryd.func32, Tryd.ntmps32
    go_wp2
    go_ret
    exact ⟨by rw [HT.out]; rfl, rfl⟩
end
end Go.Proofs.YthffegfcgmhppaaDoor
namespace Go.Proofs.YthffegfcgmhppaaDoor
open Go.RowKit
set_option linter.unusedSimpArgs false
set_option linter.unusedVariables false
def Dsc4 : List (Option Tmp) := [some 27, some 28, some 29, some 30, some 31, some 32, some 33, some 34, some 35]
def Lsc4 : List (List Nat) := [[], [0], [], [], [], [], [5], [2, 3, 4, 6], [1, 7]]
theorem run_build4b (x y z t : Int) (W : World) : (Instr.buildSlice 34 4 #[(0, .int .u8 x), (1, .int .u8 y), (2, .int .u8 z), (3, .int .u8 t)]).run Tryd.prog W = .ok (.slice (some ⟨W.heap.size, 0, none⟩) 4 4) (W.alloc (.cells #[.int .u8 x, .int .u8 y, .int .u8 z, .int .u8 t] 5)) := by kernel_rfl
def headB (r e : Nat) : List UInt8 := [UInt8.ofNat r, UInt8.ofNat (e / 65536), UInt8.ofNat (e / 256), UInt8.ofNat e]
def footB (r e : Nat) : List UInt8 := [UInt8.ofNat e, UInt8.ofNat (e / 256), UInt8.ofNat (e / 65536), UInt8.ofNat r]
/-- the sector of a description -/
def desB (r e : Nat) : List UInt8 := headB r e ++ List.replicate 56 0 ++ footB r e
theorem desB_len (r e : Nat) : (desB r e).length = 64 := by simp [desB, headB, footB]
set_option maxRecDepth 100000 in
set_option maxHeartbeats 4000000 in
theorem sector_any (r e : Nat) (hr : r < 256) (he : e < 16777216) (w : World) :
    Calls Tryd.prog 51 #[.agg #[.int .u8 (r : Int), .int .i64 (e : Int)]] w fun x w' => ∃ g, x = .returned (.slice (some ⟨g, 0, none⟩) 64 64) ∧ w.heap.size ≤ g ∧ Bs (fun b => b = g) w' (some ⟨g, 0, none⟩) 64 64 (desB r e) ∧ Below w.heap.size w w' := by
  obtain ⟨h, hh⟩ : ∃ h, h = e / 65536 := ⟨_, rfl⟩
  obtain ⟨m, hm⟩ : ∃ m, m = e / 256 % 256 := ⟨_, rfl⟩
  obtain ⟨l, hl⟩ : ∃ l, l = e % 256 := ⟨_, rfl⟩
  have w1 : IntKind.u8.wrap ((e : Int) / 65536) = (h : Int) := by rw [IntKind.wrap_u8]; omega
  have w2 : IntKind.u8.wrap ((e : Int) / 256) = (m : Int) := by rw [IntKind.wrap_u8]; omega
  have w3 : IntKind.u8.wrap (e : Int) = (l : Int) := by rw [IntKind.wrap_u8]; omega
  obtain ⟨us1, hu1⟩ : ∃ us1, us1 = headB r e := ⟨_, rfl⟩
  obtain ⟨us2, hu2⟩ : ∃ us2, us2 = footB r e := ⟨_, rfl⟩
  have HU1 : Hid (vals us1 = [.int .u8 (r : Int), .int .u8 (h : Int), .int .u8 (m : Int), .int .u8 (l : Int)]) := Lib.hid (by
    rw [hu1, hh, hm, hl]
    have a1 : r % 256 = r := by omega
    have a2 : e / 65536 % 256 = e / 65536 := by omega
    simp only [headB, vals, List.map_cons, List.map_nil, u8_ofNat, a1, a2])
  have HU2 : Hid (vals us2 = [.int .u8 (l : Int), .int .u8 (m : Int), .int .u8 (h : Int), .int .u8 (r : Int)]) := Lib.hid (by
    rw [hu2, hh, hm, hl]
    have a1 : r % 256 = r := by omega
    have a2 : e / 65536 % 256 = e / 65536 := by omega
    simp only [footB, vals, List.map_cons, List.map_nil, u8_ofNat, a1, a2])
  have HL1 : Hid ((vals us1).length = Nat.min 4 64) := Lib.hid (by rw [HU1.out]; rfl)
  have HL2 : Hid ((vals us2).length = Nat.min 4 4) := Lib.hid (by rw [HU2.out]; rfl)
  obtain ⟨s1, hs1⟩ : ∃ s1 : List UInt8, s1 = us1 ++ List.replicate 60 0 := ⟨_, rfl⟩
  have HS1 : Hid (splice (vals zeroB) 0 (vals us1) = vals s1) := Lib.hid (by rw [hs1, hu1]; simp [splice, zeroB, vals, headB])
  have HS2 : Hid (splice (vals s1) 60 (vals us2) = vals (desB r e)) := Lib.hid (by rw [hs1, hu1, hu2]; simp [splice, vals, headB, footB, desB])
  have HF1 : Hid (0 + (vals us1).length ≤ (vals zeroB).length) := Lib.hid (by rw [HU1.out, vals_len, zeroB_len]; show 0 + 4 ≤ 64; omega)
  have HF2 : Hid (60 + (vals us2).length ≤ (vals s1).length) := Lib.hid (by rw [HU2.out, vals_len, hs1, hu1]; simp [headB])
  obtain ⟨q1, hq1⟩ : ∃ q1, q1 = w.alloc (.cells #[.int .u8 (r : Int), .int .i64 (e : Int)] 60) := ⟨_, rfl⟩
  obtain ⟨g1, hg1⟩ : ∃ g1, g1 = w.heap.size := ⟨_, rfl⟩
  have HB1 : Hid (Below w.heap.size w q1) := Lib.hid (by rw [hq1]; exact (Below.refl _ _).alloc (Nat.le_refl _) _)
  have HR1 : Hid (q1.heap[g1]? = some (.cells #[.int .u8 (r : Int), .int .i64 (e : Int)] 60 (0, 0))) := Lib.hid (by rw [hq1, hg1]; exact heap_new rfl)
  have HG1 : Hid (w.heap.size ≤ g1 ∧ g1 < q1.heap.size) := Lib.hid ⟨by omega, (Array.getElem?_eq_some_iff.1 HR1.out).1⟩
  have c10 : q1.cell? ⟨g1, 0, none⟩ = some (.int .u8 (r : Int)) := by rw [cell_of_row q1 g1 0 _ _ _ HR1.out]; rfl
  have c11 : q1.cell? ⟨g1, 1, none⟩ = some (.int .i64 (e : Int)) := by rw [cell_of_row q1 g1 1 _ _ _ HR1.out]; rfl
  have hq1h := Lib.hid hq1
  have hg1h := Lib.hid hg1
  have hmk := run_mk64
  clear hh hm hl hu1 hu2 hs1 hq1 hg1
  go_enter Tryd.func51, Tryd.ntmps51
  go_wp2_with fail
  rw [← hq1h.out, ← hg1h.out]
  go_quiet (fail)
  go_upto_region 3 with fail
  obtain ⟨q2, hq2⟩ : ∃ q2, q2 = (q1.drewN nq).alloc (.cells Z64 5) := ⟨_, rfl⟩
  obtain ⟨g6, hg6⟩ : ∃ g6, g6 = q1.heap.size := ⟨_, rfl⟩
  rw [← hq2, ← hg6]
  have hb2 : Below q1.heap.size q1 q2 := by rw [hq2]; exact (below_drewN q1 nq).alloc (Nat.le_refl _) _
  have HR2 : Hid (q2.heap[g6]? = some (.cells (vals zeroB).toArray 5 (0, 0))) := Lib.hid (by rw [hq2, hg6, ← Z64_vals]; exact heap_new rfl)
  have HB2 : Hid (Below w.heap.size w q2) := Lib.hid (HB1.out.trans (hb2.mono HB1.out.size))
  have HG6 : Hid (w.heap.size ≤ g6) := Lib.hid (by have := HB1.out.size; omega)
  have HG16 : Hid (¬ g1 = g6) := Lib.hid (by have := HG1.out.2; omega)
  have C10 : Hid (q2.cell? ⟨g1, 0, none⟩ = some (.int .u8 (r : Int))) := Lib.hid ((hb2.cell (p := ⟨g1, 0, none⟩) HG1.out.2).trans c10)
  have HG12 : Hid (g1 < q2.heap.size) := Lib.hid (Nat.lt_of_lt_of_le HG1.out.2 hb2.size)
  have c12 := C10.out
  have hb4 := run_build4b
  have HS3 : Hid (∀ j v, (vals us1)[j]? = some v → (q2.alloc (.cells #[.int .u8 (r : Int), .int .u8 (h : Int), .int .u8 (m : Int), .int .u8 (l : Int)] 5)).cell? ((⟨q2.heap.size, 0, none⟩ : Addr).add j) = some v) := Lib.hid (fun j v hv => by rw [Addr.add_mid, Nat.zero_add, cell_of_row _ q2.heap.size j _ _ _ (heap_new rfl)]; rw [HU1.out] at hv; simpa using hv)
  have hba : Below q2.heap.size q2 (q2.alloc (.cells #[.int .u8 (r : Int), .int .u8 (h : Int), .int .u8 (m : Int), .int .u8 (l : Int)] 5)) := (Below.refl _ _).alloc (Nat.le_refl _) _
  have HR3a : Hid ((q2.alloc (.cells #[.int .u8 (r : Int), .int .u8 (h : Int), .int .u8 (m : Int), .int .u8 (l : Int)] 5)).heap[g6]? = some (.cells (vals zeroB).toArray 5 (0, 0))) := Lib.hid ((Kept.of_below (fun _ => False) hba).heap HR2.out (fun h => h))
  have HB2a : Hid (Below w.heap.size w (q2.alloc (.cells #[.int .u8 (r : Int), .int .u8 (h : Int), .int .u8 (m : Int), .int .u8 (l : Int)] 5))) := Lib.hid (HB2.out.trans (hba.mono HB2.out.size))
  have HK2 : Hid (∀ w7 : World, Kept (fun x => x = g6) q2 w7 → w7.cell? ⟨g1, 0, none⟩ = some (.int .u8 (r : Int)) ∧ g1 < w7.heap.size) := Lib.hid (fun w7 hk => ⟨(hk.cell (p := ⟨g1, 0, none⟩) HG12.out HG16.out).trans C10.out, Nat.lt_of_lt_of_le HG12.out hk.size⟩)
  clear hq2 hg6 hb2 c10 c11 hba
  go_upto_region 4 with (first
    | (refine wpList_copy_own rfl (.tmp 19) (.tmp 25) 34 34 rfl 5 Tryd.underlying34 (by kernel_rfl) g6 0 64 64 ⟨q2.heap.size, 0, none⟩ 4 4 rfl rfl (vals zeroB).toArray 5 HR3a.out (vals us1) HL1.out HS3.out (by simpa using HF1.out) (vals_one us1) ?_))
  obtain ⟨q3, hq3⟩ : ∃ q3, q3 = (q2.alloc (.cells #[.int .u8 (r : Int), .int .u8 (h : Int), .int .u8 (m : Int), .int .u8 (l : Int)] 5)).setRow g6 (splice (vals zeroB) 0 (vals us1)).toArray := ⟨_, rfl⟩
  show Code.wp _ _ _ _ ((q2.alloc (.cells #[.int .u8 (r : Int), .int .u8 (h : Int), .int .u8 (m : Int), .int .u8 (l : Int)] 5)).setRow g6 (splice (vals zeroB) 0 (vals us1)).toArray)
  rw [← hq3]
  have hk3 : Kept (fun x => x = g6) q2 q3 := by rw [hq3]; exact (((Kept.refl (fun x => x = g6) q2).alloc _).setRow (fun _ => rfl) _)
  have HR3 : Hid (q3.heap[g6]? = some (.cells (vals s1).toArray 5 (0, 0))) := Lib.hid (by rw [hq3, HS1.out]; exact setRow_heap _ _ _ _ _ _ HR3a.out)
  have HB3 : Hid (Below w.heap.size w q3) := Lib.hid (by rw [hq3]; exact below_setRow HB2a.out HG6.out _)
  have hk4 := HK2.out q3 hk3
  have C1q := Lib.hid hk4.1
  have HG1q := Lib.hid hk4.2
  have HG6q : Hid (g6 < q3.heap.size) := Lib.hid (Array.getElem?_eq_some_iff.1 HR3.out).1
  simp only [Act.put, List.setIfInBounds_toArray, List.set_cons_zero, List.set_cons_succ]
  clear hq3 hk3 HR3a HB2a hk4 HK2 c12 HB2 HR2 C10 HG12 HS3
  refine Roll.region_w 9 37 Dsc4 Lsc4 [(1, .pointer (some ⟨g1, 0, none⟩)), (3, .int .u8 (h : Int)), (4, .int .u8 (m : Int)), (5, .int .u8 (l : Int)), (6, .slice (some ⟨g6, 0, none⟩) 64 64)] 8 [true, true, true, true, true, true, true, false, false] (fun p => Below q3.heap.size q3 p) (fun vv p => p.heap[g6]? = some (.cells (splice (vals s1) 60 (vals us2)).toArray 5 (0, 0)) ∧ Kept (fun x => x = g6) q3 p) (fun p => Kept (fun x => x = g6) q3 p) (fun p p2 => Kept (fun x => x = g6) p p2) [fun vv p => (vv 0) = .slice (some ⟨g6, 0, none⟩) 64 64, fun vv p => (vv 1) = .slice (some ⟨g6, 60, none⟩) 4 4, fun vv p => (vv 2) = .int .u8 (l : Int), fun vv p => (vv 3) = .int .u8 (m : Int), fun vv p => (vv 4) = .int .u8 (h : Int), fun vv p => (vv 5) = .pointer (some ⟨g1, 0, none⟩), fun vv p => (vv 6) = .int .u8 (r : Int), fun vv p => ∃ x, (vv 7) = .slice (some ⟨x, 0, none⟩) 4 4 ∧ q3.heap.size ≤ x ∧ p.heap[x]? = some (.cells #[.int .u8 (l : Int), .int .u8 (m : Int), .int .u8 (h : Int), .int .u8 (r : Int)] 5 (0, 0)), fun vv p => True] (by kernel_rfl) (by kernel_rfl) rfl ⟨rfl, rfl, rfl, rfl, rfl, trivial⟩ ((Below.refl _ _).drew) (by decide) (by kernel_rfl) (fun _ h => Kept.of_below _ h) (fun _ _ h => h.2) (fun _ => Kept.refl _ _) ?_ ?_ ?_
  · exact ⟨fun _ _ _ _ h => h, fun _ _ _ _ h => h, fun _ _ _ _ h => h, fun _ _ _ _ h => h, fun _ _ _ _ h => h, fun _ _ _ _ h => h, fun _ _ _ _ h => h, fun _ _ _ hs h => by obtain ⟨x, e1, e2, e3⟩ := h; exact ⟨x, e1, e2, hs.heap e3 (fun e => by have := HG6q.out; omega)⟩, fun _ _ _ _ h => h, trivial⟩
  · intro b0 hN hlv
    refine ⟨?_, ?_, ?_, ?_, ?_, ?_, ?_, ?_, ?_, trivial⟩
    · intro vs p hI0 hp
      have hI := Roll.inw_pure (by decide) rfl hI0
      clear hI0
      have e6 : (Roll.putD Dsc4 vs [] b0).eval (.tmp 6) = .slice (some ⟨g6, 0, none⟩) 64 64 := (Roll.eval_old rfl).trans (hlv.at 4 (6, .slice (some ⟨g6, 0, none⟩) 64 64) rfl)
      clear hp hlv hN
      unfold Roll.Goes
      simp only [Lsc4, List.getD_cons_zero, List.getD_cons_succ]
      generalize Roll.putD Dsc4 vs [] b0 = a1 at *
      refine Roll.goes_val (w' := p) (.slice (some ⟨g6, 0, none⟩) 64 64) rfl ?_ ⟨(Roll.outw_pure (by decide) rfl), rfl⟩
      (have ec : ∀ x, a1.eval (.const x) = x := fun _ => rfl); (have ef : ∀ x, a1.eval (.func x) = .func (.func x) #[] #[] := fun _ => rfl); generalize a1.eval = ρ at *
      skip
      go_simp <;> (intros; first | (exfalso; omega) | rfl)
    · intro vs p hI0 hp
      have hI := Roll.inw_pure (by decide) rfl hI0
      clear hI0
      have h0 : (vs 0) = .slice (some ⟨g6, 0, none⟩) 64 64 := hp 0 (by simp [Lsc4])
      have e27 : (Roll.putD Dsc4 vs [0] b0).eval (.tmp 27) = .slice (some ⟨g6, 0, none⟩) 64 64 := (Roll.eval_new 0 rfl (by decide) (by decide) (by omega)).trans h0
      clear hp hlv hN
      unfold Roll.Goes
      simp only [Lsc4, List.getD_cons_zero, List.getD_cons_succ]
      generalize Roll.putD Dsc4 vs [0] b0 = a1 at *
      refine Roll.goes_val (w' := p) (.slice (some ⟨g6, 60, none⟩) 4 4) rfl ?_ ⟨(Roll.outw_pure (by decide) rfl), rfl⟩
      (have ec : ∀ x, a1.eval (.const x) = x := fun _ => rfl); (have ef : ∀ x, a1.eval (.func x) = .func (.func x) #[] #[] := fun _ => rfl); generalize a1.eval = ρ at *
      clear h0
      go_simp <;> (intros; first | (exfalso; omega) | rfl)
    · intro vs p hI0 hp
      have hI := Roll.inw_pure (by decide) rfl hI0
      clear hI0
      have e5 : (Roll.putD Dsc4 vs [] b0).eval (.tmp 5) = .int .u8 (l : Int) := (Roll.eval_old rfl).trans (hlv.at 3 (5, .int .u8 (l : Int)) rfl)
      clear hp hlv hN
      unfold Roll.Goes
      simp only [Lsc4, List.getD_cons_zero, List.getD_cons_succ]
      generalize Roll.putD Dsc4 vs [] b0 = a1 at *
      refine Roll.goes_val (w' := p) (.int .u8 (l : Int)) rfl ?_ ⟨(Roll.outw_pure (by decide) rfl), rfl⟩
      (have ec : ∀ x, a1.eval (.const x) = x := fun _ => rfl); (have ef : ∀ x, a1.eval (.func x) = .func (.func x) #[] #[] := fun _ => rfl); generalize a1.eval = ρ at *
      skip
      go_simp <;> (intros; first | (exfalso; omega) | rfl)
    · intro vs p hI0 hp
      have hI := Roll.inw_pure (by decide) rfl hI0
      clear hI0
      have e4 : (Roll.putD Dsc4 vs [] b0).eval (.tmp 4) = .int .u8 (m : Int) := (Roll.eval_old rfl).trans (hlv.at 2 (4, .int .u8 (m : Int)) rfl)
      clear hp hlv hN
      unfold Roll.Goes
      simp only [Lsc4, List.getD_cons_zero, List.getD_cons_succ]
      generalize Roll.putD Dsc4 vs [] b0 = a1 at *
      refine Roll.goes_val (w' := p) (.int .u8 (m : Int)) rfl ?_ ⟨(Roll.outw_pure (by decide) rfl), rfl⟩
      (have ec : ∀ x, a1.eval (.const x) = x := fun _ => rfl); (have ef : ∀ x, a1.eval (.func x) = .func (.func x) #[] #[] := fun _ => rfl); generalize a1.eval = ρ at *
      skip
      go_simp <;> (intros; first | (exfalso; omega) | rfl)
    · intro vs p hI0 hp
      have hI := Roll.inw_pure (by decide) rfl hI0
      clear hI0
      have e3 : (Roll.putD Dsc4 vs [] b0).eval (.tmp 3) = .int .u8 (h : Int) := (Roll.eval_old rfl).trans (hlv.at 1 (3, .int .u8 (h : Int)) rfl)
      clear hp hlv hN
      unfold Roll.Goes
      simp only [Lsc4, List.getD_cons_zero, List.getD_cons_succ]
      generalize Roll.putD Dsc4 vs [] b0 = a1 at *
      refine Roll.goes_val (w' := p) (.int .u8 (h : Int)) rfl ?_ ⟨(Roll.outw_pure (by decide) rfl), rfl⟩
      (have ec : ∀ x, a1.eval (.const x) = x := fun _ => rfl); (have ef : ∀ x, a1.eval (.func x) = .func (.func x) #[] #[] := fun _ => rfl); generalize a1.eval = ρ at *
      skip
      go_simp <;> (intros; first | (exfalso; omega) | rfl)
    · intro vs p hI0 hp
      have hI := Roll.inw_pure (by decide) rfl hI0
      clear hI0
      have e1 : (Roll.putD Dsc4 vs [] b0).eval (.tmp 1) = .pointer (some ⟨g1, 0, none⟩) := (Roll.eval_old rfl).trans (hlv.at 0 (1, .pointer (some ⟨g1, 0, none⟩)) rfl)
      clear hp hlv hN
      unfold Roll.Goes
      simp only [Lsc4, List.getD_cons_zero, List.getD_cons_succ]
      generalize Roll.putD Dsc4 vs [] b0 = a1 at *
      refine Roll.goes_val (w' := p) (.pointer (some ⟨g1, 0, none⟩)) rfl ?_ ⟨(Roll.outw_pure (by decide) rfl), rfl⟩
      (have ec : ∀ x, a1.eval (.const x) = x := fun _ => rfl); (have ef : ∀ x, a1.eval (.func x) = .func (.func x) #[] #[] := fun _ => rfl); generalize a1.eval = ρ at *
      skip
      go_simp <;> (intros; first | (exfalso; omega) | rfl)
    · intro vs p hI0 hp
      have hI := Roll.inw_pure (by decide) rfl hI0
      clear hI0
      have h5 : (vs 5) = .pointer (some ⟨g1, 0, none⟩) := hp 5 (by simp [Lsc4])
      have e32 : (Roll.putD Dsc4 vs [5] b0).eval (.tmp 32) = .pointer (some ⟨g1, 0, none⟩) := (Roll.eval_new 5 rfl (by decide) (by decide) (by omega)).trans h5
      clear hp hlv hN
      unfold Roll.Goes
      simp only [Lsc4, List.getD_cons_zero, List.getD_cons_succ]
      generalize Roll.putD Dsc4 vs [5] b0 = a1 at *
      have cf : p.cell? ⟨g1, 0, none⟩ = some (.int .u8 (r : Int)) := (hI.cell (p := ⟨g1, 0, none⟩) HG1q.out HG16.out).trans C1q.out
      refine Roll.goes_val (w' := p) (.int .u8 (r : Int)) rfl ?_ ⟨(Roll.outw_pure (by decide) rfl), rfl⟩
      (have ec : ∀ x, a1.eval (.const x) = x := fun _ => rfl); (have ef : ∀ x, a1.eval (.func x) = .func (.func x) #[] #[] := fun _ => rfl); generalize a1.eval = ρ at *
      clear h5
      go_simp <;> (intros; first | (exfalso; omega) | rfl)
    · intro vs p hI0 hp
      have hI := Roll.inw_pre (by decide) rfl hI0
      clear hI0
      have h2 : (vs 2) = .int .u8 (l : Int) := hp 2 (by simp [Lsc4])
      have h3 : (vs 3) = .int .u8 (m : Int) := hp 3 (by simp [Lsc4])
      have h4 : (vs 4) = .int .u8 (h : Int) := hp 4 (by simp [Lsc4])
      have h6 : (vs 6) = .int .u8 (r : Int) := hp 6 (by simp [Lsc4])
      have e29 : (Roll.putD Dsc4 vs [2, 3, 4, 6] b0).eval (.tmp 29) = .int .u8 (l : Int) := (Roll.eval_new 2 rfl (by decide) (by decide) (by omega)).trans h2
      have e30 : (Roll.putD Dsc4 vs [2, 3, 4, 6] b0).eval (.tmp 30) = .int .u8 (m : Int) := (Roll.eval_new 3 rfl (by decide) (by decide) (by omega)).trans h3
      have e31 : (Roll.putD Dsc4 vs [2, 3, 4, 6] b0).eval (.tmp 31) = .int .u8 (h : Int) := (Roll.eval_new 4 rfl (by decide) (by decide) (by omega)).trans h4
      have e33 : (Roll.putD Dsc4 vs [2, 3, 4, 6] b0).eval (.tmp 33) = .int .u8 (r : Int) := (Roll.eval_new 6 rfl (by decide) (by decide) (by omega)).trans h6
      clear hp hlv hN
      unfold Roll.Goes
      simp only [Lsc4, List.getD_cons_zero, List.getD_cons_succ]
      generalize Roll.putD Dsc4 vs [2, 3, 4, 6] b0 = a1 at *
      have hal : Below p.heap.size p (p.alloc (.cells #[.int .u8 (l : Int), .int .u8 (m : Int), .int .u8 (h : Int), .int .u8 (r : Int)] 5)) := (Below.refl _ _).alloc (Nat.le_refl _) _
      refine Roll.goes_val (w' := p.alloc (.cells #[.int .u8 (l : Int), .int .u8 (m : Int), .int .u8 (h : Int), .int .u8 (r : Int)] 5)) (.slice (some ⟨p.heap.size, 0, none⟩) 4 4) rfl (by have ec : ∀ x, a1.eval (.const x) = x := fun _ => rfl; have ef : ∀ x, a1.eval (.func x) = .func (.func x) #[] #[] := fun _ => rfl; have hbs := run_build4b; generalize a1.eval = ρ at *; go_simp <;> (intros; first | (exfalso; omega) | rfl)) ⟨Roll.outw_pre (by decide) rfl (hI.trans (hal.mono hI.size)) (Kept.of_below _ hal), p.heap.size, rfl, hI.size, heap_new rfl⟩
    · intro vs p hI0 hp
      have hI := Roll.inw_k0 rfl hI0
      clear hI0
      have h1 : (vs 1) = .slice (some ⟨g6, 60, none⟩) 4 4 := hp 1 (by simp [Lsc4])
      have h7 : ∃ x, (vs 7) = .slice (some ⟨x, 0, none⟩) 4 4 ∧ q3.heap.size ≤ x ∧ p.heap[x]? = some (.cells #[.int .u8 (l : Int), .int .u8 (m : Int), .int .u8 (h : Int), .int .u8 (r : Int)] 5 (0, 0)) := hp 7 (by simp [Lsc4])
      have e28 : (Roll.putD Dsc4 vs [1, 7] b0).eval (.tmp 28) = .slice (some ⟨g6, 60, none⟩) 4 4 := (Roll.eval_new 1 rfl (by decide) (by decide) (by omega)).trans h1
      have e34 : (Roll.putD Dsc4 vs [1, 7] b0).eval (.tmp 34) = vs 7 := (Roll.eval_new 7 rfl (by decide) (by decide) (by omega))
      clear hp hlv hN
      unfold Roll.Goes
      simp only [Lsc4, List.getD_cons_zero, List.getD_cons_succ]
      generalize Roll.putD Dsc4 vs [1, 7] b0 = a1 at *
      obtain ⟨x, hv7, hx, hhx⟩ := h7
      rw [hv7] at e34
      have HS4 : ∀ j v, (vals us2)[j]? = some v → p.cell? ((⟨x, 0, none⟩ : Addr).add j) = some v := fun j v hv => by rw [Addr.add_mid, Nat.zero_add, cell_of_row p x j _ _ _ hhx]; rw [HU2.out] at hv; simpa using hv
      have HR4 : p.heap[g6]? = some (.cells (vals s1).toArray 5 (0, 0)) := (Kept.of_below (fun _ => False) hI).heap HR3.out (fun h => h)
      refine wpList_copy_own rfl (.tmp 28) (.tmp 34) 34 34 rfl 5 Tryd.underlying34 (by kernel_rfl) g6 60 4 4 ⟨x, 0, none⟩ 4 4 e28 e34 (vals s1).toArray 5 HR4 (vals us2) HL2.out HS4 (by simpa using HF2.out) (vals_one us2) ?_
      refine wpList_nil ?_
      have hk : Kept (fun x => x = g6) p (p.setRow g6 (splice (vals s1) 60 (vals us2)).toArray) := (Kept.refl (fun x => x = g6) p).setRow (fun _ => rfl) _
      exact ⟨_, rfl, Roll.outw_k0 rfl ⟨setRow_heap _ _ _ _ _ _ HR4, (Kept.of_below (fun x => x = g6) hI).trans hk (fun _ _ h => h)⟩ hk, trivial⟩
  · intro vs p hI hR
    have h0 : (vs 0) = .slice (some ⟨g6, 0, none⟩) 64 64 := hR 0 (by omega)
    have h1 : (vs 1) = .slice (some ⟨g6, 60, none⟩) 4 4 := hR 1 (by omega)
    have h2 : (vs 2) = .int .u8 (l : Int) := hR 2 (by omega)
    have h3 : (vs 3) = .int .u8 (m : Int) := hR 3 (by omega)
    have h4 : (vs 4) = .int .u8 (h : Int) := hR 4 (by omega)
    have h5 : (vs 5) = .pointer (some ⟨g1, 0, none⟩) := hR 5 (by omega)
    have h6 : (vs 6) = .int .u8 (r : Int) := hR 6 (by omega)
    have h7 : ∃ x, (vs 7) = .slice (some ⟨x, 0, none⟩) 4 4 ∧ q3.heap.size ≤ x ∧ p.heap[x]? = some (.cells #[.int .u8 (l : Int), .int .u8 (m : Int), .int .u8 (h : Int), .int .u8 (r : Int)] 5 (0, 0)) := hR 7 (by omega)
    have h8 : True := hR 8 (by omega)
    clear hR
    simp only [List.range_succ, List.range_zero, List.nil_append, List.cons_append, Roll.putD, Act.put, List.getD_cons_zero, List.getD_cons_succ, List.setIfInBounds_toArray, List.set_cons_zero, List.set_cons_succ, List.drop_succ_cons, List.drop_zero, Dsc4]
    simp only [h0, h1, h2, h3, h4, h5, h6]
    clear h0 h1 h2 h3 h4 h5 h6
    generalize vs 7 = v7 at *
    generalize vs 8 = v8 at *
    clear h7 h8
    have HF := Lib.hid hI.1
    have HBp : Hid (Below w.heap.size w p) := Lib.hid (HB3.out.trans (hI.2.below HB3.out.size (fun j hj e => by have := HG6.out; omega)))
    clear hI
    go_wp2_with fail
    go_ret
    have hfin := HF.out
    rw [HS2.out] at hfin
    have := bs_block hfin (by rw [desB_len]; decide)
    rw [desB_len] at this
    exact ⟨g6, rfl, HG6.out, this, HBp.out⟩
end Go.Proofs.YthffegfcgmhppaaDoor

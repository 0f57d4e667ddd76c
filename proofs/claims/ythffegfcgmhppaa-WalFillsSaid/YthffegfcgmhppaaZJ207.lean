/-
  Texts G2, G1, G3, G4, LK, Q2, UC, one behind the other.
-/
import Derived.WalkKit
import Derived.WalkSpells
import Derived.WalkLawsBesides
import Derived.Laws.AppendOwn
import Derived.Laws.OwnMore
import Derived.Deep.AppendSrc
import Derived.Deep.MidRow
import Derived.Lib.Hide
import Derived.Deep.QuietTactic
import Derived.BigQuiet
import Derived.Laws.ResultCell
import GoSem.Claim
import Derived.Orders
import Derived.Tactics
import Derived.Maps.RangeRun
import Derived.Maps.Range
import Derived.Maps.OwnOps
import Derived.Maps.RangeWalk
import Derived.Deep.Cut
import Derived.Deep.RegionWith
import Derived.Deep.DrawnRows
import Derived.StillTailTactics
import Derived.Carry
import Derived.Laws.CopyOwn
import Derived.Lib.AppendZerosOnto
import Derived.Laws.BytesString
import Derived.Laws.AppendOwnNone
import Derived.ProofKit
import Derived.OpenShut
import Derived.Deep.Slices
import Derived.Deep.Fields
import Derived.JoinedCond
import Derived.Laws.ShiftsVarLaws
import Derived.Laws.BitsAllLaws
import Derived.Test.YthffegfcgmhppaaRows
import Derived.Test.YthffegfcgmhppaaZJ206
namespace Go.Proofs.Ythffegfcgmhppaa
open Go.RowKit
set_option linter.unusedSimpArgs false
set_option linter.unusedVariables false
theorem lastB_snoc (s : List (List UInt8)) (l : List UInt8) : lastB (s ++ [l]) = l := by simp [lastB]
theorem sec_len0 {d : DM} {M : Nat} (h : d.Ok M) (k : Nat) (l : List UInt8) (hl : l.length = 64) : (d.write k l).S.length = d.S.length := write_len _ _ _
/-- the disk that Format leaves -/
theorem fmt_ga (f n : Nat) (d : DM) (hfit : f + n ≤ d.S.length) (h4 : 4 ≤ n) (hok : d.Ok 0) : GA f n (((d.write (f + 1) (desB 1 128)).flush.write f (desB 2 128)).flush) 2 128 [] := by
  have o1 : (d.write (f + 1) (desB 1 128)).flush.Ok 0 := DM.flush_ok (DM.write_ok hok (desB_len _ _))
  have o2 : ((d.write (f + 1) (desB 1 128)).flush.write f (desB 2 128)).flush.Ok 0 := DM.flush_ok (DM.write_ok o1 (desB_len _ _))
  have l1 : (d.write (f + 1) (desB 1 128)).S.length = d.S.length := write_len _ _ _
  have l2 : (d.write (f + 1) (desB 1 128)).flush.S.length = d.S.length := by rw [flush_len, l1]
  have l3 : ((d.write (f + 1) (desB 1 128)).flush.write f (desB 2 128)).S.length = d.S.length := by rw [write_len, l2]
  have l4 : ((d.write (f + 1) (desB 1 128)).flush.write f (desB 2 128)).flush.S.length = d.S.length := by rw [flush_len, l3]
  obtain ⟨a0, a1, a2, a3⟩ := desB_get 1 128 0 (by omega) (by omega)
  obtain ⟨b0, b1, b2, b3⟩ := desB_get 2 128 0 (by omega) (by omega)
  have s1 : sec ((d.write (f + 1) (desB 1 128)).flush) (f + 1) = [desB 1 128] := by
    rw [sec_flush _ _ (by omega), sec_write _ _ _ _ (by omega), if_pos rfl, lastB_snoc]
  refine ⟨by rw [l4]; exact hfit, len_of_ok o2, by omega, ⟨desB 2 128, ?_, okS_des 2 128 (by omega) (by omega) (by omega), b0, b2⟩, ⟨desB 1 128, ?_, .inr a0, by rw [a1]; omega⟩, rfl, fun i hi => by simp [joinB] at hi, by omega⟩
  · show sec _ f = _
    rw [sec_flush _ _ (by omega), sec_write _ _ _ _ (by omega), if_pos rfl, lastB_snoc]
  · show sec _ (f + 1) = _
    rw [sec_flush _ _ (by omega), sec_write _ _ _ _ (by omega), if_neg (by omega), s1]
    rfl
def mFresh (f n : Nat) : LM := ⟨f, n, 2, 128, [], 0, 0⟩
theorem fmt_fine (f n : Nat) (d : DM) (hon : d.on = true) (hf : d.fuse = 0) (hfit : f + n ≤ d.S.length) (h4 : 4 ≤ n) (h5 : n ≤ 200) (hok : d.Ok 0) : (fmtR f n d).1 = 0 ∧ (fmtR f n d).2.1 = mFresh f n ∧ Fine (mFresh f n) (fmtR f n d).2.2 ∧ (fmtR f n d).2.2.on = true ∧ (fmtR f n d).2.2.fuse = 0 ∧ (fmtR f n d).2.2.S.length = d.S.length := by
  obtain ⟨e1, e2, e3, e4, e5⟩ := fmtR_on f n d hon hf
  refine ⟨e1, e2, ⟨⟨h4, h5⟩, Nat.le_refl _, rfl, by show takR [] + 128 ≤ 64 * n; simp [takR]; omega, (fun r hr => by cases hr), ?_, ?_⟩, e4, e5, ?_⟩
  · rw [e3]; exact fmt_ga f n d hfit h4 hok
  · rw [e3]; exact DM.flush_ok (DM.write_ok (DM.flush_ok (DM.write_ok hok (desB_len _ _))) (desB_len _ _))
  · rw [e3, flush_len, write_len, flush_len, write_len]
/-- the block of a past -/
def pastO (gp g gl n : Nat) (v : Value) (s : Nat) (r : Bool) : Obj := ⟨fun B w => w.heap[gp]? = some (.cells #[.pointer (some ⟨g, 0, none⟩), .pointer (some ⟨gl, 0, none⟩), .int .i64 (n : Int), v, .int .i64 (s : Int), .bool r] 54 (0, 0)) ∧ B gp, fun {B S w w'} h hk hs => ⟨hk.heap h.1 (hs gp (Array.getElem?_eq_some_iff.1 h.1).1 h.2), h.2⟩⟩
theorem Lv.pastF {w0 w : World} {L : List Obj} {i gp g gl n s : Nat} {v : Value} {r : Bool} (h : Lv w0 w L) (hi : L[i]? = some (pastO gp g gl n v s r)) : gp < w.heap.size ∧ w.cell? ⟨gp, 0, none⟩ = some (.pointer (some ⟨g, 0, none⟩)) ∧ w.cell? ⟨gp, 1, none⟩ = some (.pointer (some ⟨gl, 0, none⟩)) ∧ w.cell? ⟨gp, 2, none⟩ = some (.int .i64 (n : Int)) ∧ w.cell? ⟨gp, 3, none⟩ = some v ∧ w.cell? ⟨gp, 4, none⟩ = some (.int .i64 (s : Int)) ∧ w.cell? ⟨gp, 5, none⟩ = some (.bool r) := by
  obtain ⟨_, h1, -, -, -⟩ := h.get hi
  exact ⟨(Array.getElem?_eq_some_iff.1 h1.1).1, cell_of_row w gp 0 _ _ _ h1.1, cell_of_row w gp 1 _ _ _ h1.1, cell_of_row w gp 2 _ _ _ h1.1, cell_of_row w gp 3 _ _ _ h1.1, cell_of_row w gp 4 _ _ _ h1.1, cell_of_row w gp 5 _ _ _ h1.1⟩
theorem run_buildP (g gl : Nat) (n : Int) (W : World) : (Instr.build 54 #[(0, .pointer (some ⟨g, 0, none⟩)), (1, .pointer (some ⟨gl, 0, none⟩)), (2, .int .i64 n)]).run Try.prog W = .ok (.agg #[.pointer (some ⟨g, 0, none⟩), .pointer (some ⟨gl, 0, none⟩), .int .i64 n, .slice none 0 0, .int .i64 0, .bool false]) W := by kernel_rfl
theorem dnew_ok (n : Nat) (h1 : 1 ≤ n) (h2 : n ≤ 4096) : (DM.new n).Ok 0 := DM.new_ok h1 h2
/-- what begin makes of a number -/
def bgN (s : Int) : Nat := 4 + (around s 12).toNat
theorem bgN_bd (s : Int) : 4 ≤ bgN s ∧ bgN s ≤ 15 := by
  have := around_bd s 12 (by omega)
  unfold bgN
  omega
def bgD (n : Nat) : DM := (fmtR 1 n (DM.new (n + 2))).2.2
theorem bg_fine (n : Nat) (h1 : 4 ≤ n) (h2 : n ≤ 15) : (fmtR 1 n (DM.new (n + 2))).1 = 0 ∧ (fmtR 1 n (DM.new (n + 2))).2.1 = mFresh 1 n ∧ Fine (mFresh 1 n) (bgD n) ∧ (bgD n).on = true ∧ (bgD n).fuse = 0 ∧ (bgD n).S.length = n + 2 := by
  have hs : (DM.new (n + 2)).S.length = n + 2 := by simp [DM.new]
  obtain ⟨a, b, c, d, e, f⟩ := fmt_fine 1 n (DM.new (n + 2)) rfl rfl (by rw [hs]; omega) h1 (by omega) (DM.new_ok (by omega) (by omega))
  exact ⟨a, b, c, d, e, f.trans hs⟩
section
variable {w0 w : World} {L : List Obj}
set_option maxRecDepth 100000 in
set_option maxHeartbeats 2000000 in
theorem begin_lv (h : Lv w0 w L) (s : Int) (s1 : -9223372036854775808 ≤ s) (s2 : s ≤ 9223372036854775807) :
    Calls Try.prog 23 #[.int .i64 s] w fun e w' => ∃ gp g gl, e = .returned (.pointer (some ⟨gp, 0, none⟩)) ∧ Lv w0 w' (pastO gp g gl (bgN s) (.slice none 0 0) 0 false :: logO gl g (mFresh 1 (bgN s)) :: diskO g (bgD (bgN s)) :: L) := by
  have hA := around_any s 12 w s1 s2 (by omega) (by omega)
  obtain ⟨a, ha, ha2⟩ := around_nat s 12 (by omega)
  rw [ha] at hA
  obtain ⟨n, hn⟩ : ∃ n, n = bgN s := ⟨_, rfl⟩
  have hna : (n : Int) = 4 + (a : Int) := by rw [hn]; unfold bgN; rw [ha]; omega
  have hnb := bgN_bd s
  rw [← hn] at hnb ⊢
  have hn1 := hnb.1
  have hn2 := hnb.2
  have hw1 : IntKind.i64.wrap (4 + (a : Int)) = (n : Int) := by rw [i64_id _ (by omega) (by omega)]; omega
  have hw2 : IntKind.i64.wrap ((n : Int) + 2) = ((n + 2 : Nat) : Int) := by rw [i64_id _ (by omega) (by omega)]; omega
  obtain ⟨f1, f2, f3, f4, f5, f6⟩ := bg_fine n hn1 hn2
  have hs : (DM.new (n + 2)).S.length = n + 2 := by simp [DM.new]
  have hv : validB (DM.new (n + 2)).S.length ((1 : Nat) : Int) (n : Int) = true := by unfold validB; rw [hs]; apply decide_eq_true; omega
  have HA := Lib.hid hA
  have HF : Hid (∀ u g, Lv w0 u (diskO g (DM.new (n + 2)) :: L) → Calls Try.prog 11 #[.pointer (some ⟨g, 0, none⟩), .int .i64 1, .int .i64 (n : Int)] u fun x w' => ∃ gl, x = .returned (.tuple #[.pointer (some ⟨gl, 0, none⟩), .int .i64 0]) ∧ Lv w0 w' (logO gl g (mFresh 1 n) :: diskO g (bgD n) :: L)) := Lib.hid (fun u g hl => by
    refine (format_ok hl (j := 0) rfl 1 n (by omega) (by omega) hv ((DM.new_ok (by omega) (by omega)).mono (by omega))).mono ?_
    rintro x w' (⟨-, gl, hx, hl2⟩ | ⟨he, -⟩)
    · rw [f2] at hl2; exact ⟨gl, hx, hl2⟩
    · rw [f1] at he; exact absurd he (by omega))
  have HL0 := Lib.hid h
  have hb1 := run_buildP
  obtain ⟨N2, hN2⟩ : ∃ N2, N2 = n + 2 := ⟨_, rfl⟩
  rw [← hN2] at hw2 HF
  have HN2 : Hid (1 ≤ N2 ∧ N2 ≤ 4096) := Lib.hid (by omega)
  clear h hA hn ha ha2 hna hnb f1 f2 f3 f4 f5 f6 hs hv hN2
  go_enter Try.func23, Try.ntmps23
  go_upto_region 8 with (first
    | (go_at_call 9; refine HA.out.mono ?_; rintro e w1 ⟨rfl, rfl⟩)
    | (have x1 := HL0.out; go_at_call 10; refine (made4_lv x1 N2 HN2.out.1 HN2.out.2).mono ?_; rintro e w1 ⟨g, rfl, hl⟩; have HL1 := Lib.hid hl; clear hl x1 HL0)
    | (have x1 := HL1.out; go_at_call 11; refine (HF.out _ _ x1).mono ?_; rintro e w2 ⟨gl, rfl, hl⟩; have HL2 := Lib.hid hl; clear hl x1 HL1))
  go_wp2_with fail
  go_ret
  refine ⟨_, g, gl, rfl, HL2.out.cons ((Below.refl _ _).alloc (Nat.le_refl _) _) (B := fun x => x = w2.heap.size) ⟨heap_new rfl, rfl⟩ (fun x hx => by subst hx; exact ⟨Nat.le_refl _, by rw [size_alloc1]; omega⟩)⟩
end
end Go.Proofs.Ythffegfcgmhppaa
namespace Go.Proofs.Ythffegfcgmhppaa
open Go.RowKit
set_option linter.unusedSimpArgs false
set_option linter.unusedVariables false
theorem run_bs1b (x : Int) (W : World) : (Instr.buildSlice 32 1 #[(0, .int .u8 x)]).run Try.prog W = .ok (.slice (some ⟨W.heap.size, 0, none⟩) 1 1) (W.alloc (.cells #[.int .u8 x] 5)) := by kernel_rfl
theorem Made.base {w w1 w2 : World} {v : Value} {l : List UInt8} (h : Made w1 v l w2) (hb : Below w.heap.size w w1) : Made w v l w2 := by
  obtain ⟨k, h1, h2, h3⟩ := h
  exact ⟨k, h1, fun j hj => Nat.le_trans hb.size (h2 j hj), hb.trans (h3.mono hb.size)⟩
set_option maxRecDepth 100000 in
set_option maxHeartbeats 2000000 in
theorem record_any (D : Nat → Prop) (kind nn : Int) (most : Nat) (da : Option Addr) (dn dc : Nat) (data : List UInt8) (w : World) (h1 : -9223372036854775808 ≤ nn) (h2 : nn ≤ 9223372036854775807) (hm : most ≤ 100000) (hB : Bs D w da dn dc data) :
    Calls Try.prog 13 #[.agg #[.int .i64 kind, .int .i64 nn, .slice da dn dc], .int .i64 (most : Int)] w fun e w' => ∃ v, e = .returned v ∧ Made w v (recB (around nn ((most : Int) + 1)).toNat data) w' := by
  obtain ⟨n, hn, hn2⟩ := around_nat nn ((most : Int) + 1) (by omega)
  have hnb : n ≤ most := by omega
  obtain ⟨w1, hw1⟩ : ∃ w1, w1 = w.alloc (.cells #[.int .i64 kind, .int .i64 nn, .slice da dn dc] 34) := ⟨_, rfl⟩
  obtain ⟨g, hg⟩ : ∃ g, g = w.heap.size := ⟨_, rfl⟩
  have hblk : w1.heap[g]? = some (.cells #[.int .i64 kind, .int .i64 nn, .slice da dn dc] 34 (0, 0)) := by rw [hw1, hg]; exact heap_new rfl
  have hbw : Below w.heap.size w w1 := by rw [hw1]; exact (Below.refl _ _).alloc (Nat.le_refl _) _
  have hgs : g < w1.heap.size := by rw [hw1, hg]; simp
  have c1 : w1.cell? ⟨g, 1, none⟩ = some (.int .i64 nn) := cell_of_row w1 g 1 _ _ _ hblk
  have c2 : w1.cell? ⟨g, 2, none⟩ = some (.slice da dn dc) := cell_of_row w1 g 2 _ _ _ hblk
  have hB1 : Bs D w1 da dn dc data := hB.kept (Kept.of_below (fun _ => False) hbw) (fun _ _ _ h => h)
  have hwm : IntKind.i64.wrap ((most : Int) + 1) = (most : Int) + 1 := i64_id _ (by omega) (by omega)
  have hdl := hB.1
  have hdc := hB.2.2.1
  have hdc2 : dc ≤ 9223372036854775807 := hB.2.2.2.1
  have HAR : Hid (∀ u, Calls Try.prog 9 #[.int .i64 nn, .int .i64 ((most : Int) + 1)] u fun e w' => e = .returned (.int .i64 (n : Int)) ∧ u = w') := Lib.hid (fun u => by
    have := around_any nn ((most : Int) + 1) u h1 h2 (by omega) (by omega)
    rw [hn] at this
    exact this)
  have HN : Hid ((around nn ((most : Int) + 1)).toNat = n) := Lib.hid (by rw [hn]; omega)
  rw [HN.out]
  have HBW := Lib.hid hbw
  have HB1 := Lib.hid hB1
  have HDL := Lib.hid hdl
  have HW1 := Lib.hid hw1
  have HG := Lib.hid hg
  have hbs1 := run_bs1b
  clear hB hB1 hw1 hg hblk hbw hn hdl
  go_enter Try.func13, Try.ntmps13
  go_upto_region 1 with fail
  rw [← HW1.out, ← HG.out]
  go_wp2_with (go_at_call 9; refine (HAR.out _).mono ?_; rintro e w2 ⟨rfl, rfl⟩)
  go_loopw [6, 7] (fun u t wr => ∃ (i : Nat) (v0 : Value), i ≤ n ∧ v0 = u ∧ t = .int .i64 (i : Int) ∧ Lv w1 wr [baccO v0 (recB i data)]) (fun _ t _ => n - (intOf t).toNat)
  case atStart => exact ⟨0, _, Nat.zero_le _, rfl, rfl, (Lv.refl w1).bacc0⟩
  case round =>
    obtain ⟨i, v0, hi, hv0, rfl, hL⟩ := hrel
    subst hv0
    have HL := Lib.hid hL
    by_cases hlt : i < n
    · have hn3 : (i : Int) < (n : Int) := by omega
      have hwi : IntKind.i64.wrap ((i : Int) + 1) = (i : Int) + 1 := i64_id _ (by omega) (by omega)
      have k2 : wr.cell? ⟨g, 2, none⟩ = some (.slice da dn dc) := (hL.args.cell (p := ⟨g, 2, none⟩) hgs).trans c2
      have HSU := Lib.hid (recB_succ i data)
      have HLE : Hid ((recB i data).length + 1 ≤ 1000000) := Lib.hid (by rw [recB_len]; omega)
      obtain ⟨RB, hRB⟩ : ∃ RB, RB = recB i data := ⟨_, rfl⟩
      rw [← hRB] at HL HSU HLE
      by_cases hd0 : dn = 0
      · subst hd0
        obtain ⟨x, hx⟩ : ∃ x, x = UInt8.ofNat i := ⟨_, rfl⟩
        have HX : Hid (recB (i + 1) data = RB ++ [x]) := Lib.hid (by rw [HSU.out, if_pos HDL.out, hx])
        obtain ⟨X, hX⟩ : ∃ X : Int, X = (x.toNat : Int) := ⟨_, rfl⟩
        have hwc : IntKind.u8.wrap (i : Int) = X := by rw [hX, hx, IntKind.wrap_u8, u8_ofNat]; omega
        have HSRC : Hid (Src Try.prog 1 32 (.slice (some ⟨wr.heap.size, 0, none⟩) 1 1) [x].length (vals [x]) (wr.alloc (.cells #[.int .u8 X] 5))) := Lib.hid (by
          exact src_bytes (us := [x]) (g := wr.heap.size) (w := wr.alloc (.cells #[.int .u8 X] 5)) (by rw [hX]; exact heap_new rfl))
        have HLn : Hid (Lv w1 (wr.alloc (.cells #[.int .u8 X] 5)) [baccO v0 RB]) := Lib.hid (HL.out.below ((Below.refl _ _).alloc (Nat.le_refl _) _))
        clear hL hRB hx hX HL HSU
        go_wp2_with (at_builtin; refine wpList_bacc HLn.out (i := 0) (v := v0) (l := RB) rfl rfl (.tmp 34) (.tmp 36) rfl rfl [x] HSRC.out HLE.out ?_; clear HLn HSRC; intro v2 w2 hl2; have HL2 := Lib.hid hl2; clear hl2)
        go_roundw
        case rel => exact ⟨i + 1, _, by omega, rfl, by go_num, by rw [HX.out]; exact HL2.out⟩
        case measure => simp [intOf]; omega
      · obtain ⟨b, off, -, hbs, rfl, hcell⟩ := (HB1.out.kept (Kept.of_below (fun _ => False) hL.args) (fun _ _ _ h => h)).cells (by omega)
        obtain ⟨q, hq⟩ : ∃ q, q = i % dn := ⟨_, rfl⟩
        have hqd : q < dn := by rw [hq]; exact Nat.mod_lt _ (by omega)
        have hql : q < data.length := by rw [HDL.out]; exact hqd
        obtain ⟨x, hx⟩ : ∃ x, x = data[q]'hql := ⟨_, rfl⟩
        have HX : Hid (recB (i + 1) data = RB ++ [x]) := Lib.hid (by
          rw [HSU.out, if_neg (by rw [HDL.out]; exact hd0), HDL.out, ← hq, hx, List.getD_eq_getElem?_getD, List.getElem?_eq_getElem hql]
          rfl)
        have hcx := hcell q hql
        rw [← hx] at hcx
        obtain ⟨X, hX⟩ : ∃ X : Int, X = (x.toNat : Int) := ⟨_, rfl⟩
        rw [← hX] at hcx
        obtain ⟨Y, hY⟩ : ∃ Y : Int, Y = IntKind.u8.wrap (i : Int) := ⟨_, rfl⟩
        have hwc : IntKind.u8.wrap (i : Int) = Y := hY.symm
        have hqt : Int.tmod (i : Int) (dn : Int) = (q : Int) := by rw [Int.tmod_eq_emod_of_nonneg (by omega), hq]; rfl
        have hqw : IntKind.i64.wrap (q : Int) = (q : Int) := i64_id _ (by omega) (by omega)
        have hdz : ¬ ((dn : Int) = 0) := by omega
        have hdp : (0 : Int) < (dn : Int) := by omega
        have hqi : (q : Int) < (dn : Int) := by omega
        have HSRC : Hid (∀ u, Below wr.heap.size wr u → Src Try.prog 1 32 (.slice (some ⟨u.heap.size, 0, none⟩) 1 1) [x].length (vals [x]) (u.alloc (.cells #[.int .u8 X] 5))) := Lib.hid (fun u _ => by
          exact src_bytes (us := [x]) (g := u.heap.size) (w := u.alloc (.cells #[.int .u8 X] 5)) (by rw [hX]; exact heap_new rfl))
        have HLn : Hid (∀ u, Below wr.heap.size wr u → Lv w1 (u.alloc (.cells #[.int .u8 X] 5)) [baccO v0 RB]) := Lib.hid (fun u hu => (HL.out.below hu).below ((Below.refl _ _).alloc (Nat.le_refl _) _))
        clear hL hRB hx hX HL HSU hY hcell hq hql
        go_wp2_with fail
        go_quiet (fail)
        go_wp2_with (at_builtin; refine wpList_bacc (HLn.out _ (below_drewN _ _)) (i := 0) (v := v0) (l := RB) rfl rfl (.tmp 34) (.tmp 36) rfl rfl [x] (HSRC.out _ (below_drewN _ _)) HLE.out ?_; clear HLn HSRC; intro v2 w2 hl2; have HL2 := Lib.hid hl2; clear hl2)
        go_roundw
        case rel => exact ⟨i + 1, _, by omega, rfl, by go_num, by rw [HX.out]; exact HL2.out⟩
        case measure => simp [intOf]; omega
    · obtain rfl : i = n := by omega
      have HM := Lib.hid (HL.out.madeOf.base HBW.out)
      clear hL HL
      go_wp2
      go_ret
      exact ⟨_, rfl, HM.out⟩
end Go.Proofs.Ythffegfcgmhppaa
namespace Go.Proofs.Ythffegfcgmhppaa
open Go.RowKit
set_option linter.unusedSimpArgs false
set_option linter.unusedVariables false
/-- the states of Bytes -/
def stB (s : Int) : Nat → Int
  | 0 => bits BinOp.or IntKind.u32 (s % 4294967296) 1
  | i + 1 => (stB s i * 1664525 + 1013904223) % 4294967296
def bytesB (n : Nat) (s : Int) : List UInt8 := (List.range n).map fun i => UInt8.ofNat (stB s (i + 1) / 16777216).toNat
theorem bytesB_len (n : Nat) (s : Int) : (bytesB n s).length = n := by simp [bytesB]
theorem bytesB_succ (n : Nat) (s : Int) : bytesB (n + 1) s = bytesB n s ++ [UInt8.ofNat (stB s (n + 1) / 16777216).toNat] := by simp [bytesB, List.range_succ]
set_option maxRecDepth 100000 in
set_option maxHeartbeats 2000000 in
theorem bytes1_any (n : Nat) (s : Int) (w : World) (hn : n ≤ 100000) (s1 : -9223372036854775808 ≤ s) (s2 : s ≤ 9223372036854775807) :
    Calls Try.prog 31 #[.int .i64 (n : Int), .int .i64 s] w fun e w' => ∃ v, e = .returned v ∧ Made w v (bytesB n s) w' := by
  have hbs1 := run_bs1b
  obtain ⟨X0, hX0⟩ : ∃ X0, X0 = stB s 0 := ⟨_, rfl⟩
  have hx0 : bits BinOp.or IntKind.u32 (s % 4294967296) 1 = X0 := hX0.symm
  have HX0 := Lib.hid hX0
  clear hX0
  go_enter Try.func31, Try.ntmps31
  go_wp2_with fail
  go_loopw [5, 6, 7] (fun u x t wr => ∃ (i : Nat) (v0 : Value) (X : Int), i ≤ n ∧ v0 = u ∧ x = .int .u32 X ∧ X = stB s i ∧ t = .int .i64 (i : Int) ∧ Lv w wr [baccO v0 (bytesB i s)]) (fun _ _ t _ => n - (intOf t).toNat)
  case atStart => exact ⟨0, _, X0, Nat.zero_le _, rfl, rfl, HX0.out, rfl, (Lv.refl w).bacc0⟩
  case round =>
    obtain ⟨i, v0, X, hi, hv0, rfl, hXs, rfl, hL⟩ := hrel
    subst hv0
    have HL := Lib.hid hL
    by_cases hlt : i < n
    · have hn3 : (i : Int) < (n : Int) := by omega
      have hwi : IntKind.i64.wrap ((i : Int) + 1) = (i : Int) + 1 := i64_id _ (by omega) (by omega)
      obtain ⟨Y, hY⟩ : ∃ Y, Y = (X * 1664525 + 1013904223) % 4294967296 := ⟨_, rfl⟩
      have HYS : Hid (Y = stB s (i + 1)) := Lib.hid (by rw [hY, hXs]; rfl)
      have hy0 : 0 ≤ Y := by omega
      have hy1 : Y < 4294967296 := by omega
      obtain ⟨Z, hZ⟩ : ∃ Z : Nat, (Z : Int) = Y / 16777216 := ⟨(Y / 16777216).toNat, by omega⟩
      have hz1 : Z < 256 := by omega
      have e1 : (X * 1664525 % 4294967296 + 1013904223) % 4294967296 = Y := by omega
      have e2 : (X * 1664525 + 1013904223) % 4294967296 = Y := hY.symm
      have e3 : Y / 16777216 = (Z : Int) := hZ.symm
      have e4 : IntKind.u8.wrap (Z : Int) = (Z : Int) := by rw [IntKind.wrap_u8]; omega
      obtain ⟨x, hx⟩ : ∃ x, x = UInt8.ofNat Z := ⟨_, rfl⟩
      have hxz : ((x.toNat : Nat) : Int) = (Z : Int) := by rw [hx, u8_ofNat]; omega
      have HSU : Hid (bytesB (i + 1) s = bytesB i s ++ [x]) := Lib.hid (by rw [bytesB_succ, ← HYS.out, e3, hx]; rfl)
      have HLE : Hid ((bytesB i s).length + 1 ≤ 1000000) := Lib.hid (by rw [bytesB_len]; omega)
      obtain ⟨RB, hRB⟩ : ∃ RB, RB = bytesB i s := ⟨_, rfl⟩
      rw [← hRB] at HL HSU HLE
      have HSRC : Hid (Src Try.prog 1 32 (.slice (some ⟨wr.heap.size, 0, none⟩) 1 1) [x].length (vals [x]) (wr.alloc (.cells #[.int .u8 (Z : Int)] 5))) := Lib.hid (by
        exact src_bytes (us := [x]) (g := wr.heap.size) (w := wr.alloc (.cells #[.int .u8 (Z : Int)] 5)) (by rw [← hxz]; exact heap_new rfl))
      have HLn : Hid (Lv w (wr.alloc (.cells #[.int .u8 (Z : Int)] 5)) [baccO v0 RB]) := Lib.hid (HL.out.below ((Below.refl _ _).alloc (Nat.le_refl _) _))
      clear hL hRB hx HL hY hXs hxz hZ
      go_wp2_with (at_builtin; refine wpList_bacc HLn.out (i := 0) (v := v0) (l := RB) rfl rfl (.tmp 19) (.tmp 23) rfl rfl [x] HSRC.out HLE.out ?_; clear HLn HSRC; intro v2 w2 hl2; have HL2 := Lib.hid hl2; clear hl2)
      go_roundw
      case rel => exact ⟨i + 1, _, Y, by omega, rfl, (by first | rfl | (simp only [e1, e2])), HYS.out, by go_num, by rw [HSU.out]; exact HL2.out⟩
      case measure => simp [intOf]; omega
    · obtain rfl : i = n := by omega
      have HM := Lib.hid HL.out.madeOf
      clear hL HL
      go_wp2
      go_ret
      exact ⟨_, rfl, HM.out⟩
end Go.Proofs.Ythffegfcgmhppaa
namespace Go.Proofs.Ythffegfcgmhppaa
open Go.RowKit
set_option linter.unusedSimpArgs false
set_option linter.unusedVariables false
theorem lenB_facts (rs : List (List UInt8)) : (∀ r ∈ rs, r.length + 2 ≤ lenB rs) ∧ rs.length * 2 ≤ lenB rs ∧ takR rs = lenB rs + 10 * rs.length := by
  induction rs with
  | nil => exact ⟨(fun r hr => by cases hr), Nat.le_refl _, rfl⟩
  | cons q rs ih =>
    obtain ⟨i1, i2, i3⟩ := ih
    have e1 : lenB (q :: rs) = q.length + 2 + lenB rs := by simp [lenB]
    have e2 : takR (q :: rs) = q.length + 12 + takR rs := by simp [takR]
    refine ⟨fun r hr => ?_, by rw [e1, List.length_cons]; omega, by rw [e1, e2, List.length_cons, i3]; omega⟩
    rw [e1]
    rcases List.mem_cons.1 hr with rfl | hr
    · omega
    · have := i1 r hr; omega
theorem wrD_nf (F : Nat) : ∀ (f : Nat) (d : DM) (a : Nat) (b : List UInt8), d.on = true → d.fuse = 0 → (wrD F f d a b).1 = 0 ∧ (wrD F f d a b).2.on = true ∧ (wrD F f d a b).2.fuse = 0
  | 0, d, a, b, h1, h2 => ⟨rfl, h1, h2⟩
  | f + 1, d, a, b, h1, h2 => by
    rw [wrD]
    split
    · exact ⟨rfl, h1, h2⟩
    · exact wrD_nf F f _ _ _ ((nf_write h2).1.trans h1) (nf_write h2).2
theorem sync_nf (m : LM) (d : DM) (h1 : d.on = true) (h2 : d.fuse = 0) : (syncR m d).1 = 0 ∧ (syncR m d).2.2.on = true ∧ (syncR m d).2.2.fuse = 0 := by
  obtain ⟨a, b, c⟩ := wrD_nf m.frm (addB m).length d m.en (addB m) h1 h2
  have a' : (wrR m d).1 = 0 := a
  have b' : (wrR m d).2.on = true := b
  have c' : (wrR m d).2.fuse = 0 := c
  obtain ⟨x1, x2, x3, x4, x5⟩ := desR_nf m (wrR m d).2.flush (m.en + (addB m).length) ((nf_flush c').1.trans b') (nf_flush c').2
  unfold syncR
  rw [if_pos a', if_pos b']
  exact ⟨x1, x4, x5⟩
theorem reset_nf (m : LM) (d : DM) (h1 : d.on = true) (h2 : d.fuse = 0) : (resetR m d).1 = 0 ∧ (resetR m d).2.2.on = true ∧ (resetR m d).2.2.fuse = 0 := by
  obtain ⟨x1, x2, x3, x4, x5⟩ := desR_nf m d 128 h1 h2
  exact ⟨x1, x4, x5⟩
section
variable {w0 w : World} {L : List Obj}
theorem Lv.recsR (h : Lv w0 w L) {i : Nat} {v : Value} {rs : List (List UInt8)} (hi : L[i]? = some (recsO v rs)) : ∃ D a c, v = .slice a rs.length c ∧ RdR D w a rs.length c rs := by
  obtain ⟨B, ⟨k, Bf, h1, h2, h3⟩, -, -, -⟩ := h.get hi
  obtain ⟨a, c, rfl, -, -⟩ := h1.shape
  exact ⟨B, a, c, rfl, h1.rd (D := B) (fun x hx => (h2 x hx).1) h3⟩
def mOpen (F n r : Nat) (rs : List (List UInt8)) : LM := ⟨F, n, r, 128 + lenB rs, rs, rs.length, takR rs⟩
theorem open_ga (h : Lv w0 w L) {g j : Nat} {d : DM} (hj : L[j]? = some (diskO g d)) {F n r e : Nat} {rs : List (List UInt8)} (hga : GA F n d r e rs) (hF : F ≤ 4096) (h4 : 4 ≤ n) (h5 : n ≤ 200) (ho : d.on = true) :
    Calls Try.prog 18 #[.pointer (some ⟨g, 0, none⟩), .int .i64 (F : Int), .int .i64 (n : Int)] w fun x w' => ∃ gl, x = .returned (.tuple #[.pointer (some ⟨gl, 0, none⟩), .int .i64 0]) ∧ Lv w0 w' (logO gl g (mOpen F n r rs) :: L) := by
  obtain ⟨g1, g2, g3⟩ := hga.reads h4
  obtain ⟨b1, b2, b3⟩ := lenB_facts rs
  have hfit := hga.fit
  have hen := hga.en
  have hroom := hga.room
  have hv : validB d.S.length (F : Int) (n : Int) = true := by unfold validB; apply decide_eq_true; omega
  have hcn : lenB rs ≤ (lenB rs + 63) / 64 * 64 ∧ (lenB rs + 63) / 64 * 64 < lenB rs + 64 := by omega
  have hb := hga.bytes ((lenB rs + 63) / 64) hcn
  have := open_ok h hj F n hF (by omega) hv ho rs ((lenB rs + 63) / 64) ⟨g1, by rw [g3, hen]⟩ (by omega) hcn hb (fun q hq => by have := b1 q hq; omega) (by omega) (by omega)
  rw [g2] at this
  exact this
theorem open_fine {d : DM} {F n r e : Nat} {rs : List (List UInt8)} (hga : GA F n d r e rs) (h4 : 4 ≤ n) (h5 : n ≤ 200) (hok : d.Ok 0) (hcap : takR rs + 128 ≤ 64 * n) (hsm : ∀ q ∈ rs, q.length ≤ 4000) : Fine (mOpen F n r rs) d := by
  refine ⟨⟨h4, h5⟩, Nat.le_refl _, rfl, hcap, hsm, ?_, hok⟩
  show GA F n d r (128 + lenB rs) (rs.take rs.length)
  rw [List.take_of_length_le (Nat.le_refl _), ← hga.en]
  exact hga
end
end Go.Proofs.Ythffegfcgmhppaa
namespace Go.Proofs.Ythffegfcgmhppaa
open Go.RowKit
set_option linter.unusedSimpArgs false
set_option linter.unusedVariables false
theorem run_mkB (n : Nat) (hn : n ≤ 1000000) (W : World) :
    (Instr.makeSlice 32 (.int .i64 (n : Int)) (.int .i64 (n : Int))).run Try.prog W = .ok (.slice (some ⟨W.heap.size, 0, none⟩) n n) (W.alloc (.cells (madeCells #[.int .u8 0] n) 5)) := by
  obtain ⟨i0, hi, hz0, hz1, hz2⟩ := info_parts info5
  have h := run_make (P := Try.prog) W 32 5 i0 (.int .u8 0) Try.underlying32 hi hz0 .i64 .i64 (n : Int) (n : Int) (by omega) (Int.le_refl _) (by rw [hz2]; omega) (by omega)
  rw [h, hz1]
  simp [Value.cells]
theorem madeB_vals (n : Nat) : madeCells #[.int .u8 0] n = (vals (List.replicate n 0)).toArray := by
  apply Array.ext
  · rw [size_madeCells, List.size_toArray, vals_len, List.length_replicate]
  · intro i h1 h2
    simp [madeCells, vals, Nat.mod_one]
theorem Bs.made {w : World} (n : Nat) (hn : n ≤ 1000000) : Bs (fun b => b = w.heap.size) (w.alloc (.cells (madeCells #[.int .u8 0] n) 5)) (some ⟨w.heap.size, 0, none⟩) n n (List.replicate n 0) := by
  have h := bs_block (w := w.alloc (.cells (madeCells #[.int .u8 0] n) 5)) (g := w.heap.size) (l := List.replicate n 0) (t := 5) (by rw [← madeB_vals]; exact heap_new rfl) (by rw [List.length_replicate]; unfold maxLen; omega)
  rwa [List.length_replicate] at h
def lf0 : DM := DM.new 104
def lf1 : DM := (fmtR 0 4 lf0).2.2
def lf2 : DM := (fmtR 4 100 lf1).2.2
theorem lf1_e : (fmtR 0 4 lf0).1 = 0 := by kernel_rfl
theorem lf1_m : (fmtR 0 4 lf0).2.1 = ⟨0, 4, 2, 128, [], 0, 0⟩ := by kernel_rfl
theorem lf1_on : lf1.on = true := by kernel_rfl
theorem lf1_len : lf1.S.length = 104 := by kernel_rfl
theorem lf2_e : (fmtR 4 100 lf1).1 = 0 := by kernel_rfl
theorem lf2_m : (fmtR 4 100 lf1).2.1 = ⟨4, 100, 2, 128, [], 0, 0⟩ := by kernel_rfl
theorem lf2_on : lf2.on = true := by kernel_rfl
theorem lf1_bad : newOk (lastB (lf1.S.getD 4 [])) (lastB (lf1.S.getD 5 [])) = false := by kernel_rfl
theorem lf2_len : lf2.S.length = 104 := by kernel_rfl
theorem fmtR_ok (f n : Nat) (d : DM) (h : d.Ok 0) (he : (fmtR f n d).1 = 0) : (fmtR f n d).2.2.Ok 0 := by
  have key : ∀ (m : LM) (d : DM) (e : Nat), d.Ok 0 → (desR m d e).1 = 0 → (desR m d e).2.2.Ok 0 := by
    intro m d e hd h0
    unfold desR at *
    split at h0
    · split at h0
      · rename_i a b; rw [if_pos a, if_pos b]; exact DM.flush_ok (DM.write_ok hd (desB_len _ _))
      · simp at h0
    · simp at h0
  unfold fmtR at *
  split at he
  · rename_i a
    rw [if_pos a]
    exact key _ _ _ (key _ _ _ h a) he
  · rename_i a; exact absurd he a
theorem lf1_ok : lf1.Ok 0 := fmtR_ok _ _ _ (DM.new_ok (by omega) (by omega)) lf1_e
theorem room1 : roomZ 4 ((0 : Nat) : Int) = 116 := by decide
theorem room2 : roomZ 100 ((0 : Nat) : Int) = 4000 := by decide
theorem room3 : roomZ 4 ((112 : Nat) : Int) = 4 := by decide
theorem room4 : roomZ 4 ((128 : Nat) : Int) = -1 := by decide
def lr1 : List UInt8 := List.replicate 100 0
def lr2 : List UInt8 := List.replicate 4 0
def lm0 : LM := ⟨0, 4, 2, 128, [], 0, 0⟩
def lm1 : LM := ⟨0, 4, 2, 128, [lr1], 0, 112⟩
def lm2 : LM := ⟨0, 4, 2, 128, [lr1, lr2], 0, 128⟩
def ln0 : LM := ⟨4, 100, 2, 128, [], 0, 0⟩
theorem lm2_small : ∀ r ∈ lm2.recs, r.length ≤ 1000000 := by
  intro r hr
  have hr : r = lr1 ∨ r = lr2 := by simpa [lm2] using hr
  rcases hr with rfl | rfl <;> simp [lr1, lr2]
theorem lap1 : appE lm0 true 100 = 0 ∧ appM lm0 true lr1 = lm1 := ⟨by decide, by kernel_rfl⟩
theorem lap2 : appE lm1 true 4 = 0 ∧ appM lm1 true lr2 = lm2 := ⟨by decide, by kernel_rfl⟩
theorem lap3 : appE lm2 true 0 = 9 ∧ appM lm2 true [] = lm2 := ⟨by decide, by kernel_rfl⟩
set_option maxRecDepth 100000 in
set_option maxHeartbeats 8000000 in
theorem lives4_any (w : World) : Calls Try.prog 19 #[] w fun e w' => e = .returned (.bool true) ∧ Below w.heap.size w w' := by
  have HL0 := Lib.hid (Lv.refl w)
  have hm1 : ∀ W : World, (Instr.makeSlice 32 (.int .i64 100) (.int .i64 100)).run Try.prog W = .ok (.slice (some ⟨W.heap.size, 0, none⟩) 100 100) (W.alloc (.cells (madeCells #[.int .u8 0] 100) 5)) := run_mkB 100 (by omega)
  have hm2 : ∀ W : World, (Instr.makeSlice 32 (.int .i64 4) (.int .i64 4)).run Try.prog W = .ok (.slice (some ⟨W.heap.size, 0, none⟩) 4 4) (W.alloc (.cells (madeCells #[.int .u8 0] 4) 5)) := run_mkB 4 (by omega)
  have hv1 : validB lf0.S.length ((0 : Nat) : Int) ((4 : Nat) : Int) = true := by decide
  have hv2 : validB lf1.S.length ((4 : Nat) : Int) ((100 : Nat) : Int) = true := by rw [lf1_len]; decide
  have hv3 : validB lf2.S.length ((0 : Nat) : Int) ((3 : Nat) : Int) = false := by rw [lf2_len]; decide
  have HF1 : Hid (∀ u g, Lv w u [diskO g lf0] → Calls Try.prog 11 #[.pointer (some ⟨g, 0, none⟩), .int .i64 0, .int .i64 4] u fun x w' => ∃ gl, x = .returned (.tuple #[.pointer (some ⟨gl, 0, none⟩), .int .i64 0]) ∧ Lv w w' [logO gl g lm0, diskO g lf1]) := Lib.hid (fun u g hl => by
    refine (format_ok hl (j := 0) rfl 0 4 (by omega) (by omega) hv1 ((DM.new_ok (by omega) (by omega)).mono (by omega))).mono ?_
    rintro x w' (⟨-, gl, hx, hl2⟩ | ⟨he, -⟩)
    · rw [lf1_m] at hl2; exact ⟨gl, hx, hl2⟩
    · rw [lf1_e] at he; exact absurd he (by omega))
  have HO1 : Hid (∀ u g gl, Lv w u [logO gl g lm0, diskO g lf1] → Calls Try.prog 18 #[.pointer (some ⟨g, 0, none⟩), .int .i64 4, .int .i64 100] u fun x w' => x = .returned (.tuple #[.pointer none, .int .i64 7]) ∧ Lv w w' [logO gl g lm0, diskO g lf1]) := Lib.hid (fun u g gl hl => open_form hl (j := 1) rfl 4 100 (by omega) (by omega) hv2 lf1_on (.inl lf1_bad))
  have HF2 : Hid (∀ u g gl, Lv w u [logO gl g lm0, diskO g lf1] → Calls Try.prog 11 #[.pointer (some ⟨g, 0, none⟩), .int .i64 4, .int .i64 100] u fun x w' => ∃ gn, x = .returned (.tuple #[.pointer (some ⟨gn, 0, none⟩), .int .i64 0]) ∧ Lv w w' [logO gn g ln0, logO gl g lm0, diskO g lf2]) := Lib.hid (fun u g gl hl => by
    refine (format_ok hl (j := 1) rfl 4 100 (by omega) (by omega) hv2 (lf1_ok.mono (by omega))).mono ?_
    rintro x w' (⟨-, gn, hx, hl2⟩ | ⟨he, -⟩)
    · rw [lf2_m] at hl2; exact ⟨gn, hx, hl2⟩
    · rw [lf2_e] at he; exact absurd he (by omega))
  have HF3 : Hid (∀ u g gl gn, Lv w u [logO gn g ln0, logO gl g lm0, diskO g lf2] → Calls Try.prog 11 #[.pointer (some ⟨g, 0, none⟩), .int .i64 0, .int .i64 3] u fun x w' => x = .returned (.tuple #[.pointer none, .int .i64 5]) ∧ u = w') := Lib.hid (fun u g gl gn hl => format_bad hl (j := 2) rfl 0 3 (by omega) (by omega) (by omega) (by omega) hv3)
  clear hv1 hv2 hv3
  go_enter Try.func19, Try.ntmps19
  go_upto_region 10 with (first
    | (have x1 := HL0.out; go_at_call 10; refine (made4_lv x1 104 (by omega) (by omega)).mono ?_; rintro e w1 ⟨g, rfl, hl⟩; have HL1 := Lib.hid hl; clear hl x1 HL0)
    | (have x1 := HL1.out; go_at_call 11; refine (HF1.out _ _ x1).mono ?_; rintro e w2 ⟨gl, rfl, hl⟩; have HL2 := Lib.hid hl; clear hl x1 HL1)
    | (have x1 := HL2.out; go_at_call 18; refine (HO1.out _ _ _ x1).mono ?_; rintro e w3 ⟨rfl, hl⟩; have HL3 := Lib.hid hl; clear hl x1 HL2)
    | (have x1 := HL3.out; go_at_call 11; refine (HF2.out _ _ _ x1).mono ?_; rintro e w4 ⟨gn, rfl, hl⟩; have HL4 := Lib.hid hl; have HG4 : Hid True := Lib.hid trivial; clear hl x1 HL3)
    | (have x1 := HG4; go_at_call 11; refine (HF3.out _ _ _ _ HL4.out).mono ?_; rintro e w5 ⟨rfl, rfl⟩; clear x1 HG4))
  clear HF1 HO1 HF2 HF3
  have HG1 : Hid True := Lib.hid trivial
  go_upto_region 11 with (first
    | (have x1 := HG1; go_at_call 29; refine (room_lv HL4.out (i := 1) (m := lm0) rfl (show 4 ≤ 4096 by omega) (show 0 ≤ 1000000 by omega)).mono ?_; rintro e w6 ⟨rfl, hb⟩; rw [show roomZ lm0.n lm0.tak = 116 from room1]; have HL5 := Lib.hid (HL4.out.below hb); clear hb x1 HG1)
    | (have x1 := HL5.out; go_at_call 29; refine (room_lv x1 (i := 0) (m := ln0) rfl (show 100 ≤ 4096 by omega) (show 0 ≤ 1000000 by omega)).mono ?_; rintro e w7 ⟨rfl, hb⟩; rw [show roomZ ln0.n ln0.tak = 4000 from room2]; have HL6 := Lib.hid (x1.below hb); clear hb x1 HL5))
  have HL7 : Hid (Lv w (w7.alloc (.cells (madeCells #[.int .u8 0] 100) 5)) [logO gn g ln0, logO gl g lm0, diskO g lf2]) := Lib.hid (HL6.out.below ((Below.refl _ _).alloc (Nat.le_refl _) _))
  have HG2 : Hid True := Lib.hid trivial
  have HG3 : Hid True := Lib.hid trivial
  clear HL6 HL4
  go_upto_region 12 with (first
    | (have x1 := HG2; go_at_call 15; refine (append_lv HL7.out (i := 1) (j := 2) (m := lm0) (d := lf2) (r := lr1) rfl rfl (Bs.made 100 (by omega)) (show 4 ≤ 4096 by omega) (show 0 ≤ 1000000 by omega) (by omega) (show 0 ≤ 100000 by omega)).mono ?_; rintro e w8 ⟨rfl, hl⟩; rw [lf2_on] at hl ⊢; rw [lap1.2] at hl; rw [lap1.1]; have HL8 := Lib.hid hl; clear hl x1 HG2 HL7)
    | (have x1 := HL8.out; go_at_call 29; refine (room_lv x1 (i := 1) (m := lm1) rfl (show 4 ≤ 4096 by omega) (show 112 ≤ 1000000 by omega)).mono ?_; rintro e w9 ⟨rfl, hb⟩; rw [show roomZ lm1.n lm1.tak = 4 from room3]; have HL9 := Lib.hid ((HL8.out.below hb).below ((Below.refl _ _).alloc (Nat.le_refl _) (.cells (madeCells #[.int .u8 0] 4) 5))); clear hb x1 HL8)
    | (have x1 := HG3; go_at_call 15; refine (append_lv HL9.out (i := 1) (j := 2) (m := lm1) (d := lf2) (r := lr2) rfl rfl (Bs.made 4 (by omega)) (show 4 ≤ 4096 by omega) (show 112 ≤ 1000000 by omega) (by omega) (show 1 ≤ 100000 by omega)).mono ?_; rintro e w10 ⟨rfl, hl⟩; rw [lf2_on] at hl ⊢; rw [lap2.2] at hl; rw [lap2.1]; have HL10 := Lib.hid hl; clear hl x1 HG3 HL9)
    | (have x1 := HL10.out; go_at_call 29; refine (room_lv x1 (i := 1) (m := lm2) rfl (show 4 ≤ 4096 by omega) (show 128 ≤ 1000000 by omega)).mono ?_; rintro e w11 ⟨rfl, hb⟩; rw [show roomZ lm2.n lm2.tak = -1 from room4]; have HL11 := Lib.hid (x1.below hb); clear hb x1 HL10))
  go_wp2_with (first
    | (have x1 := HL11.out; go_at_call 15; refine (append_lv x1 (i := 1) (j := 2) (m := lm2) (d := lf2) (r := []) rfl rfl (Bs.empty (fun _ => False) _ none 0 (by unfold maxLen; omega) (fun _ => rfl)) (show 4 ≤ 4096 by omega) (show 128 ≤ 1000000 by omega) (by omega) (show 2 ≤ 100000 by omega)).mono ?_; rintro e w12 ⟨rfl, hl⟩; rw [lf2_on] at hl ⊢; rw [lap3.2] at hl; rw [lap3.1]; have HL12 := Lib.hid hl; clear hl x1 HL11)
    | (have x1 := HL12.out; go_at_call 27; refine (records_lv x1 (ii := 1) (m := lm2) rfl (show 2 ≤ 100000 by omega) lm2_small).mono ?_; rintro e w13 ⟨ra, rc, rfl, hl⟩; rw [show lm2.recs.length = 2 from rfl]; have HL13 := Lib.hid hl; clear hl x1 HL12)
    | (have x1 := HL13.out; go_at_call 42; refine (synced_lv x1 (i := 2) (m := lm2) rfl).mono ?_; rintro e w14 ⟨rfl, rfl⟩; rw [show ((lm2.syn : Nat) : Int) = 0 from rfl]; clear x1))
  go_ret
  exact ⟨rfl, HL13.out.args⟩
end Go.Proofs.Ythffegfcgmhppaa
namespace Go.Proofs.Ythffegfcgmhppaa
open Go.RowKit
set_option linter.unusedSimpArgs false
set_option linter.unusedVariables false
def Dof24 : List (Option Tmp) := [some 100, some 101, some 102, some 103, some 104, some 105, some 106, some 107, some 108, some 99, some 109, some 110, some 12, some 13]
def Lof24 : List (List Nat) := [[], [0], [1], [2], [], [4], [5], [6], [3, 7], [8], [9], [9], [10], [11]]
theorem GA.congr {F N : Nat} {d d' : DM} {r e : Nat} {rs : List (List UInt8)} (h : GA F N d r e rs) (hS : d'.S = d.S) : GA F N d' r e rs := by
  have hs : ∀ k, sec d' k = sec d k := fun k => by unfold sec; rw [hS]
  obtain ⟨a, b, c, x, y, u, v, z⟩ := h
  refine ⟨by rw [hS]; exact a, fun k hk => ?_, c, ?_, ?_, u, fun i hi t ht => v i hi t (by rw [hs] at ht; exact ht), z⟩
  · rw [hs]; exact b k (by rw [hS] at hk; exact hk)
  · rw [hs]; exact x
  · rw [hs]; exact y
/-- the disk that the power leaves -/
def cutD (d : DM) (ts : List TM) : DM := (d.setFuse 0).restart ts
theorem cutD_ga {F N : Nat} {d : DM} {r e : Nat} {rs : List (List UInt8)} (h : GA F N d r e rs) (ts : List TM) : GA F N (cutD d ts) r e rs := (h.congr (setFuse_S d 0)).restart ts
theorem cutD_on (d : DM) (ts : List TM) : (cutD d ts).on = true := rfl
theorem cutD_len (d : DM) (ts : List TM) : (cutD d ts).S.length = d.S.length := by
  unfold cutD
  rw [restart_len, setFuse_S]
theorem Ts.nil0 (w : World) : Ts (fun _ => False) w none 0 0 [] := ⟨rfl, Sl.empty _ _ _ _ _ (Nat.zero_le _) (fun _ => rfl), fun _ h => by cases h⟩
theorem appE_ok (m : LM) (n : Nat) (R : Nat) (hR : roomZ m.n m.tak = (R : Int)) (h : n ≤ R) (hn : R ≤ 4000) : appE m true n = 0 := by
  unfold appE
  rw [if_neg (by omega), if_neg (by rw [hR]; omega)]
  rfl
theorem appE_full (m : LM) (n : Nat) (R : Nat) (hR : roomZ m.n m.tak = (R : Int)) (h : R < n) (hn : n ≤ 4000) : appE m true n = 9 := by
  unfold appE
  rw [if_neg (by omega), if_pos (by rw [hR]; omega)]
theorem roomZ_bd (n : Nat) (t : Int) : -1 ≤ roomZ n t ∧ roomZ n t ≤ 4000 := by unfold roomZ; omega
set_option maxRecDepth 100000 in
set_option maxHeartbeats 16000000 in
theorem walfills_any (s : Int) (la : Option Addr) (ln lc : Nat) (l : List Int) (w : World) (s1 : -9223372036854775808 ≤ s) (s2 : s ≤ 9223372036854775807) (hI : Is (Old w) w la ln lc l) (hl64 : Ok64 l) :
    Calls Try.prog 7 #[.int .i64 s, .slice la ln lc] w fun e w' => e = .returned (.bool true) ∧ Below w.heap.size w w' := by
  obtain ⟨n, hn⟩ : ∃ n, n = bgN s := ⟨_, rfl⟩
  have hnb := bgN_bd s
  have HBG := Lib.hid (begin_lv (Lv.refl w) s s1 s2)
  rw [← hn] at hnb HBG
  obtain ⟨f1, f2, f3, f4, f5, f6⟩ := bg_fine n hnb.1 hnb.2
  obtain ⟨d0, hd0⟩ : ∃ d0, d0 = bgD n := ⟨_, rfl⟩
  rw [← hd0] at HBG f3 f4 f5 f6
  obtain ⟨m0, hm0⟩ : ∃ m0, m0 = mFresh 1 n := ⟨_, rfl⟩
  rw [← hm0] at HBG f3
  have hq0 : m0.recs = [] ∧ m0.frm = 1 ∧ m0.n = n ∧ m0.syn = 0 := by rw [hm0]; exact ⟨rfl, rfl, rfl, rfl⟩
  have HF0 := Lib.hid f3
  have HQ0 := Lib.hid hq0
  have HON := Lib.hid f4
  have HFU := Lib.hid f5
  have HDL := Lib.hid f6
  have HNB := Lib.hid hnb
  have HI := Lib.hid hI
  have HL64 := Lib.hid hl64
  have HLL := Lib.hid hI.1
  have hlc : ln ≤ lc := hI.2.2.1
  have hlm : lc ≤ 9223372036854775807 := hI.2.2.2.1
  have hbs56 := run_bs56
  clear hI hl64 hn hnb f1 f2 f3 f4 f5 f6 hd0 hm0 hq0
  go_enter Try.func7, Try.ntmps7
  go_upto_region 5 with (go_at_call 23; refine HBG.out.mono ?_; rintro e w1 ⟨gp, g, gl, rfl, hl⟩; have HL1 := Lib.hid hl; clear hl HBG)
  have HLa := Lib.hid HL1.out.recs0
  clear HL1
  go_wp2_with fail
  go_loopw [6, 7] (fun u t wr => ∃ (i : Nat) (v0 : Value) (m : LM), i ≤ 100 ∧ v0 = u ∧ t = .int .i64 (i : Int) ∧ Fine m d0 ∧ (m.frm = 1 ∧ m.n = n) ∧ Lv w wr [recsO v0 m.recs, pastO gp g gl n (.slice none 0 0) 0 false, logO gl g m, diskO g d0]) (fun _ t _ => 100 - (intOf t).toNat)
  case atStart => exact ⟨0, _, m0, Nat.zero_le _, rfl, rfl, HF0.out, ⟨HQ0.out.2.1, HQ0.out.2.2.1⟩, by rw [HQ0.out.1]; exact HLa.out⟩
  case round =>
    clear HLa HF0 HQ0
    obtain ⟨i, v0, m, hi, hv0, rfl, hF, hmf, hL⟩ := hrel
    subst hv0
    have HL := Lib.hid hL
    have hbd := hF.bounds
    have HFI := Lib.hid hF
    have HMF := Lib.hid hmf
    have HMS : Hid (m.n ≤ 4096 ∧ m.tak ≤ 1000000 ∧ m.recs.length ≤ 100000) := Lib.hid (by have := HNB.out; have := hmf.2; omega)
    have q1 := (hL.pastF (i := 1) rfl).2.2.1
    obtain ⟨R, hR⟩ : ∃ R, R = roomZ m.n m.tak := ⟨_, rfl⟩
    have hRb := roomZ_bd m.n m.tak
    rw [← hR] at hRb
    have hRb1 := hRb.1
    have hRb2 := hRb.2
    have HR : Hid (roomZ m.n m.tak = R) := Lib.hid hR.symm
    have HG1 : Hid True := Lib.hid trivial
    clear hF hmf hL hbd hR hRb
    by_cases hlt : i < 100
    · have hn3 : (i : Int) < 100 := by omega
      have hwi : IntKind.i64.wrap ((i : Int) + 1) = (i : Int) + 1 := i64_id _ (by omega) (by omega)
      by_cases hR0 : 0 ≤ R
      · obtain ⟨RN, hRN⟩ : ∃ RN : Nat, R = (RN : Int) := ⟨R.toNat, by omega⟩
        subst hRN
        have hRN2 : RN ≤ 4000 := by omega
        by_cases hln : i < ln
        · by_cases hi2 : 20 ≤ i
          · have hil : i < l.length := by rw [HLL.out]; exact hln
            have hln2 : (i : Int) < (ln : Int) := by omega
            obtain ⟨x, hx⟩ : ∃ x, x = l[i]'hil := ⟨_, rfl⟩
            have hxb := HL64.out x (by rw [hx]; exact List.getElem_mem _)
            obtain ⟨K0, hK0, hK1⟩ := around_nat x 200 (by omega)
            obtain ⟨b, off, -, hbs, rfl, hcell0⟩ := HI.out.cells (by omega)
            have hcell := hcell0 i hil
            rw [← hx] at hcell
            have HCL : Hid (∀ u, Below w.heap.size w u → u.cell? ⟨b, off + i, none⟩ = some (.int .i64 x)) := Lib.hid (fun u hu => (hu.cell (p := ⟨b, off + i, none⟩) hbs).trans hcell)
            have HAR : Hid (∀ u, Calls Try.prog 9 #[.int .i64 x, .int .i64 200] u fun e w' => e = .returned (.int .i64 (K0 : Int)) ∧ u = w') := Lib.hid (fun u => by rw [← hK0]; exact around_any x 200 u hxb.1 hxb.2 (by omega) (by omega))
            clear hx hcell hcell0 hK0
            have hi20 : (20 : Int) ≤ (i : Int) := by omega
            have hK4 : RN ≤ 4000 := by omega
            obtain ⟨RB, hRB⟩ : ∃ RB, RB = bytesB RN (i : Int) := ⟨_, rfl⟩
            have HRBL : Hid (RB.length = RN) := Lib.hid (by rw [hRB]; exact bytesB_len _ _)
            have HBY : Hid (∀ u, Calls Try.prog 31 #[.int .i64 (RN : Int), .int .i64 (i : Int)] u fun e w' => ∃ v, e = .returned v ∧ Made u v RB w') := Lib.hid (fun u => by rw [hRB]; exact bytes1_any RN (i : Int) u (by omega) (by omega) (by omega))
            clear hRB
            have hkr : RN ≤ RN := Nat.le_refl _
            have hkr2 : (RN : Int) ≤ (RN : Int) := by omega
            have HEA : Hid (appE m true RN = 0) := Lib.hid (appE_ok m RN RN HR.out hkr hRN2)
            have HAF := Lib.hid (append_fine HFI.out RB true (by rw [HRBL.out]; exact HEA.out))
            clear hkr
            go_wp2_with (first
                | (have x1 := HG1; go_at_call 29; refine (room_lv HL.out (i := 2) (m := m) rfl HMS.out.1 HMS.out.2.1).mono ?_; rintro e w2 ⟨rfl, hb⟩; rw [HR.out]; have HL2 := Lib.hid (HL.out.below hb); have q2 := (HL2.out.pastF (i := 1) rfl).2.2.1; have k2 := HCL.out w2 HL2.out.args; have HG2 := x1; clear hb x1 HG1 HL)
                | (go_at_call 9; refine (HAR.out _).mono ?_; rintro e w9 ⟨rfl, rfl⟩)
                | (have x1 := HG2; go_at_call 29; refine (room_lv HL2.out (i := 2) (m := m) rfl HMS.out.1 HMS.out.2.1).mono ?_; rintro e w3 ⟨rfl, hb⟩; rw [HR.out]; have HL3 := Lib.hid (HL2.out.below hb); have HG3 := x1; clear hb x1 HG2 HL2)
                | (have x1 := HG3; go_at_call 31; refine (HBY.out _).mono ?_; rintro e w4 ⟨v4, rfl, hm⟩; have hl4 := HL3.out.made hm; obtain ⟨ba, bc, rfl, hbb⟩ := hm.bs; rw [HRBL.out] at hbb hl4 ⊢; have HL4 := Lib.hid hl4; have HBB := Lib.hid hbb; have q4 := (HL4.out.pastF (i := 2) rfl).2.2.1; clear hm hl4 hbb x1 HG3 HL3)
                | (have x1 := HL4.out; go_at_call 15; refine (append_lv x1 (i := 3) (j := 4) (m := m) (d := d0) rfl rfl HBB.out HMS.out.1 HMS.out.2.1 (by omega) HMS.out.2.2).mono ?_; rintro e w5 ⟨rfl, hl5⟩; rw [HON.out] at hl5 ⊢; rw [HEA.out]; have HL5 := Lib.hid hl5; have HL6 : Hid (Lv w (w5.alloc (.cells #[.slice ba RN bc] 32)) [bytesO (.slice ba RN bc) RB, recsO v0 m.recs, pastO gp g gl n (.slice none 0 0) 0 false, logO gl g (appM m true RB), diskO g d0]) := Lib.hid (hl5.below ((Below.refl _ _).alloc (Nat.le_refl _) _)); have HSRC : Hid (Src Try.prog 1 30 (.slice (some ⟨w5.heap.size, 0, none⟩) 1 1) 1 [.slice ba RN bc] (w5.alloc (.cells #[.slice ba RN bc] 32))) := Lib.hid (src_one Try.underlying30 (heap_new rfl)); clear hl5 x1 HL4)
                | (at_builtin; refine wpList_racc HL6.out (i := 1) (j := 0) (by omega) rfl rfl rfl (.tmp 64) (.tmp 66) rfl rfl HSRC.out (by have := HMS.out.2.2; omega) ?_; clear HL6 HSRC; intro a7 c7 w7 hl7; have HL7 := Lib.hid hl7; clear hl7))
            go_roundw
            case rel => exact ⟨i + 1, _, appM m true RB, by omega, rfl, by go_num, HAF.out.1, ⟨HAF.out.2.2.2.1.trans HMF.out.1, HAF.out.2.2.2.2.trans HMF.out.2⟩, by rw [HAF.out.2.1]; exact HL7.out.tail⟩
            case measure => simp [intOf]; omega
          · have hil : i < l.length := by rw [HLL.out]; exact hln
            have hln2 : (i : Int) < (ln : Int) := by omega
            obtain ⟨x, hx⟩ : ∃ x, x = l[i]'hil := ⟨_, rfl⟩
            have hxb := HL64.out x (by rw [hx]; exact List.getElem_mem _)
            obtain ⟨K0, hK0, hK1⟩ := around_nat x 200 (by omega)
            obtain ⟨b, off, -, hbs, rfl, hcell0⟩ := HI.out.cells (by omega)
            have hcell := hcell0 i hil
            rw [← hx] at hcell
            have HCL : Hid (∀ u, Below w.heap.size w u → u.cell? ⟨b, off + i, none⟩ = some (.int .i64 x)) := Lib.hid (fun u hu => (hu.cell (p := ⟨b, off + i, none⟩) hbs).trans hcell)
            have HAR : Hid (∀ u, Calls Try.prog 9 #[.int .i64 x, .int .i64 200] u fun e w' => e = .returned (.int .i64 (K0 : Int)) ∧ u = w') := Lib.hid (fun u => by rw [← hK0]; exact around_any x 200 u hxb.1 hxb.2 (by omega) (by omega))
            clear hx hcell hcell0 hK0
            have hi20 : (i : Int) < 20 := by omega
            have hK4 : K0 ≤ 4000 := by omega
            obtain ⟨RB, hRB⟩ : ∃ RB, RB = bytesB K0 (i : Int) := ⟨_, rfl⟩
            have HRBL : Hid (RB.length = K0) := Lib.hid (by rw [hRB]; exact bytesB_len _ _)
            have HBY : Hid (∀ u, Calls Try.prog 31 #[.int .i64 (K0 : Int), .int .i64 (i : Int)] u fun e w' => ∃ v, e = .returned v ∧ Made u v RB w') := Lib.hid (fun u => by rw [hRB]; exact bytes1_any K0 (i : Int) u (by omega) (by omega) (by omega))
            clear hRB
            by_cases hkr : K0 ≤ RN
            · have hkr2 : (K0 : Int) ≤ (RN : Int) := by omega
              have HEA : Hid (appE m true K0 = 0) := Lib.hid (appE_ok m K0 RN HR.out hkr hRN2)
              have HAF := Lib.hid (append_fine HFI.out RB true (by rw [HRBL.out]; exact HEA.out))
              clear hkr
              go_wp2_with (first
                | (have x1 := HG1; go_at_call 29; refine (room_lv HL.out (i := 2) (m := m) rfl HMS.out.1 HMS.out.2.1).mono ?_; rintro e w2 ⟨rfl, hb⟩; rw [HR.out]; have HL2 := Lib.hid (HL.out.below hb); have q2 := (HL2.out.pastF (i := 1) rfl).2.2.1; have k2 := HCL.out w2 HL2.out.args; have HG2 := x1; clear hb x1 HG1 HL)
                | (go_at_call 9; refine (HAR.out _).mono ?_; rintro e w9 ⟨rfl, rfl⟩)
                | (have x1 := HG2; go_at_call 29; refine (room_lv HL2.out (i := 2) (m := m) rfl HMS.out.1 HMS.out.2.1).mono ?_; rintro e w3 ⟨rfl, hb⟩; rw [HR.out]; have HL3 := Lib.hid (HL2.out.below hb); have HG3 := x1; clear hb x1 HG2 HL2)
                | (have x1 := HG3; go_at_call 31; refine (HBY.out _).mono ?_; rintro e w4 ⟨v4, rfl, hm⟩; have hl4 := HL3.out.made hm; obtain ⟨ba, bc, rfl, hbb⟩ := hm.bs; rw [HRBL.out] at hbb hl4 ⊢; have HL4 := Lib.hid hl4; have HBB := Lib.hid hbb; have q4 := (HL4.out.pastF (i := 2) rfl).2.2.1; clear hm hl4 hbb x1 HG3 HL3)
                | (have x1 := HL4.out; go_at_call 15; refine (append_lv x1 (i := 3) (j := 4) (m := m) (d := d0) rfl rfl HBB.out HMS.out.1 HMS.out.2.1 (by omega) HMS.out.2.2).mono ?_; rintro e w5 ⟨rfl, hl5⟩; rw [HON.out] at hl5 ⊢; rw [HEA.out]; have HL5 := Lib.hid hl5; have HL6 : Hid (Lv w (w5.alloc (.cells #[.slice ba K0 bc] 32)) [bytesO (.slice ba K0 bc) RB, recsO v0 m.recs, pastO gp g gl n (.slice none 0 0) 0 false, logO gl g (appM m true RB), diskO g d0]) := Lib.hid (hl5.below ((Below.refl _ _).alloc (Nat.le_refl _) _)); have HSRC : Hid (Src Try.prog 1 30 (.slice (some ⟨w5.heap.size, 0, none⟩) 1 1) 1 [.slice ba K0 bc] (w5.alloc (.cells #[.slice ba K0 bc] 32))) := Lib.hid (src_one Try.underlying30 (heap_new rfl)); clear hl5 x1 HL4)
                | (at_builtin; refine wpList_racc HL6.out (i := 1) (j := 0) (by omega) rfl rfl rfl (.tmp 64) (.tmp 66) rfl rfl HSRC.out (by have := HMS.out.2.2; omega) ?_; clear HL6 HSRC; intro a7 c7 w7 hl7; have HL7 := Lib.hid hl7; clear hl7))
              go_roundw
              case rel => exact ⟨i + 1, _, appM m true RB, by omega, rfl, by go_num, HAF.out.1, ⟨HAF.out.2.2.2.1.trans HMF.out.1, HAF.out.2.2.2.2.trans HMF.out.2⟩, by rw [HAF.out.2.1]; exact HL7.out.tail⟩
              case measure => simp [intOf]; omega
            · have hkr2 : (RN : Int) < (K0 : Int) := by omega
              have HEA : Hid (appE m true K0 = 9) := Lib.hid (appE_full m K0 RN HR.out (by omega) hK4)
              have HAM : Hid (appM m true RB = m) := Lib.hid (by unfold appM; rw [HRBL.out, if_neg (by rw [HEA.out]; omega)])
              clear hkr
              go_wp2_with (first
                | (have x1 := HG1; go_at_call 29; refine (room_lv HL.out (i := 2) (m := m) rfl HMS.out.1 HMS.out.2.1).mono ?_; rintro e w2 ⟨rfl, hb⟩; rw [HR.out]; have HL2 := Lib.hid (HL.out.below hb); have q2 := (HL2.out.pastF (i := 1) rfl).2.2.1; have k2 := HCL.out w2 HL2.out.args; have HG2 := x1; clear hb x1 HG1 HL)
                | (go_at_call 9; refine (HAR.out _).mono ?_; rintro e w9 ⟨rfl, rfl⟩)
                | (have x1 := HG2; go_at_call 29; refine (room_lv HL2.out (i := 2) (m := m) rfl HMS.out.1 HMS.out.2.1).mono ?_; rintro e w3 ⟨rfl, hb⟩; rw [HR.out]; have HL3 := Lib.hid (HL2.out.below hb); have HG3 := x1; clear hb x1 HG2 HL2)
                | (have x1 := HG3; go_at_call 31; refine (HBY.out _).mono ?_; rintro e w4 ⟨v4, rfl, hm⟩; have hl4 := HL3.out.made hm; obtain ⟨ba, bc, rfl, hbb⟩ := hm.bs; rw [HRBL.out] at hbb hl4 ⊢; have HL4 := Lib.hid hl4; have HBB := Lib.hid hbb; have q4 := (HL4.out.pastF (i := 2) rfl).2.2.1; clear hm hl4 hbb x1 HG3 HL3)
                | (have x1 := HL4.out; go_at_call 15; refine (append_lv x1 (i := 3) (j := 4) (m := m) (d := d0) rfl rfl HBB.out HMS.out.1 HMS.out.2.1 (by omega) HMS.out.2.2).mono ?_; rintro e w5 ⟨rfl, hl5⟩; rw [HON.out] at hl5 ⊢; rw [HEA.out]; have HL5 := Lib.hid hl5; clear hl5 x1 HL4))
              go_roundw
              case rel => exact ⟨i + 1, v0, m, by omega, rfl, by go_num, HFI.out, HMF.out, by have h9 := HL5.out; rw [HAM.out] at h9; exact h9.tail⟩
              case measure => simp [intOf]; omega
        · by_cases hi2 : 20 ≤ i
          · have hln2 : (ln : Int) ≤ (i : Int) := by omega
            have hi20 : (20 : Int) ≤ (i : Int) := by omega
            have hK4 : RN ≤ 4000 := by omega
            obtain ⟨RB, hRB⟩ : ∃ RB, RB = bytesB RN (i : Int) := ⟨_, rfl⟩
            have HRBL : Hid (RB.length = RN) := Lib.hid (by rw [hRB]; exact bytesB_len _ _)
            have HBY : Hid (∀ u, Calls Try.prog 31 #[.int .i64 (RN : Int), .int .i64 (i : Int)] u fun e w' => ∃ v, e = .returned v ∧ Made u v RB w') := Lib.hid (fun u => by rw [hRB]; exact bytes1_any RN (i : Int) u (by omega) (by omega) (by omega))
            clear hRB
            have hkr : RN ≤ RN := Nat.le_refl _
            have hkr2 : (RN : Int) ≤ (RN : Int) := by omega
            have HEA : Hid (appE m true RN = 0) := Lib.hid (appE_ok m RN RN HR.out hkr hRN2)
            have HAF := Lib.hid (append_fine HFI.out RB true (by rw [HRBL.out]; exact HEA.out))
            clear hkr
            go_wp2_with (first
                | (have x1 := HG1; go_at_call 29; refine (room_lv HL.out (i := 2) (m := m) rfl HMS.out.1 HMS.out.2.1).mono ?_; rintro e w2 ⟨rfl, hb⟩; rw [HR.out]; have HL2 := Lib.hid (HL.out.below hb); have q2 := (HL2.out.pastF (i := 1) rfl).2.2.1; have HG2 := x1; clear hb x1 HG1 HL)
                | (have x1 := HG2; go_at_call 29; refine (room_lv HL2.out (i := 2) (m := m) rfl HMS.out.1 HMS.out.2.1).mono ?_; rintro e w3 ⟨rfl, hb⟩; rw [HR.out]; have HL3 := Lib.hid (HL2.out.below hb); have HG3 := x1; clear hb x1 HG2 HL2)
                | (have x1 := HG3; go_at_call 31; refine (HBY.out _).mono ?_; rintro e w4 ⟨v4, rfl, hm⟩; have hl4 := HL3.out.made hm; obtain ⟨ba, bc, rfl, hbb⟩ := hm.bs; rw [HRBL.out] at hbb hl4 ⊢; have HL4 := Lib.hid hl4; have HBB := Lib.hid hbb; have q4 := (HL4.out.pastF (i := 2) rfl).2.2.1; clear hm hl4 hbb x1 HG3 HL3)
                | (have x1 := HL4.out; go_at_call 15; refine (append_lv x1 (i := 3) (j := 4) (m := m) (d := d0) rfl rfl HBB.out HMS.out.1 HMS.out.2.1 (by omega) HMS.out.2.2).mono ?_; rintro e w5 ⟨rfl, hl5⟩; rw [HON.out] at hl5 ⊢; rw [HEA.out]; have HL5 := Lib.hid hl5; have HL6 : Hid (Lv w (w5.alloc (.cells #[.slice ba RN bc] 32)) [bytesO (.slice ba RN bc) RB, recsO v0 m.recs, pastO gp g gl n (.slice none 0 0) 0 false, logO gl g (appM m true RB), diskO g d0]) := Lib.hid (hl5.below ((Below.refl _ _).alloc (Nat.le_refl _) _)); have HSRC : Hid (Src Try.prog 1 30 (.slice (some ⟨w5.heap.size, 0, none⟩) 1 1) 1 [.slice ba RN bc] (w5.alloc (.cells #[.slice ba RN bc] 32))) := Lib.hid (src_one Try.underlying30 (heap_new rfl)); clear hl5 x1 HL4)
                | (at_builtin; refine wpList_racc HL6.out (i := 1) (j := 0) (by omega) rfl rfl rfl (.tmp 64) (.tmp 66) rfl rfl HSRC.out (by have := HMS.out.2.2; omega) ?_; clear HL6 HSRC; intro a7 c7 w7 hl7; have HL7 := Lib.hid hl7; clear hl7))
            go_roundw
            case rel => exact ⟨i + 1, _, appM m true RB, by omega, rfl, by go_num, HAF.out.1, ⟨HAF.out.2.2.2.1.trans HMF.out.1, HAF.out.2.2.2.2.trans HMF.out.2⟩, by rw [HAF.out.2.1]; exact HL7.out.tail⟩
            case measure => simp [intOf]; omega
          · have hln2 : (ln : Int) ≤ (i : Int) := by omega
            have hi20 : (i : Int) < 20 := by omega
            have hK4 : 1 ≤ 4000 := by omega
            obtain ⟨RB, hRB⟩ : ∃ RB, RB = bytesB 1 (i : Int) := ⟨_, rfl⟩
            have HRBL : Hid (RB.length = 1) := Lib.hid (by rw [hRB]; exact bytesB_len _ _)
            have HBY : Hid (∀ u, Calls Try.prog 31 #[.int .i64 1, .int .i64 (i : Int)] u fun e w' => ∃ v, e = .returned v ∧ Made u v RB w') := Lib.hid (fun u => by rw [hRB]; exact bytes1_any 1 (i : Int) u (by omega) (by omega) (by omega))
            clear hRB
            by_cases hkr : 1 ≤ RN
            · have hkr2 : 1 ≤ (RN : Int) := by omega
              have HEA : Hid (appE m true 1 = 0) := Lib.hid (appE_ok m 1 RN HR.out hkr hRN2)
              have HAF := Lib.hid (append_fine HFI.out RB true (by rw [HRBL.out]; exact HEA.out))
              clear hkr
              go_wp2_with (first
                | (have x1 := HG1; go_at_call 29; refine (room_lv HL.out (i := 2) (m := m) rfl HMS.out.1 HMS.out.2.1).mono ?_; rintro e w2 ⟨rfl, hb⟩; rw [HR.out]; have HL2 := Lib.hid (HL.out.below hb); have q2 := (HL2.out.pastF (i := 1) rfl).2.2.1; have HG2 := x1; clear hb x1 HG1 HL)
                | (have x1 := HG2; go_at_call 29; refine (room_lv HL2.out (i := 2) (m := m) rfl HMS.out.1 HMS.out.2.1).mono ?_; rintro e w3 ⟨rfl, hb⟩; rw [HR.out]; have HL3 := Lib.hid (HL2.out.below hb); have HG3 := x1; clear hb x1 HG2 HL2)
                | (have x1 := HG3; go_at_call 31; refine (HBY.out _).mono ?_; rintro e w4 ⟨v4, rfl, hm⟩; have hl4 := HL3.out.made hm; obtain ⟨ba, bc, rfl, hbb⟩ := hm.bs; rw [HRBL.out] at hbb hl4 ⊢; have HL4 := Lib.hid hl4; have HBB := Lib.hid hbb; have q4 := (HL4.out.pastF (i := 2) rfl).2.2.1; clear hm hl4 hbb x1 HG3 HL3)
                | (have x1 := HL4.out; go_at_call 15; refine (append_lv x1 (i := 3) (j := 4) (m := m) (d := d0) rfl rfl HBB.out HMS.out.1 HMS.out.2.1 (by omega) HMS.out.2.2).mono ?_; rintro e w5 ⟨rfl, hl5⟩; rw [HON.out] at hl5 ⊢; rw [HEA.out]; have HL5 := Lib.hid hl5; have HL6 : Hid (Lv w (w5.alloc (.cells #[.slice ba 1 bc] 32)) [bytesO (.slice ba 1 bc) RB, recsO v0 m.recs, pastO gp g gl n (.slice none 0 0) 0 false, logO gl g (appM m true RB), diskO g d0]) := Lib.hid (hl5.below ((Below.refl _ _).alloc (Nat.le_refl _) _)); have HSRC : Hid (Src Try.prog 1 30 (.slice (some ⟨w5.heap.size, 0, none⟩) 1 1) 1 [.slice ba 1 bc] (w5.alloc (.cells #[.slice ba 1 bc] 32))) := Lib.hid (src_one Try.underlying30 (heap_new rfl)); clear hl5 x1 HL4)
                | (at_builtin; refine wpList_racc HL6.out (i := 1) (j := 0) (by omega) rfl rfl rfl (.tmp 64) (.tmp 66) rfl rfl HSRC.out (by have := HMS.out.2.2; omega) ?_; clear HL6 HSRC; intro a7 c7 w7 hl7; have HL7 := Lib.hid hl7; clear hl7))
              go_roundw
              case rel => exact ⟨i + 1, _, appM m true RB, by omega, rfl, by go_num, HAF.out.1, ⟨HAF.out.2.2.2.1.trans HMF.out.1, HAF.out.2.2.2.2.trans HMF.out.2⟩, by rw [HAF.out.2.1]; exact HL7.out.tail⟩
              case measure => simp [intOf]; omega
            · have hkr2 : (RN : Int) < 1 := by omega
              have HEA : Hid (appE m true 1 = 9) := Lib.hid (appE_full m 1 RN HR.out (by omega) hK4)
              have HAM : Hid (appM m true RB = m) := Lib.hid (by unfold appM; rw [HRBL.out, if_neg (by rw [HEA.out]; omega)])
              clear hkr
              go_wp2_with (first
                | (have x1 := HG1; go_at_call 29; refine (room_lv HL.out (i := 2) (m := m) rfl HMS.out.1 HMS.out.2.1).mono ?_; rintro e w2 ⟨rfl, hb⟩; rw [HR.out]; have HL2 := Lib.hid (HL.out.below hb); have q2 := (HL2.out.pastF (i := 1) rfl).2.2.1; have HG2 := x1; clear hb x1 HG1 HL)
                | (have x1 := HG2; go_at_call 29; refine (room_lv HL2.out (i := 2) (m := m) rfl HMS.out.1 HMS.out.2.1).mono ?_; rintro e w3 ⟨rfl, hb⟩; rw [HR.out]; have HL3 := Lib.hid (HL2.out.below hb); have HG3 := x1; clear hb x1 HG2 HL2)
                | (have x1 := HG3; go_at_call 31; refine (HBY.out _).mono ?_; rintro e w4 ⟨v4, rfl, hm⟩; have hl4 := HL3.out.made hm; obtain ⟨ba, bc, rfl, hbb⟩ := hm.bs; rw [HRBL.out] at hbb hl4 ⊢; have HL4 := Lib.hid hl4; have HBB := Lib.hid hbb; have q4 := (HL4.out.pastF (i := 2) rfl).2.2.1; clear hm hl4 hbb x1 HG3 HL3)
                | (have x1 := HL4.out; go_at_call 15; refine (append_lv x1 (i := 3) (j := 4) (m := m) (d := d0) rfl rfl HBB.out HMS.out.1 HMS.out.2.1 (by omega) HMS.out.2.2).mono ?_; rintro e w5 ⟨rfl, hl5⟩; rw [HON.out] at hl5 ⊢; rw [HEA.out]; have HL5 := Lib.hid hl5; clear hl5 x1 HL4))
              go_roundw
              case rel => exact ⟨i + 1, v0, m, by omega, rfl, by go_num, HFI.out, HMF.out, by have h9 := HL5.out; rw [HAM.out] at h9; exact h9.tail⟩
              case measure => simp [intOf]; omega
      · have hR0' : R < 0 := by omega
        have HRR : Hid (roomZ n ((takR m.recs : Nat) : Int) = R) := Lib.hid (by rw [← HMF.out.2, ← HFI.out.tak]; exact HR.out)
        obtain ⟨z1, z2⟩ := sync_fine HFI.out
        obtain ⟨z3, z4, z5⟩ := sync_nf m d0 HON.out HFU.out
        have z6 : Fine (syncR m d0).2.1 (syncR m d0).2.2 ∧ (syncR m d0).2.1.recs = m.recs ∧ (syncR m d0).2.1.syn = m.recs.length ∧ (syncR m d0).2.1.frm = m.frm ∧ (syncR m d0).2.1.n = m.n := by
          rcases z2 with ⟨-, y2, y3, y4, y5, y6⟩ | ⟨y1, -⟩
          · exact ⟨y2, y3, y4, y5, y6⟩
          · rw [y1] at z3; exact absurd z3 (by omega)
        obtain ⟨y2, y3, y4, y5, y6⟩ := z6
        have hga : GA 1 n (syncR m d0).2.2 (syncR m d0).2.1.rnd (syncR m d0).2.1.en m.recs := by
          have := y2.ga
          rw [y3, y4, y5, y6, HMF.out.1, HMF.out.2, List.take_of_length_le (Nat.le_refl _)] at this
          exact this
        have HSY : Hid (∀ u, Lv w u [recsO v0 m.recs, pastO gp g gl n (.slice none 0 0) 0 false, logO gl g m, diskO g d0] → Calls Try.prog 16 #[.pointer (some ⟨gl, 0, none⟩)] u fun x w' => x = .returned (.int .i64 0) ∧ Lv w w' [recsO v0 m.recs, pastO gp g gl n (.slice none 0 0) 0 false, logO gl g (syncR m d0).2.1, diskO g (syncR m d0).2.2]) := Lib.hid (fun u hl => by
          have hf := HFI.out
          have hb := hf.bounds
          have h1 := HMF.out
          have h2 := HNB.out
          have h3 := HDL.out
          have h4 := hf.addLen
          obtain ⟨b1, b2, b3⟩ := lenB_facts m.recs
          have := sync_lv hl (i := 2) (j := 3) (m := m) (d := d0) rfl rfl (by omega) hf.ga.rb (by rw [h3, h1.1]; omega) (hf.ok.mono (by omega)) hf.syn (fun r hr => by have := b1 r hr; omega) (by omega) (by omega) (by rw [h3, h1.1]; omega)
          rw [z3] at this
          exact this)
        obtain ⟨m2, hm2⟩ : ∃ m2, m2 = (syncR m d0).2.1 := ⟨_, rfl⟩
        obtain ⟨d2, hd2⟩ : ∃ d2, d2 = (syncR m d0).2.2 := ⟨_, rfl⟩
        rw [← hm2, ← hd2] at HSY hga
        have HGA := Lib.hid (cutD_ga hga [])
        obtain ⟨r3, hr3⟩ : ∃ r3, r3 = m2.rnd := ⟨_, rfl⟩
        obtain ⟨e3, he3⟩ : ∃ e3, e3 = m2.en := ⟨_, rfl⟩
        rw [← hr3, ← he3] at HGA
        have HTK0 : Hid (takR m.recs ≤ 1000000) := Lib.hid (by have hb := HFI.out.bounds; have h5 := HFI.out.tak; omega)
        have HRL : Hid (m.recs.length ≤ 100000 ∧ (∀ r ∈ m.recs, r.length ≤ 1000000) ∧ takR m.recs ≤ 1000000000 ∧ m.recs.length ≤ 1000000) := Lib.hid (by have hb := HFI.out.bounds; have h5 := HFI.out.tak; obtain ⟨b1, b2, b3⟩ := lenB_facts m.recs; exact ⟨by omega, fun r hr => by have := b1 r hr; omega, by omega, by omega⟩)
        obtain ⟨rs, hrs⟩ : ∃ rs, rs = m.recs := ⟨_, rfl⟩
        rw [← hrs] at HSY HGA HRL HL HRR HTK0
        have HTK := HTK0
        obtain ⟨D1, a1, c1, hv1, hrd1⟩ := HL.out.recsR (i := 0) rfl
        subst hv1
        have ha1c := hrd1.2.1
        have ha1m := hrd1.2.2.1
        clear hrd1
        obtain ⟨n1, hn1⟩ : ∃ n1, n1 = rs.length := ⟨_, rfl⟩
        rw [← hn1] at HSY HL ha1c HRL ⊢
        have HN1 := Lib.hid hn1
        obtain ⟨LST, hLST⟩ : ∃ LST, LST = [recsO (.slice a1 n1 c1) rs, pastO gp g gl n (.slice none 0 0) 0 false, logO gl g m2, diskO g (cutD d2 [])] := ⟨_, rfl⟩
        obtain ⟨MO, hMO⟩ : ∃ MO, MO = mOpen 1 n r3 rs := ⟨_, rfl⟩
        have HOP : Hid (∀ u, Lv w u LST → Calls Try.prog 18 #[.pointer (some ⟨g, 0, none⟩), .int .i64 1, .int .i64 (n : Int)] u fun x w' => ∃ gk, x = .returned (.tuple #[.pointer (some ⟨gk, 0, none⟩), .int .i64 0]) ∧ Lv w w' (logO gk g MO :: LST)) := Lib.hid (fun u hl => by rw [hLST] at hl ⊢; rw [hMO]; exact open_ga hl (j := 3) rfl HGA.out (show 1 ≤ 4096 by omega) HNB.out.1 (show n ≤ 200 by have := HNB.out.2; omega) (cutD_on _ _))
        have HPC : Hid (∀ u, Lv w u LST → u.cell? ⟨gp, 0, none⟩ = some (.pointer (some ⟨g, 0, none⟩)) ∧ u.cell? ⟨gp, 2, none⟩ = some (.int .i64 (n : Int))) := Lib.hid (fun u hl => by rw [hLST] at hl; have := hl.pastF (i := 1) rfl; exact ⟨this.2.1, this.2.2.2.1⟩)
        have HLST := Lib.hid hLST
        have HMO := Lib.hid hMO
        clear hLST hMO
        have HRM : Hid (∀ u, Lv w u [recsO (.slice a1 n1 c1) rs, pastO gp g gl n (.slice none 0 0) 0 false, logO gl g m, diskO g d0] → Calls Try.prog 30 #[.int .i64 (n : Int), .slice a1 n1 c1] u fun x w' => x = .returned (.int .i64 R) ∧ u = w') := Lib.hid (fun u hl => by
          obtain ⟨D9, a9, c9, hv9, hrd9⟩ := hl.recsR (i := 0) rfl
          rw [← HN1.out] at hv9 hrd9
          cases hv9
          rw [← HRR.out]
          exact rroom_any D9 a1 n1 c1 n rs u hrd9 (by have := HNB.out.2; omega) HRL.out.2.2.1 HRL.out.2.2.2 HRL.out.2.1)
        have HGB : Hid True := Lib.hid trivial
        clear z1 z2 z3 z4 z5 y2 y3 y4 y5 y6 hga hm2 hd2 hr3 he3 hrs hn1 HI
        go_upto_region 24 with (first
          | (have x1 := HG1; go_at_call 29; refine (room_lv HL.out (i := 2) (m := m) rfl HMS.out.1 HMS.out.2.1).mono ?_; rintro e w2 ⟨rfl, hb⟩; rw [HR.out]; have HL2 := Lib.hid (HL.out.below hb); have q2 := (HL2.out.pastF (i := 1) rfl).2.2.1; have HG2 := x1; clear hb x1 HG1 HL)
          | (have x1 := HG2; go_at_call 29; refine (room_lv HL2.out (i := 2) (m := m) rfl HMS.out.1 HMS.out.2.1).mono ?_; rintro e w3 ⟨rfl, hb⟩; rw [HR.out]; have HL3 := Lib.hid (HL2.out.below hb); obtain ⟨-, -, q3, n3, -, -, -⟩ := HL3.out.pastF (i := 1) rfl; have HG3 := x1; clear hb x1 HG2 HL2)
          | (have x1 := HG3; go_at_call 30; refine (HRM.out _ HL3.out).mono ?_; rintro e w4 ⟨rfl, rfl⟩; have HG4 := x1; clear x1 HG3)
          | (have x1 := HG4; go_at_call 16; refine (HSY.out _ HL3.out).mono ?_; rintro e w5 ⟨rfl, hl5⟩; have HL5 := Lib.hid hl5; have q5 := (HL5.out.pastF (i := 1) rfl).2.1; have HG5 := x1; clear hl5 x1 HG4 HL3)
          | (have x1 := HG5; go_at_call 21; refine (fuse_lv HL5.out (i := 3) (d := d2) rfl 0 (by omega) (by omega)).mono ?_; rintro e w6 ⟨rfl, hl6⟩; have HL6 := Lib.hid hl6; have q6 := (HL6.out.pastF (i := 1) rfl).2.1; have HG6 := x1; clear hl6 x1 HG5 HL5)
          | (have x1 := HG6; go_at_call 28; refine (restart_lv HL6.out (i := 3) (d := d2.setFuse 0) rfl (Ts.nil0 _) (.inl (fun _ h => h.elim))).mono ?_; rintro e w7 ⟨rfl, hl7⟩; have HL7 : Hid (Lv w w7 LST) := Lib.hid (by rw [HLST.out]; exact hl7); have HG7 := x1; clear hl7 x1 HG6 HL6))
        refine Roll.region_v 14 132 Dof24 Lof24 [(5, .pointer (some ⟨gp, 0, none⟩))] 8 [true, true, true, false, true, true, true, false, false, true, true, true, true, true] (fun p => Lv w p LST) (fun vv p => ∃ gk, vv = .tuple #[.pointer (some ⟨gk, 0, none⟩), .int .i64 0] ∧ Lv w p (logO gk g MO :: LST)) (fun p => True) (fun _ _ => True) [fun vv p => (vv 0) = .pointer (some ⟨gp, 0, none⟩), fun vv p => (vv 1) = .pointer (some ⟨gp, 0, none⟩), fun vv p => (vv 2) = .pointer (some ⟨gp, 0, none⟩), fun vv p => (vv 3) = .pointer (some ⟨g, 0, none⟩), fun vv p => (vv 4) = .pointer (some ⟨gp, 0, none⟩), fun vv p => (vv 5) = .pointer (some ⟨gp, 0, none⟩), fun vv p => (vv 6) = .pointer (some ⟨gp, 2, none⟩), fun vv p => (vv 7) = .int .i64 (n : Int), fun vv p => ∃ gk, (vv 8) = .tuple #[.pointer (some ⟨gk, 0, none⟩), .int .i64 0], fun vv p => ∃ gk, (vv 8) = .tuple #[.pointer (some ⟨gk, 0, none⟩), .int .i64 0] ∧ (vv 9) = .tuple #[.pointer (some ⟨gk, 0, none⟩), .int .i64 0], fun vv p => ∃ gk, (vv 9) = .tuple #[.pointer (some ⟨gk, 0, none⟩), .int .i64 0] ∧ (vv 10) = .pointer (some ⟨gk, 0, none⟩), fun vv p => (vv 11) = .int .i64 0, fun vv p => ∃ gk, (vv 10) = .pointer (some ⟨gk, 0, none⟩) ∧ (vv 12) = .pointer (some ⟨gk, 0, none⟩), fun vv p => (vv 13) = .int .i64 0] (by kernel_rfl) (by kernel_rfl) rfl ⟨rfl, trivial⟩ (HL7.out.below (Below.refl _ _).drew) (by decide) (by kernel_rfl) (fun _ _ => trivial) (fun _ _ _ => trivial) (fun _ => trivial) ?_ ?_ ?_
        · exact ⟨fun _ _ _ _ h => h, fun _ _ _ _ h => h, fun _ _ _ _ h => h, fun _ _ _ _ h => h, fun _ _ _ _ h => h, fun _ _ _ _ h => h, fun _ _ _ _ h => h, fun _ _ _ _ h => h, fun _ _ _ _ h => h, fun _ _ _ _ h => h, fun _ _ _ _ h => h, fun _ _ _ _ h => h, fun _ _ _ _ h => h, fun _ _ _ _ h => h, trivial⟩
        · intro b0 hN hlv
          refine ⟨?_, ?_, ?_, ?_, ?_, ?_, ?_, ?_, ?_, ?_, ?_, ?_, ?_, ?_, trivial⟩
          · intro vs p hI0 hp
            have hI := Roll.inw_pure (by decide) rfl hI0
            clear hI0
            have e5 : (Roll.putD Dof24 vs [] b0).eval (.tmp 5) = .pointer (some ⟨gp, 0, none⟩) := (Roll.eval_old rfl).trans (hlv.at 0 (5, .pointer (some ⟨gp, 0, none⟩)) rfl)
            clear hp hlv hN
            unfold Roll.Goes
            simp only [Lof24, List.getD_cons_zero, List.getD_cons_succ]
            generalize Roll.putD Dof24 vs [] b0 = a1 at *
            refine Roll.goes_val (w' := p) (.pointer (some ⟨gp, 0, none⟩)) rfl ?_ ⟨(Roll.outw_pure (by decide) rfl), rfl⟩
            (have ec : ∀ x, a1.eval (.const x) = x := fun _ => rfl); (have ef : ∀ x, a1.eval (.func x) = .func (.func x) #[] #[] := fun _ => rfl); generalize a1.eval = ρ at *
            skip
            go_simp <;> (intros; first | (exfalso; omega) | rfl)
          · intro vs p hI0 hp
            have hI := Roll.inw_pure (by decide) rfl hI0
            clear hI0
            have h0 : (vs 0) = .pointer (some ⟨gp, 0, none⟩) := hp 0 (by simp [Lof24])
            have e100 : (Roll.putD Dof24 vs [0] b0).eval (.tmp 100) = .pointer (some ⟨gp, 0, none⟩) := (Roll.eval_new 0 rfl (by decide) (by decide) (by omega)).trans h0
            clear hp hlv hN
            unfold Roll.Goes
            simp only [Lof24, List.getD_cons_zero, List.getD_cons_succ]
            generalize Roll.putD Dof24 vs [0] b0 = a1 at *
            refine Roll.goes_val (w' := p) (.pointer (some ⟨gp, 0, none⟩)) rfl ?_ ⟨(Roll.outw_pure (by decide) rfl), rfl⟩
            (have ec : ∀ x, a1.eval (.const x) = x := fun _ => rfl); (have ef : ∀ x, a1.eval (.func x) = .func (.func x) #[] #[] := fun _ => rfl); generalize a1.eval = ρ at *
            clear h0
            go_simp <;> (intros; first | (exfalso; omega) | rfl)
          · intro vs p hI0 hp
            have hI := Roll.inw_pure (by decide) rfl hI0
            clear hI0
            have h1 : (vs 1) = .pointer (some ⟨gp, 0, none⟩) := hp 1 (by simp [Lof24])
            have e101 : (Roll.putD Dof24 vs [1] b0).eval (.tmp 101) = .pointer (some ⟨gp, 0, none⟩) := (Roll.eval_new 1 rfl (by decide) (by decide) (by omega)).trans h1
            clear hp hlv hN
            unfold Roll.Goes
            simp only [Lof24, List.getD_cons_zero, List.getD_cons_succ]
            generalize Roll.putD Dof24 vs [1] b0 = a1 at *
            refine Roll.goes_val (w' := p) (.pointer (some ⟨gp, 0, none⟩)) rfl ?_ ⟨(Roll.outw_pure (by decide) rfl), rfl⟩
            (have ec : ∀ x, a1.eval (.const x) = x := fun _ => rfl); (have ef : ∀ x, a1.eval (.func x) = .func (.func x) #[] #[] := fun _ => rfl); generalize a1.eval = ρ at *
            clear h1
            go_simp <;> (intros; first | (exfalso; omega) | rfl)
          · intro vs p hI0 hp
            have hI := Roll.inw_pre (by decide) rfl hI0
            clear hI0
            have h2 : (vs 2) = .pointer (some ⟨gp, 0, none⟩) := hp 2 (by simp [Lof24])
            have e102 : (Roll.putD Dof24 vs [2] b0).eval (.tmp 102) = .pointer (some ⟨gp, 0, none⟩) := (Roll.eval_new 2 rfl (by decide) (by decide) (by omega)).trans h2
            clear hp hlv hN
            unfold Roll.Goes
            simp only [Lof24, List.getD_cons_zero, List.getD_cons_succ]
            generalize Roll.putD Dof24 vs [2] b0 = a1 at *
            have cf := (HPC.out p hI).1
            refine Roll.goes_val (w' := p) (.pointer (some ⟨g, 0, none⟩)) rfl ?_ ⟨Roll.outw_pre (by decide) rfl hI trivial, rfl⟩
            (have ec : ∀ x, a1.eval (.const x) = x := fun _ => rfl); (have ef : ∀ x, a1.eval (.func x) = .func (.func x) #[] #[] := fun _ => rfl); generalize a1.eval = ρ at *
            go_simp <;> (intros; first | (exfalso; omega) | rfl)
          · intro vs p hI0 hp
            have hI := Roll.inw_pure (by decide) rfl hI0
            clear hI0
            have e5 : (Roll.putD Dof24 vs [] b0).eval (.tmp 5) = .pointer (some ⟨gp, 0, none⟩) := (Roll.eval_old rfl).trans (hlv.at 0 (5, .pointer (some ⟨gp, 0, none⟩)) rfl)
            clear hp hlv hN
            unfold Roll.Goes
            simp only [Lof24, List.getD_cons_zero, List.getD_cons_succ]
            generalize Roll.putD Dof24 vs [] b0 = a1 at *
            refine Roll.goes_val (w' := p) (.pointer (some ⟨gp, 0, none⟩)) rfl ?_ ⟨(Roll.outw_pure (by decide) rfl), rfl⟩
            (have ec : ∀ x, a1.eval (.const x) = x := fun _ => rfl); (have ef : ∀ x, a1.eval (.func x) = .func (.func x) #[] #[] := fun _ => rfl); generalize a1.eval = ρ at *
            skip
            go_simp <;> (intros; first | (exfalso; omega) | rfl)
          · intro vs p hI0 hp
            have hI := Roll.inw_pure (by decide) rfl hI0
            clear hI0
            have h4 : (vs 4) = .pointer (some ⟨gp, 0, none⟩) := hp 4 (by simp [Lof24])
            have e104 : (Roll.putD Dof24 vs [4] b0).eval (.tmp 104) = .pointer (some ⟨gp, 0, none⟩) := (Roll.eval_new 4 rfl (by decide) (by decide) (by omega)).trans h4
            clear hp hlv hN
            unfold Roll.Goes
            simp only [Lof24, List.getD_cons_zero, List.getD_cons_succ]
            generalize Roll.putD Dof24 vs [4] b0 = a1 at *
            refine Roll.goes_val (w' := p) (.pointer (some ⟨gp, 0, none⟩)) rfl ?_ ⟨(Roll.outw_pure (by decide) rfl), rfl⟩
            (have ec : ∀ x, a1.eval (.const x) = x := fun _ => rfl); (have ef : ∀ x, a1.eval (.func x) = .func (.func x) #[] #[] := fun _ => rfl); generalize a1.eval = ρ at *
            clear h4
            go_simp <;> (intros; first | (exfalso; omega) | rfl)
          · intro vs p hI0 hp
            have hI := Roll.inw_pure (by decide) rfl hI0
            clear hI0
            have h5 : (vs 5) = .pointer (some ⟨gp, 0, none⟩) := hp 5 (by simp [Lof24])
            have e105 : (Roll.putD Dof24 vs [5] b0).eval (.tmp 105) = .pointer (some ⟨gp, 0, none⟩) := (Roll.eval_new 5 rfl (by decide) (by decide) (by omega)).trans h5
            clear hp hlv hN
            unfold Roll.Goes
            simp only [Lof24, List.getD_cons_zero, List.getD_cons_succ]
            generalize Roll.putD Dof24 vs [5] b0 = a1 at *
            refine Roll.goes_val (w' := p) (.pointer (some ⟨gp, 2, none⟩)) rfl ?_ ⟨(Roll.outw_pure (by decide) rfl), rfl⟩
            (have ec : ∀ x, a1.eval (.const x) = x := fun _ => rfl); (have ef : ∀ x, a1.eval (.func x) = .func (.func x) #[] #[] := fun _ => rfl); generalize a1.eval = ρ at *
            clear h5
            go_simp <;> (intros; first | (exfalso; omega) | rfl)
          · intro vs p hI0 hp
            have hI := Roll.inw_pre (by decide) rfl hI0
            clear hI0
            have h6 : (vs 6) = .pointer (some ⟨gp, 2, none⟩) := hp 6 (by simp [Lof24])
            have e106 : (Roll.putD Dof24 vs [6] b0).eval (.tmp 106) = .pointer (some ⟨gp, 2, none⟩) := (Roll.eval_new 6 rfl (by decide) (by decide) (by omega)).trans h6
            clear hp hlv hN
            unfold Roll.Goes
            simp only [Lof24, List.getD_cons_zero, List.getD_cons_succ]
            generalize Roll.putD Dof24 vs [6] b0 = a1 at *
            have cf := (HPC.out p hI).2
            refine Roll.goes_val (w' := p) (.int .i64 (n : Int)) rfl ?_ ⟨Roll.outw_pre (by decide) rfl hI trivial, rfl⟩
            (have ec : ∀ x, a1.eval (.const x) = x := fun _ => rfl); (have ef : ∀ x, a1.eval (.func x) = .func (.func x) #[] #[] := fun _ => rfl); generalize a1.eval = ρ at *
            go_simp <;> (intros; first | (exfalso; omega) | rfl)
          · intro vs p hI0 hp
            have hI := Roll.inw_k0 rfl hI0
            clear hI0
            have h3 : (vs 3) = .pointer (some ⟨g, 0, none⟩) := hp 3 (by simp [Lof24])
            have h7 : (vs 7) = .int .i64 (n : Int) := hp 7 (by simp [Lof24])
            have e103 : (Roll.putD Dof24 vs [3, 7] b0).eval (.tmp 103) = .pointer (some ⟨g, 0, none⟩) := (Roll.eval_new 3 rfl (by decide) (by decide) (by omega)).trans h3
            have e107 : (Roll.putD Dof24 vs [3, 7] b0).eval (.tmp 107) = .int .i64 (n : Int) := (Roll.eval_new 7 rfl (by decide) (by decide) (by omega)).trans h7
            clear hp hlv hN
            unfold Roll.Goes
            simp only [Lof24, List.getD_cons_zero, List.getD_cons_succ]
            generalize Roll.putD Dof24 vs [3, 7] b0 = a1 at *
            refine Roll.goes_call 18 #[.pointer (some ⟨g, 0, none⟩), .int .i64 1, .int .i64 (n : Int)] p rfl (by have ec : ∀ x, a1.eval (.const x) = x := fun _ => rfl; have ef : ∀ x, a1.eval (.func x) = .func (.func x) #[] #[] := fun _ => rfl; generalize a1.eval = ρ at *; go_simp) ?_
            refine (HOP.out p hI).mono ?_
            rintro y p2 ⟨gk, rfl, hl⟩
            exact ⟨_, rfl, Roll.outw_k0 rfl ⟨gk, rfl, hl⟩ trivial, gk, rfl⟩
          · intro vs p hI0 hp
            have hI := Roll.inw_pure (by decide) rfl hI0
            clear hI0
            have h8 : ∃ gk, (vs 8) = .tuple #[.pointer (some ⟨gk, 0, none⟩), .int .i64 0] := hp 8 (by simp [Lof24])
            have e108 : (Roll.putD Dof24 vs [8] b0).eval (.tmp 108) = vs 8 := (Roll.eval_new 8 rfl (by decide) (by decide) (by omega))
            clear hp hlv hN
            unfold Roll.Goes
            simp only [Lof24, List.getD_cons_zero, List.getD_cons_succ]
            generalize Roll.putD Dof24 vs [8] b0 = a1 at *
            obtain ⟨gk, hv⟩ := h8
            rw [hv] at e108
            refine Roll.goes_val (w' := p) (.tuple #[.pointer (some ⟨gk, 0, none⟩), .int .i64 0]) rfl ?_ ⟨(Roll.outw_pure (by decide) rfl), gk, hv, rfl⟩
            (have ec : ∀ x, a1.eval (.const x) = x := fun _ => rfl); (have ef : ∀ x, a1.eval (.func x) = .func (.func x) #[] #[] := fun _ => rfl); generalize a1.eval = ρ at *
            go_simp <;> (intros; first | (exfalso; omega) | rfl)
          · intro vs p hI0 hp
            have hI := Roll.inw_pure (by decide) rfl hI0
            clear hI0
            have h9 : ∃ gk, (vs 8) = .tuple #[.pointer (some ⟨gk, 0, none⟩), .int .i64 0] ∧ (vs 9) = .tuple #[.pointer (some ⟨gk, 0, none⟩), .int .i64 0] := hp 9 (by simp [Lof24])
            have e99 : (Roll.putD Dof24 vs [9] b0).eval (.tmp 99) = vs 9 := (Roll.eval_new 9 rfl (by decide) (by decide) (by omega))
            clear hp hlv hN
            unfold Roll.Goes
            simp only [Lof24, List.getD_cons_zero, List.getD_cons_succ]
            generalize Roll.putD Dof24 vs [9] b0 = a1 at *
            obtain ⟨gk, -, hv⟩ := h9
            rw [hv] at e99
            refine Roll.goes_val (w' := p) (.pointer (some ⟨gk, 0, none⟩)) rfl ?_ ⟨(Roll.outw_pure (by decide) rfl), gk, hv, rfl⟩
            (have ec : ∀ x, a1.eval (.const x) = x := fun _ => rfl); (have ef : ∀ x, a1.eval (.func x) = .func (.func x) #[] #[] := fun _ => rfl); generalize a1.eval = ρ at *
            go_simp <;> (intros; first | (exfalso; omega) | rfl)
          · intro vs p hI0 hp
            have hI := Roll.inw_pure (by decide) rfl hI0
            clear hI0
            have h9 : ∃ gk, (vs 8) = .tuple #[.pointer (some ⟨gk, 0, none⟩), .int .i64 0] ∧ (vs 9) = .tuple #[.pointer (some ⟨gk, 0, none⟩), .int .i64 0] := hp 9 (by simp [Lof24])
            have e99 : (Roll.putD Dof24 vs [9] b0).eval (.tmp 99) = vs 9 := (Roll.eval_new 9 rfl (by decide) (by decide) (by omega))
            clear hp hlv hN
            unfold Roll.Goes
            simp only [Lof24, List.getD_cons_zero, List.getD_cons_succ]
            generalize Roll.putD Dof24 vs [9] b0 = a1 at *
            obtain ⟨gk, -, hv⟩ := h9
            rw [hv] at e99
            refine Roll.goes_val (w' := p) (.int .i64 0) rfl ?_ ⟨(Roll.outw_pure (by decide) rfl), rfl⟩
            (have ec : ∀ x, a1.eval (.const x) = x := fun _ => rfl); (have ef : ∀ x, a1.eval (.func x) = .func (.func x) #[] #[] := fun _ => rfl); generalize a1.eval = ρ at *
            go_simp <;> (intros; first | (exfalso; omega) | rfl)
          · intro vs p hI0 hp
            have hI := Roll.inw_pure (by decide) rfl hI0
            clear hI0
            have h10 : ∃ gk, (vs 9) = .tuple #[.pointer (some ⟨gk, 0, none⟩), .int .i64 0] ∧ (vs 10) = .pointer (some ⟨gk, 0, none⟩) := hp 10 (by simp [Lof24])
            have e109 : (Roll.putD Dof24 vs [10] b0).eval (.tmp 109) = vs 10 := (Roll.eval_new 10 rfl (by decide) (by decide) (by omega))
            clear hp hlv hN
            unfold Roll.Goes
            simp only [Lof24, List.getD_cons_zero, List.getD_cons_succ]
            generalize Roll.putD Dof24 vs [10] b0 = a1 at *
            obtain ⟨gk, -, hv⟩ := h10
            rw [hv] at e109
            refine Roll.goes_val (w' := p) (.pointer (some ⟨gk, 0, none⟩)) rfl ?_ ⟨(Roll.outw_pure (by decide) rfl), gk, hv, rfl⟩
            (have ec : ∀ x, a1.eval (.const x) = x := fun _ => rfl); (have ef : ∀ x, a1.eval (.func x) = .func (.func x) #[] #[] := fun _ => rfl); generalize a1.eval = ρ at *
            go_simp <;> (intros; first | (exfalso; omega) | rfl)
          · intro vs p hI0 hp
            have hI := Roll.inw_pure (by decide) rfl hI0
            clear hI0
            have h11 : (vs 11) = .int .i64 0 := hp 11 (by simp [Lof24])
            have e110 : (Roll.putD Dof24 vs [11] b0).eval (.tmp 110) = .int .i64 0 := (Roll.eval_new 11 rfl (by decide) (by decide) (by omega)).trans h11
            clear hp hlv hN
            unfold Roll.Goes
            simp only [Lof24, List.getD_cons_zero, List.getD_cons_succ]
            generalize Roll.putD Dof24 vs [11] b0 = a1 at *
            refine Roll.goes_val (w' := p) (.int .i64 0) rfl ?_ ⟨(Roll.outw_pure (by decide) rfl), rfl⟩
            (have ec : ∀ x, a1.eval (.const x) = x := fun _ => rfl); (have ef : ∀ x, a1.eval (.func x) = .func (.func x) #[] #[] := fun _ => rfl); generalize a1.eval = ρ at *
            clear h11
            go_simp <;> (intros; first | (exfalso; omega) | rfl)
        · intro vs p hI hR
          have h0 : (vs 0) = .pointer (some ⟨gp, 0, none⟩) := hR 0 (by omega)
          have h1 : (vs 1) = .pointer (some ⟨gp, 0, none⟩) := hR 1 (by omega)
          have h2 : (vs 2) = .pointer (some ⟨gp, 0, none⟩) := hR 2 (by omega)
          have h3 : (vs 3) = .pointer (some ⟨g, 0, none⟩) := hR 3 (by omega)
          have h4 : (vs 4) = .pointer (some ⟨gp, 0, none⟩) := hR 4 (by omega)
          have h5 : (vs 5) = .pointer (some ⟨gp, 0, none⟩) := hR 5 (by omega)
          have h6 : (vs 6) = .pointer (some ⟨gp, 2, none⟩) := hR 6 (by omega)
          have h7 : (vs 7) = .int .i64 (n : Int) := hR 7 (by omega)
          have h8 : ∃ gk, (vs 8) = .tuple #[.pointer (some ⟨gk, 0, none⟩), .int .i64 0] := hR 8 (by omega)
          have h9 : ∃ gk, (vs 8) = .tuple #[.pointer (some ⟨gk, 0, none⟩), .int .i64 0] ∧ (vs 9) = .tuple #[.pointer (some ⟨gk, 0, none⟩), .int .i64 0] := hR 9 (by omega)
          have h10 : ∃ gk, (vs 9) = .tuple #[.pointer (some ⟨gk, 0, none⟩), .int .i64 0] ∧ (vs 10) = .pointer (some ⟨gk, 0, none⟩) := hR 10 (by omega)
          have h11 : (vs 11) = .int .i64 0 := hR 11 (by omega)
          have h12 : ∃ gk, (vs 10) = .pointer (some ⟨gk, 0, none⟩) ∧ (vs 12) = .pointer (some ⟨gk, 0, none⟩) := hR 12 (by omega)
          have h13 : (vs 13) = .int .i64 0 := hR 13 (by omega)
          clear hR
          simp only [List.range_succ, List.range_zero, List.nil_append, List.cons_append, Roll.putD, Act.put, List.getD_cons_zero, List.getD_cons_succ, List.setIfInBounds_toArray, List.set_cons_zero, List.set_cons_succ, List.drop_succ_cons, List.drop_zero, Dof24]
          simp only [h0, h1, h2, h3, h4, h5, h6, h7, h11, h13]
          clear h0 h1 h2 h3 h4 h5 h6 h7 h11 h13
          clear h8
          generalize vs 8 = v8 at *; generalize vs 9 = v9 at *; generalize vs 10 = v10 at *; generalize vs 12 = v12 at *
          obtain ⟨gk, rfl, hl8⟩ := hI
          obtain ⟨g9, e8, rfl⟩ := h9
          obtain rfl : g9 = gk := by simpa using e8.symm
          obtain ⟨g10, e9, rfl⟩ := h10
          obtain rfl : g10 = g9 := by simpa using e9.symm
          obtain ⟨g12, e10, rfl⟩ := h12
          obtain rfl : g12 = g10 := by simpa using e10.symm
          clear e8 e9 e10
          have HL9 : Hid (Lv w p (logO g12 g (mOpen 1 n r3 rs) :: [recsO (.slice a1 n1 c1) rs, pastO gp g gl n (.slice none 0 0) 0 false, logO gl g m2, diskO g (cutD d2 [])])) := Lib.hid (by rw [← HMO.out, ← HLST.out]; exact hl8)
          have HG8 : Hid True := Lib.hid trivial
          clear hl8 HL7
          go_wp2_with (first
            | (have x1 := HG8; go_at_call 27; refine (records_lv HL9.out (ii := 0) (m := mOpen 1 n r3 rs) rfl (show rs.length ≤ 100000 by rw [← HN1.out]; exact HRL.out.1) HRL.out.2.1).mono ?_; rintro e w10 ⟨ra, rc, rfl, hl10⟩; rw [show (mOpen 1 n r3 rs).recs.length = rs.length from rfl, ← HN1.out] at hl10 ⊢; have HL10 := Lib.hid hl10; have HG9 := x1; clear hl10 x1 HG8 HL9)
            | (have x1 := HG9; go_at_call 32; obtain ⟨D9, a9, c9, hv9, hrd9⟩ := HL10.out.recsR (i := 0) rfl; obtain ⟨D8, a8, c8, hv8, hrd8⟩ := HL10.out.recsR (i := 2) rfl; rw [show (mOpen 1 n r3 rs).recs = rs from rfl, ← HN1.out] at hv9 hrd9; rw [← HN1.out] at hv8 hrd8; cases hv9; cases hv8; refine (same_any _ _ _ _ _ _ _ _ _ _ _ hrd9 hrd8 HRL.out.2.2.2).mono ?_; rintro e w11 ⟨rfl, hb⟩; rw [show (rs == rs) = true from beq_self_eq_true rs]; have HL11 := Lib.hid (HL10.out.below hb); have HG10 := x1; clear hb hrd9 hrd8 x1 HG9 HL10)
            | (have x1 := HG10; go_at_call 29; refine (room_lv HL11.out (i := 1) (m := mOpen 1 n r3 rs) rfl (show n ≤ 4096 by have := HNB.out.2; omega) (show takR rs ≤ 1000000 by have := HTK.out; omega)).mono ?_; rintro e w12 ⟨rfl, hb⟩; rw [show roomZ (mOpen 1 n r3 rs).n (mOpen 1 n r3 rs).tak = R from HRR.out]; have HL12 := Lib.hid (HL11.out.below hb); have HG11 := x1; clear hb x1 HG10 HL11)
            | (have x1 := HG11; go_at_call 19; refine (lives4_any _).mono ?_; rintro e w13 ⟨rfl, hb⟩; have HZ := Lib.hid (HL12.out.args.trans (hb.mono HL12.out.args.size)); clear hb x1 HG11 HL12))
          go_ret
          exact ⟨rfl, HZ.out⟩
    · obtain rfl : i = 100 := by omega
      have HRR : Hid (roomZ n ((takR m.recs : Nat) : Int) = R) := Lib.hid (by rw [← HMF.out.2, ← HFI.out.tak]; exact HR.out)
      obtain ⟨z1, z2⟩ := sync_fine HFI.out
      obtain ⟨z3, z4, z5⟩ := sync_nf m d0 HON.out HFU.out
      have z6 : Fine (syncR m d0).2.1 (syncR m d0).2.2 ∧ (syncR m d0).2.1.recs = m.recs ∧ (syncR m d0).2.1.syn = m.recs.length ∧ (syncR m d0).2.1.frm = m.frm ∧ (syncR m d0).2.1.n = m.n := by
        rcases z2 with ⟨-, y2, y3, y4, y5, y6⟩ | ⟨y1, -⟩
        · exact ⟨y2, y3, y4, y5, y6⟩
        · rw [y1] at z3; exact absurd z3 (by omega)
      obtain ⟨y2, y3, y4, y5, y6⟩ := z6
      have hga : GA 1 n (syncR m d0).2.2 (syncR m d0).2.1.rnd (syncR m d0).2.1.en m.recs := by
        have := y2.ga
        rw [y3, y4, y5, y6, HMF.out.1, HMF.out.2, List.take_of_length_le (Nat.le_refl _)] at this
        exact this
      have HSY : Hid (∀ u, Lv w u [recsO v0 m.recs, pastO gp g gl n (.slice none 0 0) 0 false, logO gl g m, diskO g d0] → Calls Try.prog 16 #[.pointer (some ⟨gl, 0, none⟩)] u fun x w' => x = .returned (.int .i64 0) ∧ Lv w w' [recsO v0 m.recs, pastO gp g gl n (.slice none 0 0) 0 false, logO gl g (syncR m d0).2.1, diskO g (syncR m d0).2.2]) := Lib.hid (fun u hl => by
        have hf := HFI.out
        have hb := hf.bounds
        have h1 := HMF.out
        have h2 := HNB.out
        have h3 := HDL.out
        have h4 := hf.addLen
        obtain ⟨b1, b2, b3⟩ := lenB_facts m.recs
        have := sync_lv hl (i := 2) (j := 3) (m := m) (d := d0) rfl rfl (by omega) hf.ga.rb (by rw [h3, h1.1]; omega) (hf.ok.mono (by omega)) hf.syn (fun r hr => by have := b1 r hr; omega) (by omega) (by omega) (by rw [h3, h1.1]; omega)
        rw [z3] at this
        exact this)
      obtain ⟨m2, hm2⟩ : ∃ m2, m2 = (syncR m d0).2.1 := ⟨_, rfl⟩
      obtain ⟨d2, hd2⟩ : ∃ d2, d2 = (syncR m d0).2.2 := ⟨_, rfl⟩
      rw [← hm2, ← hd2] at HSY hga
      have HGA := Lib.hid (cutD_ga hga [])
      obtain ⟨r3, hr3⟩ : ∃ r3, r3 = m2.rnd := ⟨_, rfl⟩
      obtain ⟨e3, he3⟩ : ∃ e3, e3 = m2.en := ⟨_, rfl⟩
      rw [← hr3, ← he3] at HGA
      have HTK0 : Hid (takR m.recs ≤ 1000000) := Lib.hid (by have hb := HFI.out.bounds; have h5 := HFI.out.tak; omega)
      have HRL : Hid (m.recs.length ≤ 100000 ∧ (∀ r ∈ m.recs, r.length ≤ 1000000) ∧ takR m.recs ≤ 1000000000 ∧ m.recs.length ≤ 1000000) := Lib.hid (by have hb := HFI.out.bounds; have h5 := HFI.out.tak; obtain ⟨b1, b2, b3⟩ := lenB_facts m.recs; exact ⟨by omega, fun r hr => by have := b1 r hr; omega, by omega, by omega⟩)
      obtain ⟨rs, hrs⟩ : ∃ rs, rs = m.recs := ⟨_, rfl⟩
      rw [← hrs] at HSY HGA HRL HL HRR HTK0
      have HTK := HTK0
      obtain ⟨D1, a1, c1, hv1, hrd1⟩ := HL.out.recsR (i := 0) rfl
      subst hv1
      have ha1c := hrd1.2.1
      have ha1m := hrd1.2.2.1
      clear hrd1
      obtain ⟨n1, hn1⟩ : ∃ n1, n1 = rs.length := ⟨_, rfl⟩
      rw [← hn1] at HSY HL ha1c HRL ⊢
      have HN1 := Lib.hid hn1
      obtain ⟨LST, hLST⟩ : ∃ LST, LST = [recsO (.slice a1 n1 c1) rs, pastO gp g gl n (.slice none 0 0) 0 false, logO gl g m2, diskO g (cutD d2 [])] := ⟨_, rfl⟩
      obtain ⟨MO, hMO⟩ : ∃ MO, MO = mOpen 1 n r3 rs := ⟨_, rfl⟩
      have HOP : Hid (∀ u, Lv w u LST → Calls Try.prog 18 #[.pointer (some ⟨g, 0, none⟩), .int .i64 1, .int .i64 (n : Int)] u fun x w' => ∃ gk, x = .returned (.tuple #[.pointer (some ⟨gk, 0, none⟩), .int .i64 0]) ∧ Lv w w' (logO gk g MO :: LST)) := Lib.hid (fun u hl => by rw [hLST] at hl ⊢; rw [hMO]; exact open_ga hl (j := 3) rfl HGA.out (show 1 ≤ 4096 by omega) HNB.out.1 (show n ≤ 200 by have := HNB.out.2; omega) (cutD_on _ _))
      have HPC : Hid (∀ u, Lv w u LST → u.cell? ⟨gp, 0, none⟩ = some (.pointer (some ⟨g, 0, none⟩)) ∧ u.cell? ⟨gp, 2, none⟩ = some (.int .i64 (n : Int))) := Lib.hid (fun u hl => by rw [hLST] at hl; have := hl.pastF (i := 1) rfl; exact ⟨this.2.1, this.2.2.2.1⟩)
      have HLST := Lib.hid hLST
      have HMO := Lib.hid hMO
      clear hLST hMO
      have HRM : Hid (∀ u, Lv w u [recsO (.slice a1 n1 c1) rs, pastO gp g gl n (.slice none 0 0) 0 false, logO gl g m, diskO g d0] → Calls Try.prog 30 #[.int .i64 (n : Int), .slice a1 n1 c1] u fun x w' => x = .returned (.int .i64 R) ∧ u = w') := Lib.hid (fun u hl => by
        obtain ⟨D9, a9, c9, hv9, hrd9⟩ := hl.recsR (i := 0) rfl
        rw [← HN1.out] at hv9 hrd9
        cases hv9
        rw [← HRR.out]
        exact rroom_any D9 a1 n1 c1 n rs u hrd9 (by have := HNB.out.2; omega) HRL.out.2.2.1 HRL.out.2.2.2 HRL.out.2.1)
      have HGB : Hid True := Lib.hid trivial
      clear z1 z2 z3 z4 z5 y2 y3 y4 y5 y6 hga hm2 hd2 hr3 he3 hrs hn1 HI
      go_upto_region 24 with (first
        | (have x1 := HG1; go_at_call 29; refine (room_lv HL.out (i := 2) (m := m) rfl HMS.out.1 HMS.out.2.1).mono ?_; rintro e w3 ⟨rfl, hb⟩; rw [HR.out]; have HL3 := Lib.hid (HL.out.below hb); obtain ⟨-, -, q3, n3, -, -, -⟩ := HL3.out.pastF (i := 1) rfl; have HG3 := x1; clear hb x1 HG1 HL)
        | (have x1 := HG3; go_at_call 30; refine (HRM.out _ HL3.out).mono ?_; rintro e w4 ⟨rfl, rfl⟩; have HG4 := x1; clear x1 HG3)
        | (have x1 := HG4; go_at_call 16; refine (HSY.out _ HL3.out).mono ?_; rintro e w5 ⟨rfl, hl5⟩; have HL5 := Lib.hid hl5; have q5 := (HL5.out.pastF (i := 1) rfl).2.1; have HG5 := x1; clear hl5 x1 HG4 HL3)
        | (have x1 := HG5; go_at_call 21; refine (fuse_lv HL5.out (i := 3) (d := d2) rfl 0 (by omega) (by omega)).mono ?_; rintro e w6 ⟨rfl, hl6⟩; have HL6 := Lib.hid hl6; have q6 := (HL6.out.pastF (i := 1) rfl).2.1; have HG6 := x1; clear hl6 x1 HG5 HL5)
        | (have x1 := HG6; go_at_call 28; refine (restart_lv HL6.out (i := 3) (d := d2.setFuse 0) rfl (Ts.nil0 _) (.inl (fun _ h => h.elim))).mono ?_; rintro e w7 ⟨rfl, hl7⟩; have HL7 : Hid (Lv w w7 LST) := Lib.hid (by rw [HLST.out]; exact hl7); have HG7 := x1; clear hl7 x1 HG6 HL6))
      refine Roll.region_v 14 132 Dof24 Lof24 [(5, .pointer (some ⟨gp, 0, none⟩))] 8 [true, true, true, false, true, true, true, false, false, true, true, true, true, true] (fun p => Lv w p LST) (fun vv p => ∃ gk, vv = .tuple #[.pointer (some ⟨gk, 0, none⟩), .int .i64 0] ∧ Lv w p (logO gk g MO :: LST)) (fun p => True) (fun _ _ => True) [fun vv p => (vv 0) = .pointer (some ⟨gp, 0, none⟩), fun vv p => (vv 1) = .pointer (some ⟨gp, 0, none⟩), fun vv p => (vv 2) = .pointer (some ⟨gp, 0, none⟩), fun vv p => (vv 3) = .pointer (some ⟨g, 0, none⟩), fun vv p => (vv 4) = .pointer (some ⟨gp, 0, none⟩), fun vv p => (vv 5) = .pointer (some ⟨gp, 0, none⟩), fun vv p => (vv 6) = .pointer (some ⟨gp, 2, none⟩), fun vv p => (vv 7) = .int .i64 (n : Int), fun vv p => ∃ gk, (vv 8) = .tuple #[.pointer (some ⟨gk, 0, none⟩), .int .i64 0], fun vv p => ∃ gk, (vv 8) = .tuple #[.pointer (some ⟨gk, 0, none⟩), .int .i64 0] ∧ (vv 9) = .tuple #[.pointer (some ⟨gk, 0, none⟩), .int .i64 0], fun vv p => ∃ gk, (vv 9) = .tuple #[.pointer (some ⟨gk, 0, none⟩), .int .i64 0] ∧ (vv 10) = .pointer (some ⟨gk, 0, none⟩), fun vv p => (vv 11) = .int .i64 0, fun vv p => ∃ gk, (vv 10) = .pointer (some ⟨gk, 0, none⟩) ∧ (vv 12) = .pointer (some ⟨gk, 0, none⟩), fun vv p => (vv 13) = .int .i64 0] (by kernel_rfl) (by kernel_rfl) rfl ⟨rfl, trivial⟩ (HL7.out.below (Below.refl _ _).drew) (by decide) (by kernel_rfl) (fun _ _ => trivial) (fun _ _ _ => trivial) (fun _ => trivial) ?_ ?_ ?_
      · exact ⟨fun _ _ _ _ h => h, fun _ _ _ _ h => h, fun _ _ _ _ h => h, fun _ _ _ _ h => h, fun _ _ _ _ h => h, fun _ _ _ _ h => h, fun _ _ _ _ h => h, fun _ _ _ _ h => h, fun _ _ _ _ h => h, fun _ _ _ _ h => h, fun _ _ _ _ h => h, fun _ _ _ _ h => h, fun _ _ _ _ h => h, fun _ _ _ _ h => h, trivial⟩
      · intro b0 hN hlv
        refine ⟨?_, ?_, ?_, ?_, ?_, ?_, ?_, ?_, ?_, ?_, ?_, ?_, ?_, ?_, trivial⟩
        · intro vs p hI0 hp
          have hI := Roll.inw_pure (by decide) rfl hI0
          clear hI0
          have e5 : (Roll.putD Dof24 vs [] b0).eval (.tmp 5) = .pointer (some ⟨gp, 0, none⟩) := (Roll.eval_old rfl).trans (hlv.at 0 (5, .pointer (some ⟨gp, 0, none⟩)) rfl)
          clear hp hlv hN
          unfold Roll.Goes
          simp only [Lof24, List.getD_cons_zero, List.getD_cons_succ]
          generalize Roll.putD Dof24 vs [] b0 = a1 at *
          refine Roll.goes_val (w' := p) (.pointer (some ⟨gp, 0, none⟩)) rfl ?_ ⟨(Roll.outw_pure (by decide) rfl), rfl⟩
          (have ec : ∀ x, a1.eval (.const x) = x := fun _ => rfl); (have ef : ∀ x, a1.eval (.func x) = .func (.func x) #[] #[] := fun _ => rfl); generalize a1.eval = ρ at *
          skip
          go_simp <;> (intros; first | (exfalso; omega) | rfl)
        · intro vs p hI0 hp
          have hI := Roll.inw_pure (by decide) rfl hI0
          clear hI0
          have h0 : (vs 0) = .pointer (some ⟨gp, 0, none⟩) := hp 0 (by simp [Lof24])
          have e100 : (Roll.putD Dof24 vs [0] b0).eval (.tmp 100) = .pointer (some ⟨gp, 0, none⟩) := (Roll.eval_new 0 rfl (by decide) (by decide) (by omega)).trans h0
          clear hp hlv hN
          unfold Roll.Goes
          simp only [Lof24, List.getD_cons_zero, List.getD_cons_succ]
          generalize Roll.putD Dof24 vs [0] b0 = a1 at *
          refine Roll.goes_val (w' := p) (.pointer (some ⟨gp, 0, none⟩)) rfl ?_ ⟨(Roll.outw_pure (by decide) rfl), rfl⟩
          (have ec : ∀ x, a1.eval (.const x) = x := fun _ => rfl); (have ef : ∀ x, a1.eval (.func x) = .func (.func x) #[] #[] := fun _ => rfl); generalize a1.eval = ρ at *
          clear h0
          go_simp <;> (intros; first | (exfalso; omega) | rfl)
        · intro vs p hI0 hp
          have hI := Roll.inw_pure (by decide) rfl hI0
          clear hI0
          have h1 : (vs 1) = .pointer (some ⟨gp, 0, none⟩) := hp 1 (by simp [Lof24])
          have e101 : (Roll.putD Dof24 vs [1] b0).eval (.tmp 101) = .pointer (some ⟨gp, 0, none⟩) := (Roll.eval_new 1 rfl (by decide) (by decide) (by omega)).trans h1
          clear hp hlv hN
          unfold Roll.Goes
          simp only [Lof24, List.getD_cons_zero, List.getD_cons_succ]
          generalize Roll.putD Dof24 vs [1] b0 = a1 at *
          refine Roll.goes_val (w' := p) (.pointer (some ⟨gp, 0, none⟩)) rfl ?_ ⟨(Roll.outw_pure (by decide) rfl), rfl⟩
          (have ec : ∀ x, a1.eval (.const x) = x := fun _ => rfl); (have ef : ∀ x, a1.eval (.func x) = .func (.func x) #[] #[] := fun _ => rfl); generalize a1.eval = ρ at *
          clear h1
          go_simp <;> (intros; first | (exfalso; omega) | rfl)
        · intro vs p hI0 hp
          have hI := Roll.inw_pre (by decide) rfl hI0
          clear hI0
          have h2 : (vs 2) = .pointer (some ⟨gp, 0, none⟩) := hp 2 (by simp [Lof24])
          have e102 : (Roll.putD Dof24 vs [2] b0).eval (.tmp 102) = .pointer (some ⟨gp, 0, none⟩) := (Roll.eval_new 2 rfl (by decide) (by decide) (by omega)).trans h2
          clear hp hlv hN
          unfold Roll.Goes
          simp only [Lof24, List.getD_cons_zero, List.getD_cons_succ]
          generalize Roll.putD Dof24 vs [2] b0 = a1 at *
          have cf := (HPC.out p hI).1
          refine Roll.goes_val (w' := p) (.pointer (some ⟨g, 0, none⟩)) rfl ?_ ⟨Roll.outw_pre (by decide) rfl hI trivial, rfl⟩
          (have ec : ∀ x, a1.eval (.const x) = x := fun _ => rfl); (have ef : ∀ x, a1.eval (.func x) = .func (.func x) #[] #[] := fun _ => rfl); generalize a1.eval = ρ at *
          go_simp <;> (intros; first | (exfalso; omega) | rfl)
        · intro vs p hI0 hp
          have hI := Roll.inw_pure (by decide) rfl hI0
          clear hI0
          have e5 : (Roll.putD Dof24 vs [] b0).eval (.tmp 5) = .pointer (some ⟨gp, 0, none⟩) := (Roll.eval_old rfl).trans (hlv.at 0 (5, .pointer (some ⟨gp, 0, none⟩)) rfl)
          clear hp hlv hN
          unfold Roll.Goes
          simp only [Lof24, List.getD_cons_zero, List.getD_cons_succ]
          generalize Roll.putD Dof24 vs [] b0 = a1 at *
          refine Roll.goes_val (w' := p) (.pointer (some ⟨gp, 0, none⟩)) rfl ?_ ⟨(Roll.outw_pure (by decide) rfl), rfl⟩
          (have ec : ∀ x, a1.eval (.const x) = x := fun _ => rfl); (have ef : ∀ x, a1.eval (.func x) = .func (.func x) #[] #[] := fun _ => rfl); generalize a1.eval = ρ at *
          skip
          go_simp <;> (intros; first | (exfalso; omega) | rfl)
        · intro vs p hI0 hp
          have hI := Roll.inw_pure (by decide) rfl hI0
          clear hI0
          have h4 : (vs 4) = .pointer (some ⟨gp, 0, none⟩) := hp 4 (by simp [Lof24])
          have e104 : (Roll.putD Dof24 vs [4] b0).eval (.tmp 104) = .pointer (some ⟨gp, 0, none⟩) := (Roll.eval_new 4 rfl (by decide) (by decide) (by omega)).trans h4
          clear hp hlv hN
          unfold Roll.Goes
          simp only [Lof24, List.getD_cons_zero, List.getD_cons_succ]
          generalize Roll.putD Dof24 vs [4] b0 = a1 at *
          refine Roll.goes_val (w' := p) (.pointer (some ⟨gp, 0, none⟩)) rfl ?_ ⟨(Roll.outw_pure (by decide) rfl), rfl⟩
          (have ec : ∀ x, a1.eval (.const x) = x := fun _ => rfl); (have ef : ∀ x, a1.eval (.func x) = .func (.func x) #[] #[] := fun _ => rfl); generalize a1.eval = ρ at *
          clear h4
          go_simp <;> (intros; first | (exfalso; omega) | rfl)
        · intro vs p hI0 hp
          have hI := Roll.inw_pure (by decide) rfl hI0
          clear hI0
          have h5 : (vs 5) = .pointer (some ⟨gp, 0, none⟩) := hp 5 (by simp [Lof24])
          have e105 : (Roll.putD Dof24 vs [5] b0).eval (.tmp 105) = .pointer (some ⟨gp, 0, none⟩) := (Roll.eval_new 5 rfl (by decide) (by decide) (by omega)).trans h5
          clear hp hlv hN
          unfold Roll.Goes
          simp only [Lof24, List.getD_cons_zero, List.getD_cons_succ]
          generalize Roll.putD Dof24 vs [5] b0 = a1 at *
          refine Roll.goes_val (w' := p) (.pointer (some ⟨gp, 2, none⟩)) rfl ?_ ⟨(Roll.outw_pure (by decide) rfl), rfl⟩
          (have ec : ∀ x, a1.eval (.const x) = x := fun _ => rfl); (have ef : ∀ x, a1.eval (.func x) = .func (.func x) #[] #[] := fun _ => rfl); generalize a1.eval = ρ at *
          clear h5
          go_simp <;> (intros; first | (exfalso; omega) | rfl)
        · intro vs p hI0 hp
          have hI := Roll.inw_pre (by decide) rfl hI0
          clear hI0
          have h6 : (vs 6) = .pointer (some ⟨gp, 2, none⟩) := hp 6 (by simp [Lof24])
          have e106 : (Roll.putD Dof24 vs [6] b0).eval (.tmp 106) = .pointer (some ⟨gp, 2, none⟩) := (Roll.eval_new 6 rfl (by decide) (by decide) (by omega)).trans h6
          clear hp hlv hN
          unfold Roll.Goes
          simp only [Lof24, List.getD_cons_zero, List.getD_cons_succ]
          generalize Roll.putD Dof24 vs [6] b0 = a1 at *
          have cf := (HPC.out p hI).2
          refine Roll.goes_val (w' := p) (.int .i64 (n : Int)) rfl ?_ ⟨Roll.outw_pre (by decide) rfl hI trivial, rfl⟩
          (have ec : ∀ x, a1.eval (.const x) = x := fun _ => rfl); (have ef : ∀ x, a1.eval (.func x) = .func (.func x) #[] #[] := fun _ => rfl); generalize a1.eval = ρ at *
          go_simp <;> (intros; first | (exfalso; omega) | rfl)
        · intro vs p hI0 hp
          have hI := Roll.inw_k0 rfl hI0
          clear hI0
          have h3 : (vs 3) = .pointer (some ⟨g, 0, none⟩) := hp 3 (by simp [Lof24])
          have h7 : (vs 7) = .int .i64 (n : Int) := hp 7 (by simp [Lof24])
          have e103 : (Roll.putD Dof24 vs [3, 7] b0).eval (.tmp 103) = .pointer (some ⟨g, 0, none⟩) := (Roll.eval_new 3 rfl (by decide) (by decide) (by omega)).trans h3
          have e107 : (Roll.putD Dof24 vs [3, 7] b0).eval (.tmp 107) = .int .i64 (n : Int) := (Roll.eval_new 7 rfl (by decide) (by decide) (by omega)).trans h7
          clear hp hlv hN
          unfold Roll.Goes
          simp only [Lof24, List.getD_cons_zero, List.getD_cons_succ]
          generalize Roll.putD Dof24 vs [3, 7] b0 = a1 at *
          refine Roll.goes_call 18 #[.pointer (some ⟨g, 0, none⟩), .int .i64 1, .int .i64 (n : Int)] p rfl (by have ec : ∀ x, a1.eval (.const x) = x := fun _ => rfl; have ef : ∀ x, a1.eval (.func x) = .func (.func x) #[] #[] := fun _ => rfl; generalize a1.eval = ρ at *; go_simp) ?_
          refine (HOP.out p hI).mono ?_
          rintro y p2 ⟨gk, rfl, hl⟩
          exact ⟨_, rfl, Roll.outw_k0 rfl ⟨gk, rfl, hl⟩ trivial, gk, rfl⟩
        · intro vs p hI0 hp
          have hI := Roll.inw_pure (by decide) rfl hI0
          clear hI0
          have h8 : ∃ gk, (vs 8) = .tuple #[.pointer (some ⟨gk, 0, none⟩), .int .i64 0] := hp 8 (by simp [Lof24])
          have e108 : (Roll.putD Dof24 vs [8] b0).eval (.tmp 108) = vs 8 := (Roll.eval_new 8 rfl (by decide) (by decide) (by omega))
          clear hp hlv hN
          unfold Roll.Goes
          simp only [Lof24, List.getD_cons_zero, List.getD_cons_succ]
          generalize Roll.putD Dof24 vs [8] b0 = a1 at *
          obtain ⟨gk, hv⟩ := h8
          rw [hv] at e108
          refine Roll.goes_val (w' := p) (.tuple #[.pointer (some ⟨gk, 0, none⟩), .int .i64 0]) rfl ?_ ⟨(Roll.outw_pure (by decide) rfl), gk, hv, rfl⟩
          (have ec : ∀ x, a1.eval (.const x) = x := fun _ => rfl); (have ef : ∀ x, a1.eval (.func x) = .func (.func x) #[] #[] := fun _ => rfl); generalize a1.eval = ρ at *
          go_simp <;> (intros; first | (exfalso; omega) | rfl)
        · intro vs p hI0 hp
          have hI := Roll.inw_pure (by decide) rfl hI0
          clear hI0
          have h9 : ∃ gk, (vs 8) = .tuple #[.pointer (some ⟨gk, 0, none⟩), .int .i64 0] ∧ (vs 9) = .tuple #[.pointer (some ⟨gk, 0, none⟩), .int .i64 0] := hp 9 (by simp [Lof24])
          have e99 : (Roll.putD Dof24 vs [9] b0).eval (.tmp 99) = vs 9 := (Roll.eval_new 9 rfl (by decide) (by decide) (by omega))
          clear hp hlv hN
          unfold Roll.Goes
          simp only [Lof24, List.getD_cons_zero, List.getD_cons_succ]
          generalize Roll.putD Dof24 vs [9] b0 = a1 at *
          obtain ⟨gk, -, hv⟩ := h9
          rw [hv] at e99
          refine Roll.goes_val (w' := p) (.pointer (some ⟨gk, 0, none⟩)) rfl ?_ ⟨(Roll.outw_pure (by decide) rfl), gk, hv, rfl⟩
          (have ec : ∀ x, a1.eval (.const x) = x := fun _ => rfl); (have ef : ∀ x, a1.eval (.func x) = .func (.func x) #[] #[] := fun _ => rfl); generalize a1.eval = ρ at *
          go_simp <;> (intros; first | (exfalso; omega) | rfl)
        · intro vs p hI0 hp
          have hI := Roll.inw_pure (by decide) rfl hI0
          clear hI0
          have h9 : ∃ gk, (vs 8) = .tuple #[.pointer (some ⟨gk, 0, none⟩), .int .i64 0] ∧ (vs 9) = .tuple #[.pointer (some ⟨gk, 0, none⟩), .int .i64 0] := hp 9 (by simp [Lof24])
          have e99 : (Roll.putD Dof24 vs [9] b0).eval (.tmp 99) = vs 9 := (Roll.eval_new 9 rfl (by decide) (by decide) (by omega))
          clear hp hlv hN
          unfold Roll.Goes
          simp only [Lof24, List.getD_cons_zero, List.getD_cons_succ]
          generalize Roll.putD Dof24 vs [9] b0 = a1 at *
          obtain ⟨gk, -, hv⟩ := h9
          rw [hv] at e99
          refine Roll.goes_val (w' := p) (.int .i64 0) rfl ?_ ⟨(Roll.outw_pure (by decide) rfl), rfl⟩
          (have ec : ∀ x, a1.eval (.const x) = x := fun _ => rfl); (have ef : ∀ x, a1.eval (.func x) = .func (.func x) #[] #[] := fun _ => rfl); generalize a1.eval = ρ at *
          go_simp <;> (intros; first | (exfalso; omega) | rfl)
        · intro vs p hI0 hp
          have hI := Roll.inw_pure (by decide) rfl hI0
          clear hI0
          have h10 : ∃ gk, (vs 9) = .tuple #[.pointer (some ⟨gk, 0, none⟩), .int .i64 0] ∧ (vs 10) = .pointer (some ⟨gk, 0, none⟩) := hp 10 (by simp [Lof24])
          have e109 : (Roll.putD Dof24 vs [10] b0).eval (.tmp 109) = vs 10 := (Roll.eval_new 10 rfl (by decide) (by decide) (by omega))
          clear hp hlv hN
          unfold Roll.Goes
          simp only [Lof24, List.getD_cons_zero, List.getD_cons_succ]
          generalize Roll.putD Dof24 vs [10] b0 = a1 at *
          obtain ⟨gk, -, hv⟩ := h10
          rw [hv] at e109
          refine Roll.goes_val (w' := p) (.pointer (some ⟨gk, 0, none⟩)) rfl ?_ ⟨(Roll.outw_pure (by decide) rfl), gk, hv, rfl⟩
          (have ec : ∀ x, a1.eval (.const x) = x := fun _ => rfl); (have ef : ∀ x, a1.eval (.func x) = .func (.func x) #[] #[] := fun _ => rfl); generalize a1.eval = ρ at *
          go_simp <;> (intros; first | (exfalso; omega) | rfl)
        · intro vs p hI0 hp
          have hI := Roll.inw_pure (by decide) rfl hI0
          clear hI0
          have h11 : (vs 11) = .int .i64 0 := hp 11 (by simp [Lof24])
          have e110 : (Roll.putD Dof24 vs [11] b0).eval (.tmp 110) = .int .i64 0 := (Roll.eval_new 11 rfl (by decide) (by decide) (by omega)).trans h11
          clear hp hlv hN
          unfold Roll.Goes
          simp only [Lof24, List.getD_cons_zero, List.getD_cons_succ]
          generalize Roll.putD Dof24 vs [11] b0 = a1 at *
          refine Roll.goes_val (w' := p) (.int .i64 0) rfl ?_ ⟨(Roll.outw_pure (by decide) rfl), rfl⟩
          (have ec : ∀ x, a1.eval (.const x) = x := fun _ => rfl); (have ef : ∀ x, a1.eval (.func x) = .func (.func x) #[] #[] := fun _ => rfl); generalize a1.eval = ρ at *
          clear h11
          go_simp <;> (intros; first | (exfalso; omega) | rfl)
      · intro vs p hI hR
        have h0 : (vs 0) = .pointer (some ⟨gp, 0, none⟩) := hR 0 (by omega)
        have h1 : (vs 1) = .pointer (some ⟨gp, 0, none⟩) := hR 1 (by omega)
        have h2 : (vs 2) = .pointer (some ⟨gp, 0, none⟩) := hR 2 (by omega)
        have h3 : (vs 3) = .pointer (some ⟨g, 0, none⟩) := hR 3 (by omega)
        have h4 : (vs 4) = .pointer (some ⟨gp, 0, none⟩) := hR 4 (by omega)
        have h5 : (vs 5) = .pointer (some ⟨gp, 0, none⟩) := hR 5 (by omega)
        have h6 : (vs 6) = .pointer (some ⟨gp, 2, none⟩) := hR 6 (by omega)
        have h7 : (vs 7) = .int .i64 (n : Int) := hR 7 (by omega)
        have h8 : ∃ gk, (vs 8) = .tuple #[.pointer (some ⟨gk, 0, none⟩), .int .i64 0] := hR 8 (by omega)
        have h9 : ∃ gk, (vs 8) = .tuple #[.pointer (some ⟨gk, 0, none⟩), .int .i64 0] ∧ (vs 9) = .tuple #[.pointer (some ⟨gk, 0, none⟩), .int .i64 0] := hR 9 (by omega)
        have h10 : ∃ gk, (vs 9) = .tuple #[.pointer (some ⟨gk, 0, none⟩), .int .i64 0] ∧ (vs 10) = .pointer (some ⟨gk, 0, none⟩) := hR 10 (by omega)
        have h11 : (vs 11) = .int .i64 0 := hR 11 (by omega)
        have h12 : ∃ gk, (vs 10) = .pointer (some ⟨gk, 0, none⟩) ∧ (vs 12) = .pointer (some ⟨gk, 0, none⟩) := hR 12 (by omega)
        have h13 : (vs 13) = .int .i64 0 := hR 13 (by omega)
        clear hR
        simp only [List.range_succ, List.range_zero, List.nil_append, List.cons_append, Roll.putD, Act.put, List.getD_cons_zero, List.getD_cons_succ, List.setIfInBounds_toArray, List.set_cons_zero, List.set_cons_succ, List.drop_succ_cons, List.drop_zero, Dof24]
        simp only [h0, h1, h2, h3, h4, h5, h6, h7, h11, h13]
        clear h0 h1 h2 h3 h4 h5 h6 h7 h11 h13
        clear h8
        generalize vs 8 = v8 at *; generalize vs 9 = v9 at *; generalize vs 10 = v10 at *; generalize vs 12 = v12 at *
        obtain ⟨gk, rfl, hl8⟩ := hI
        obtain ⟨g9, e8, rfl⟩ := h9
        obtain rfl : g9 = gk := by simpa using e8.symm
        obtain ⟨g10, e9, rfl⟩ := h10
        obtain rfl : g10 = g9 := by simpa using e9.symm
        obtain ⟨g12, e10, rfl⟩ := h12
        obtain rfl : g12 = g10 := by simpa using e10.symm
        clear e8 e9 e10
        have HL9 : Hid (Lv w p (logO g12 g (mOpen 1 n r3 rs) :: [recsO (.slice a1 n1 c1) rs, pastO gp g gl n (.slice none 0 0) 0 false, logO gl g m2, diskO g (cutD d2 [])])) := Lib.hid (by rw [← HMO.out, ← HLST.out]; exact hl8)
        have HG8 : Hid True := Lib.hid trivial
        clear hl8 HL7
        go_wp2_with (first
          | (have x1 := HG8; go_at_call 27; refine (records_lv HL9.out (ii := 0) (m := mOpen 1 n r3 rs) rfl (show rs.length ≤ 100000 by rw [← HN1.out]; exact HRL.out.1) HRL.out.2.1).mono ?_; rintro e w10 ⟨ra, rc, rfl, hl10⟩; rw [show (mOpen 1 n r3 rs).recs.length = rs.length from rfl, ← HN1.out] at hl10 ⊢; have HL10 := Lib.hid hl10; have HG9 := x1; clear hl10 x1 HG8 HL9)
          | (have x1 := HG9; go_at_call 32; obtain ⟨D9, a9, c9, hv9, hrd9⟩ := HL10.out.recsR (i := 0) rfl; obtain ⟨D8, a8, c8, hv8, hrd8⟩ := HL10.out.recsR (i := 2) rfl; rw [show (mOpen 1 n r3 rs).recs = rs from rfl, ← HN1.out] at hv9 hrd9; rw [← HN1.out] at hv8 hrd8; cases hv9; cases hv8; refine (same_any _ _ _ _ _ _ _ _ _ _ _ hrd9 hrd8 HRL.out.2.2.2).mono ?_; rintro e w11 ⟨rfl, hb⟩; rw [show (rs == rs) = true from beq_self_eq_true rs]; have HL11 := Lib.hid (HL10.out.below hb); have HG10 := x1; clear hb hrd9 hrd8 x1 HG9 HL10)
          | (have x1 := HG10; go_at_call 29; refine (room_lv HL11.out (i := 1) (m := mOpen 1 n r3 rs) rfl (show n ≤ 4096 by have := HNB.out.2; omega) (show takR rs ≤ 1000000 by have := HTK.out; omega)).mono ?_; rintro e w12 ⟨rfl, hb⟩; rw [show roomZ (mOpen 1 n r3 rs).n (mOpen 1 n r3 rs).tak = R from HRR.out]; have HL12 := Lib.hid (HL11.out.below hb); have HG11 := x1; clear hb x1 HG10 HL11)
          | (have x1 := HG11; go_at_call 19; refine (lives4_any _).mono ?_; rintro e w13 ⟨rfl, hb⟩; have HZ := Lib.hid (HL12.out.args.trans (hb.mono HL12.out.args.size)); clear hb x1 HG11 HL12))
        go_ret
        exact ⟨rfl, HZ.out⟩
end Go.Proofs.Ythffegfcgmhppaa
namespace Go.Proofs.Ythffegfcgmhppaa
open Go.ChangeShapes Go.WideShapes Go.ChangeAt Go.RowKit
set_option linter.unusedSimpArgs false
set_option linter.unusedVariables false
section
variable {H : Type} {enc : TypeId × Value → H} {W : World} {base : Nat} {held : Bool}
set_option maxRecDepth 100000 in
theorem open_is {base0 : Nat} {v : Value} {d : DataW H} {p : List MemPlace} (hval : Value.okWide Try.prog W .any base0 47 v) (h : DataW.Trod enc Try.prog W base (fun _ => true) held 47 v d p) :
    ∃ a n c l, v = .slice a n c ∧ Is (Old W) W a n c l ∧ Ok64 l := by
  obtain ⟨a1, n1, c1, rfl⟩ := okWide_slice Try.underlying47 hval
  obtain ⟨fuel, hf⟩ := h
  obtain ⟨a, n, c, l, hcs, h1, h2⟩ := ints_of_trod hf
  simp [Value.cells] at hcs
  obtain ⟨rfl, rfl, rfl⟩ := hcs
  exact ⟨_, _, _, l, rfl, h1, h2⟩
end
end Go.Proofs.Ythffegfcgmhppaa

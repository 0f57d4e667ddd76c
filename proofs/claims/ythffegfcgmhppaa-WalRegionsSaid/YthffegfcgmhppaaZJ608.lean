/-
  Texts Q2, H4, R5, G8, one behind the other.
-/
import Derived.WalkKit
import Derived.WalkSpells
import Derived.WalkLawsBesides
import Derived.Laws.AppendOwn
import Derived.Laws.OwnMore
import Derived.Deep.AppendSrc
import Derived.Deep.MidRow
import Derived.Lib.Hide
import Derived.Deep.QuietTactic
import Derived.BigQuiet
import Derived.Laws.ResultCell
import GoSem.Claim
import Derived.Orders
import Derived.Tactics
import Derived.Maps.RangeRun
import Derived.Maps.Range
import Derived.Maps.OwnOps
import Derived.Maps.RangeWalk
import Derived.Deep.Cut
import Derived.Deep.RegionWith
import Derived.Deep.DrawnRows
import Derived.StillTailTactics
import Derived.Carry
import Derived.Laws.CopyOwn
import Derived.Lib.AppendZerosOnto
import Derived.Laws.BytesString
import Derived.Laws.AppendOwnNone
import Derived.ProofKit
import Derived.OpenShut
import Derived.Deep.Slices
import Derived.Deep.Fields
import Derived.JoinedCond
import Derived.Laws.ShiftsVarLaws
import Derived.Laws.BitsAllLaws
import Derived.Test.YthffegfcgmhppaaRows
import Derived.Test.YthffegfcgmhppaaZJ607
namespace Go.Proofs.Ythffegfcgmhppaa
open Go.RowKit
set_option linter.unusedSimpArgs false
set_option linter.unusedVariables false
def Dof24 : List (Option Tmp) := [some 100, some 101, some 102, some 103, some 104, some 105, some 106, some 107, some 108, some 99, some 109, some 110, some 12, some 13]
def Lof24 : List (List Nat) := [[], [0], [1], [2], [], [4], [5], [6], [3, 7], [8], [9], [9], [10], [11]]
theorem GA.congr {F N : Nat} {d d' : DM} {r e : Nat} {rs : List (List UInt8)} (h : GA F N d r e rs) (hS : d'.S = d.S) : GA F N d' r e rs := by
  have hs : ∀ k, sec d' k = sec d k := fun k => by unfold sec; rw [hS]
  obtain ⟨a, b, c, x, y, u, v, z⟩ := h
  refine ⟨by rw [hS]; exact a, fun k hk => ?_, c, ?_, ?_, u, fun i hi t ht => v i hi t (by rw [hs] at ht; exact ht), z⟩
  · rw [hs]; exact b k (by rw [hS] at hk; exact hk)
  · rw [hs]; exact x
  · rw [hs]; exact y
/-- the disk that the power leaves -/
def cutD (d : DM) (ts : List TM) : DM := (d.setFuse 0).restart ts
theorem cutD_ga {F N : Nat} {d : DM} {r e : Nat} {rs : List (List UInt8)} (h : GA F N d r e rs) (ts : List TM) : GA F N (cutD d ts) r e rs := (h.congr (setFuse_S d 0)).restart ts
theorem cutD_on (d : DM) (ts : List TM) : (cutD d ts).on = true := rfl
theorem cutD_len (d : DM) (ts : List TM) : (cutD d ts).S.length = d.S.length := by
  unfold cutD
  rw [restart_len, setFuse_S]
theorem Ts.nil0 (w : World) : Ts (fun _ => False) w none 0 0 [] := ⟨rfl, Sl.empty _ _ _ _ _ (Nat.zero_le _) (fun _ => rfl), fun _ h => by cases h⟩
theorem appE_ok (m : LM) (n : Nat) (R : Nat) (hR : roomZ m.n m.tak = (R : Int)) (h : n ≤ R) (hn : R ≤ 4000) : appE m true n = 0 := by
  unfold appE
  rw [if_neg (by omega), if_neg (by rw [hR]; omega)]
  rfl
theorem appE_full (m : LM) (n : Nat) (R : Nat) (hR : roomZ m.n m.tak = (R : Int)) (h : R < n) (hn : n ≤ 4000) : appE m true n = 9 := by
  unfold appE
  rw [if_neg (by omega), if_pos (by rw [hR]; omega)]
theorem roomZ_bd (n : Nat) (t : Int) : -1 ≤ roomZ n t ∧ roomZ n t ≤ 4000 := by unfold roomZ; omega
set_option maxRecDepth 100000 in
set_option maxHeartbeats 16000000 in
theorem walfills_any (s : Int) (la : Option Addr) (ln lc : Nat) (l : List Int) (w : World) (s1 : -9223372036854775808 ≤ s) (s2 : s ≤ 9223372036854775807) (hI : Is (Old w) w la ln lc l) (hl64 : Ok64 l) :
    Calls Try.prog 7 #[.int .i64 s, .slice la ln lc] w fun e w' => e = .returned (.bool true) ∧ Below w.heap.size w w' := by
  obtain ⟨n, hn⟩ : ∃ n, n = bgN s := ⟨_, rfl⟩
  have hnb := bgN_bd s
  have HBG := Lib.hid (begin_lv (Lv.refl w) s s1 s2)
  rw [← hn] at hnb HBG
  obtain ⟨f1, f2, f3, f4, f5, f6⟩ := bg_fine n hnb.1 hnb.2
  obtain ⟨d0, hd0⟩ : ∃ d0, d0 = bgD n := ⟨_, rfl⟩
  rw [← hd0] at HBG f3 f4 f5 f6
  obtain ⟨m0, hm0⟩ : ∃ m0, m0 = mFresh 1 n := ⟨_, rfl⟩
  rw [← hm0] at HBG f3
  have hq0 : m0.recs = [] ∧ m0.frm = 1 ∧ m0.n = n ∧ m0.syn = 0 := by rw [hm0]; exact ⟨rfl, rfl, rfl, rfl⟩
  have HF0 := Lib.hid f3
  have HQ0 := Lib.hid hq0
  have HON := Lib.hid f4
  have HFU := Lib.hid f5
  have HDL := Lib.hid f6
  have HNB := Lib.hid hnb
  have HI := Lib.hid hI
  have HL64 := Lib.hid hl64
  have HLL := Lib.hid hI.1
  have hlc : ln ≤ lc := hI.2.2.1
  have hlm : lc ≤ 9223372036854775807 := hI.2.2.2.1
  have hbs56 := run_bs56
  clear hI hl64 hn hnb f1 f2 f3 f4 f5 f6 hd0 hm0 hq0
  go_enter Try.func7, Try.ntmps7
  go_upto_region 5 with (go_at_call 23; refine HBG.out.mono ?_; rintro e w1 ⟨gp, g, gl, rfl, hl⟩; have HL1 := Lib.hid hl; clear hl HBG)
  have HLa := Lib.hid HL1.out.recs0
  clear HL1
  go_wp2_with fail
  go_loopw [6, 7] (fun u t wr => ∃ (i : Nat) (v0 : Value) (m : LM), i ≤ 100 ∧ v0 = u ∧ t = .int .i64 (i : Int) ∧ Fine m d0 ∧ (m.frm = 1 ∧ m.n = n) ∧ Lv w wr [recsO v0 m.recs, pastO gp g gl n (.slice none 0 0) 0 false, logO gl g m, diskO g d0]) (fun _ t _ => 100 - (intOf t).toNat)
  case atStart => exact ⟨0, _, m0, Nat.zero_le _, rfl, rfl, HF0.out, ⟨HQ0.out.2.1, HQ0.out.2.2.1⟩, by rw [HQ0.out.1]; exact HLa.out⟩
  case round =>
    clear HLa HF0 HQ0
    obtain ⟨i, v0, m, hi, hv0, rfl, hF, hmf, hL⟩ := hrel
    subst hv0
    have HL := Lib.hid hL
    have hbd := hF.bounds
    have HFI := Lib.hid hF
    have HMF := Lib.hid hmf
    have HMS : Hid (m.n ≤ 4096 ∧ m.tak ≤ 1000000 ∧ m.recs.length ≤ 100000) := Lib.hid (by have := HNB.out; have := hmf.2; omega)
    have q1 := (hL.pastF (i := 1) rfl).2.2.1
    obtain ⟨R, hR⟩ : ∃ R, R = roomZ m.n m.tak := ⟨_, rfl⟩
    have hRb := roomZ_bd m.n m.tak
    rw [← hR] at hRb
    have hRb1 := hRb.1
    have hRb2 := hRb.2
    have HR : Hid (roomZ m.n m.tak = R) := Lib.hid hR.symm
    have HG1 : Hid True := Lib.hid trivial
    clear hF hmf hL hbd hR hRb
    by_cases hlt : i < 100
    · have hn3 : (i : Int) < 100 := by omega
      have hwi : IntKind.i64.wrap ((i : Int) + 1) = (i : Int) + 1 := i64_id _ (by omega) (by omega)
      by_cases hR0 : 0 ≤ R
      · obtain ⟨RN, hRN⟩ : ∃ RN : Nat, R = (RN : Int) := ⟨R.toNat, by omega⟩
        subst hRN
        have hRN2 : RN ≤ 4000 := by omega
        by_cases hln : i < ln
        · by_cases hi2 : 20 ≤ i
          · have hil : i < l.length := by rw [HLL.out]; exact hln
            have hln2 : (i : Int) < (ln : Int) := by omega
            obtain ⟨x, hx⟩ : ∃ x, x = l[i]'hil := ⟨_, rfl⟩
            have hxb := HL64.out x (by rw [hx]; exact List.getElem_mem _)
            obtain ⟨K0, hK0, hK1⟩ := around_nat x 200 (by omega)
            obtain ⟨b, off, -, hbs, rfl, hcell0⟩ := HI.out.cells (by omega)
            have hcell := hcell0 i hil
            rw [← hx] at hcell
            have HCL : Hid (∀ u, Below w.heap.size w u → u.cell? ⟨b, off + i, none⟩ = some (.int .i64 x)) := Lib.hid (fun u hu => (hu.cell (p := ⟨b, off + i, none⟩) hbs).trans hcell)
            have HAR : Hid (∀ u, Calls Try.prog 9 #[.int .i64 x, .int .i64 200] u fun e w' => e = .returned (.int .i64 (K0 : Int)) ∧ u = w') := Lib.hid (fun u => by rw [← hK0]; exact around_any x 200 u hxb.1 hxb.2 (by omega) (by omega))
            clear hx hcell hcell0 hK0
            have hi20 : (20 : Int) ≤ (i : Int) := by omega
            have hK4 : RN ≤ 4000 := by omega
            obtain ⟨RB, hRB⟩ : ∃ RB, RB = bytesB RN (i : Int) := ⟨_, rfl⟩
            have HRBL : Hid (RB.length = RN) := Lib.hid (by rw [hRB]; exact bytesB_len _ _)
            have HBY : Hid (∀ u, Calls Try.prog 31 #[.int .i64 (RN : Int), .int .i64 (i : Int)] u fun e w' => ∃ v, e = .returned v ∧ Made u v RB w') := Lib.hid (fun u => by rw [hRB]; exact bytes1_any RN (i : Int) u (by omega) (by omega) (by omega))
            clear hRB
            have hkr : RN ≤ RN := Nat.le_refl _
            have hkr2 : (RN : Int) ≤ (RN : Int) := by omega
            have HEA : Hid (appE m true RN = 0) := Lib.hid (appE_ok m RN RN HR.out hkr hRN2)
            have HAF := Lib.hid (append_fine HFI.out RB true (by rw [HRBL.out]; exact HEA.out))
            clear hkr
            go_wp2_with (first
                | (have x1 := HG1; go_at_call 29; refine (room_lv HL.out (i := 2) (m := m) rfl HMS.out.1 HMS.out.2.1).mono ?_; rintro e w2 ⟨rfl, hb⟩; rw [HR.out]; have HL2 := Lib.hid (HL.out.below hb); have q2 := (HL2.out.pastF (i := 1) rfl).2.2.1; have k2 := HCL.out w2 HL2.out.args; have HG2 := x1; clear hb x1 HG1 HL)
                | (go_at_call 9; refine (HAR.out _).mono ?_; rintro e w9 ⟨rfl, rfl⟩)
                | (have x1 := HG2; go_at_call 29; refine (room_lv HL2.out (i := 2) (m := m) rfl HMS.out.1 HMS.out.2.1).mono ?_; rintro e w3 ⟨rfl, hb⟩; rw [HR.out]; have HL3 := Lib.hid (HL2.out.below hb); have HG3 := x1; clear hb x1 HG2 HL2)
                | (have x1 := HG3; go_at_call 31; refine (HBY.out _).mono ?_; rintro e w4 ⟨v4, rfl, hm⟩; have hl4 := HL3.out.made hm; obtain ⟨ba, bc, rfl, hbb⟩ := hm.bs; rw [HRBL.out] at hbb hl4 ⊢; have HL4 := Lib.hid hl4; have HBB := Lib.hid hbb; have q4 := (HL4.out.pastF (i := 2) rfl).2.2.1; clear hm hl4 hbb x1 HG3 HL3)
                | (have x1 := HL4.out; go_at_call 15; refine (append_lv x1 (i := 3) (j := 4) (m := m) (d := d0) rfl rfl HBB.out HMS.out.1 HMS.out.2.1 (by omega) HMS.out.2.2).mono ?_; rintro e w5 ⟨rfl, hl5⟩; rw [HON.out] at hl5 ⊢; rw [HEA.out]; have HL5 := Lib.hid hl5; have HL6 : Hid (Lv w (w5.alloc (.cells #[.slice ba RN bc] 32)) [bytesO (.slice ba RN bc) RB, recsO v0 m.recs, pastO gp g gl n (.slice none 0 0) 0 false, logO gl g (appM m true RB), diskO g d0]) := Lib.hid (hl5.below ((Below.refl _ _).alloc (Nat.le_refl _) _)); have HSRC : Hid (Src Try.prog 1 30 (.slice (some ⟨w5.heap.size, 0, none⟩) 1 1) 1 [.slice ba RN bc] (w5.alloc (.cells #[.slice ba RN bc] 32))) := Lib.hid (src_one Try.underlying30 (heap_new rfl)); clear hl5 x1 HL4)
                | (at_builtin; refine wpList_racc HL6.out (i := 1) (j := 0) (by omega) rfl rfl rfl (.tmp 64) (.tmp 66) rfl rfl HSRC.out (by have := HMS.out.2.2; omega) ?_; clear HL6 HSRC; intro a7 c7 w7 hl7; have HL7 := Lib.hid hl7; clear hl7))
            go_roundw
            case rel => exact ⟨i + 1, _, appM m true RB, by omega, rfl, by go_num, HAF.out.1, ⟨HAF.out.2.2.2.1.trans HMF.out.1, HAF.out.2.2.2.2.trans HMF.out.2⟩, by rw [HAF.out.2.1]; exact HL7.out.tail⟩
            case measure => simp [intOf]; omega
          · have hil : i < l.length := by rw [HLL.out]; exact hln
            have hln2 : (i : Int) < (ln : Int) := by omega
            obtain ⟨x, hx⟩ : ∃ x, x = l[i]'hil := ⟨_, rfl⟩
            have hxb := HL64.out x (by rw [hx]; exact List.getElem_mem _)
            obtain ⟨K0, hK0, hK1⟩ := around_nat x 200 (by omega)
            obtain ⟨b, off, -, hbs, rfl, hcell0⟩ := HI.out.cells (by omega)
            have hcell := hcell0 i hil
            rw [← hx] at hcell
            have HCL : Hid (∀ u, Below w.heap.size w u → u.cell? ⟨b, off + i, none⟩ = some (.int .i64 x)) := Lib.hid (fun u hu => (hu.cell (p := ⟨b, off + i, none⟩) hbs).trans hcell)
            have HAR : Hid (∀ u, Calls Try.prog 9 #[.int .i64 x, .int .i64 200] u fun e w' => e = .returned (.int .i64 (K0 : Int)) ∧ u = w') := Lib.hid (fun u => by rw [← hK0]; exact around_any x 200 u hxb.1 hxb.2 (by omega) (by omega))
            clear hx hcell hcell0 hK0
            have hi20 : (i : Int) < 20 := by omega
            have hK4 : K0 ≤ 4000 := by omega
            obtain ⟨RB, hRB⟩ : ∃ RB, RB = bytesB K0 (i : Int) := ⟨_, rfl⟩
            have HRBL : Hid (RB.length = K0) := Lib.hid (by rw [hRB]; exact bytesB_len _ _)
            have HBY : Hid (∀ u, Calls Try.prog 31 #[.int .i64 (K0 : Int), .int .i64 (i : Int)] u fun e w' => ∃ v, e = .returned v ∧ Made u v RB w') := Lib.hid (fun u => by rw [hRB]; exact bytes1_any K0 (i : Int) u (by omega) (by omega) (by omega))
            clear hRB
            by_cases hkr : K0 ≤ RN
            · have hkr2 : (K0 : Int) ≤ (RN : Int) := by omega
              have HEA : Hid (appE m true K0 = 0) := Lib.hid (appE_ok m K0 RN HR.out hkr hRN2)
              have HAF := Lib.hid (append_fine HFI.out RB true (by rw [HRBL.out]; exact HEA.out))
              clear hkr
              go_wp2_with (first
                | (have x1 := HG1; go_at_call 29; refine (room_lv HL.out (i := 2) (m := m) rfl HMS.out.1 HMS.out.2.1).mono ?_; rintro e w2 ⟨rfl, hb⟩; rw [HR.out]; have HL2 := Lib.hid (HL.out.below hb); have q2 := (HL2.out.pastF (i := 1) rfl).2.2.1; have k2 := HCL.out w2 HL2.out.args; have HG2 := x1; clear hb x1 HG1 HL)
                | (go_at_call 9; refine (HAR.out _).mono ?_; rintro e w9 ⟨rfl, rfl⟩)
                | (have x1 := HG2; go_at_call 29; refine (room_lv HL2.out (i := 2) (m := m) rfl HMS.out.1 HMS.out.2.1).mono ?_; rintro e w3 ⟨rfl, hb⟩; rw [HR.out]; have HL3 := Lib.hid (HL2.out.below hb); have HG3 := x1; clear hb x1 HG2 HL2)
                | (have x1 := HG3; go_at_call 31; refine (HBY.out _).mono ?_; rintro e w4 ⟨v4, rfl, hm⟩; have hl4 := HL3.out.made hm; obtain ⟨ba, bc, rfl, hbb⟩ := hm.bs; rw [HRBL.out] at hbb hl4 ⊢; have HL4 := Lib.hid hl4; have HBB := Lib.hid hbb; have q4 := (HL4.out.pastF (i := 2) rfl).2.2.1; clear hm hl4 hbb x1 HG3 HL3)
                | (have x1 := HL4.out; go_at_call 15; refine (append_lv x1 (i := 3) (j := 4) (m := m) (d := d0) rfl rfl HBB.out HMS.out.1 HMS.out.2.1 (by omega) HMS.out.2.2).mono ?_; rintro e w5 ⟨rfl, hl5⟩; rw [HON.out] at hl5 ⊢; rw [HEA.out]; have HL5 := Lib.hid hl5; have HL6 : Hid (Lv w (w5.alloc (.cells #[.slice ba K0 bc] 32)) [bytesO (.slice ba K0 bc) RB, recsO v0 m.recs, pastO gp g gl n (.slice none 0 0) 0 false, logO gl g (appM m true RB), diskO g d0]) := Lib.hid (hl5.below ((Below.refl _ _).alloc (Nat.le_refl _) _)); have HSRC : Hid (Src Try.prog 1 30 (.slice (some ⟨w5.heap.size, 0, none⟩) 1 1) 1 [.slice ba K0 bc] (w5.alloc (.cells #[.slice ba K0 bc] 32))) := Lib.hid (src_one Try.underlying30 (heap_new rfl)); clear hl5 x1 HL4)
                | (at_builtin; refine wpList_racc HL6.out (i := 1) (j := 0) (by omega) rfl rfl rfl (.tmp 64) (.tmp 66) rfl rfl HSRC.out (by have := HMS.out.2.2; omega) ?_; clear HL6 HSRC; intro a7 c7 w7 hl7; have HL7 := Lib.hid hl7; clear hl7))
              go_roundw
              case rel => exact ⟨i + 1, _, appM m true RB, by omega, rfl, by go_num, HAF.out.1, ⟨HAF.out.2.2.2.1.trans HMF.out.1, HAF.out.2.2.2.2.trans HMF.out.2⟩, by rw [HAF.out.2.1]; exact HL7.out.tail⟩
              case measure => simp [intOf]; omega
            · have hkr2 : (RN : Int) < (K0 : Int) := by omega
              have HEA : Hid (appE m true K0 = 9) := Lib.hid (appE_full m K0 RN HR.out (by omega) hK4)
              have HAM : Hid (appM m true RB = m) := Lib.hid (by unfold appM; rw [HRBL.out, if_neg (by rw [HEA.out]; omega)])
              clear hkr
              go_wp2_with (first
                | (have x1 := HG1; go_at_call 29; refine (room_lv HL.out (i := 2) (m := m) rfl HMS.out.1 HMS.out.2.1).mono ?_; rintro e w2 ⟨rfl, hb⟩; rw [HR.out]; have HL2 := Lib.hid (HL.out.below hb); have q2 := (HL2.out.pastF (i := 1) rfl).2.2.1; have k2 := HCL.out w2 HL2.out.args; have HG2 := x1; clear hb x1 HG1 HL)
                | (go_at_call 9; refine (HAR.out _).mono ?_; rintro e w9 ⟨rfl, rfl⟩)
                | (have x1 := HG2; go_at_call 29; refine (room_lv HL2.out (i := 2) (m := m) rfl HMS.out.1 HMS.out.2.1).mono ?_; rintro e w3 ⟨rfl, hb⟩; rw [HR.out]; have HL3 := Lib.hid (HL2.out.below hb); have HG3 := x1; clear hb x1 HG2 HL2)
                | (have x1 := HG3; go_at_call 31; refine (HBY.out _).mono ?_; rintro e w4 ⟨v4, rfl, hm⟩; have hl4 := HL3.out.made hm; obtain ⟨ba, bc, rfl, hbb⟩ := hm.bs; rw [HRBL.out] at hbb hl4 ⊢; have HL4 := Lib.hid hl4; have HBB := Lib.hid hbb; have q4 := (HL4.out.pastF (i := 2) rfl).2.2.1; clear hm hl4 hbb x1 HG3 HL3)
                | (have x1 := HL4.out; go_at_call 15; refine (append_lv x1 (i := 3) (j := 4) (m := m) (d := d0) rfl rfl HBB.out HMS.out.1 HMS.out.2.1 (by omega) HMS.out.2.2).mono ?_; rintro e w5 ⟨rfl, hl5⟩; rw [HON.out] at hl5 ⊢; rw [HEA.out]; have HL5 := Lib.hid hl5; clear hl5 x1 HL4))
              go_roundw
              case rel => exact ⟨i + 1, v0, m, by omega, rfl, by go_num, HFI.out, HMF.out, by have h9 := HL5.out; rw [HAM.out] at h9; exact h9.tail⟩
              case measure => simp [intOf]; omega
        · by_cases hi2 : 20 ≤ i
          · have hln2 : (ln : Int) ≤ (i : Int) := by omega
            have hi20 : (20 : Int) ≤ (i : Int) := by omega
            have hK4 : RN ≤ 4000 := by omega
            obtain ⟨RB, hRB⟩ : ∃ RB, RB = bytesB RN (i : Int) := ⟨_, rfl⟩
            have HRBL : Hid (RB.length = RN) := Lib.hid (by rw [hRB]; exact bytesB_len _ _)
            have HBY : Hid (∀ u, Calls Try.prog 31 #[.int .i64 (RN : Int), .int .i64 (i : Int)] u fun e w' => ∃ v, e = .returned v ∧ Made u v RB w') := Lib.hid (fun u => by rw [hRB]; exact bytes1_any RN (i : Int) u (by omega) (by omega) (by omega))
            clear hRB
            have hkr : RN ≤ RN := Nat.le_refl _
            have hkr2 : (RN : Int) ≤ (RN : Int) := by omega
            have HEA : Hid (appE m true RN = 0) := Lib.hid (appE_ok m RN RN HR.out hkr hRN2)
            have HAF := Lib.hid (append_fine HFI.out RB true (by rw [HRBL.out]; exact HEA.out))
            clear hkr
            go_wp2_with (first
                | (have x1 := HG1; go_at_call 29; refine (room_lv HL.out (i := 2) (m := m) rfl HMS.out.1 HMS.out.2.1).mono ?_; rintro e w2 ⟨rfl, hb⟩; rw [HR.out]; have HL2 := Lib.hid (HL.out.below hb); have q2 := (HL2.out.pastF (i := 1) rfl).2.2.1; have HG2 := x1; clear hb x1 HG1 HL)
                | (have x1 := HG2; go_at_call 29; refine (room_lv HL2.out (i := 2) (m := m) rfl HMS.out.1 HMS.out.2.1).mono ?_; rintro e w3 ⟨rfl, hb⟩; rw [HR.out]; have HL3 := Lib.hid (HL2.out.below hb); have HG3 := x1; clear hb x1 HG2 HL2)
                | (have x1 := HG3; go_at_call 31; refine (HBY.out _).mono ?_; rintro e w4 ⟨v4, rfl, hm⟩; have hl4 := HL3.out.made hm; obtain ⟨ba, bc, rfl, hbb⟩ := hm.bs; rw [HRBL.out] at hbb hl4 ⊢; have HL4 := Lib.hid hl4; have HBB := Lib.hid hbb; have q4 := (HL4.out.pastF (i := 2) rfl).2.2.1; clear hm hl4 hbb x1 HG3 HL3)
                | (have x1 := HL4.out; go_at_call 15; refine (append_lv x1 (i := 3) (j := 4) (m := m) (d := d0) rfl rfl HBB.out HMS.out.1 HMS.out.2.1 (by omega) HMS.out.2.2).mono ?_; rintro e w5 ⟨rfl, hl5⟩; rw [HON.out] at hl5 ⊢; rw [HEA.out]; have HL5 := Lib.hid hl5; have HL6 : Hid (Lv w (w5.alloc (.cells #[.slice ba RN bc] 32)) [bytesO (.slice ba RN bc) RB, recsO v0 m.recs, pastO gp g gl n (.slice none 0 0) 0 false, logO gl g (appM m true RB), diskO g d0]) := Lib.hid (hl5.below ((Below.refl _ _).alloc (Nat.le_refl _) _)); have HSRC : Hid (Src Try.prog 1 30 (.slice (some ⟨w5.heap.size, 0, none⟩) 1 1) 1 [.slice ba RN bc] (w5.alloc (.cells #[.slice ba RN bc] 32))) := Lib.hid (src_one Try.underlying30 (heap_new rfl)); clear hl5 x1 HL4)
                | (at_builtin; refine wpList_racc HL6.out (i := 1) (j := 0) (by omega) rfl rfl rfl (.tmp 64) (.tmp 66) rfl rfl HSRC.out (by have := HMS.out.2.2; omega) ?_; clear HL6 HSRC; intro a7 c7 w7 hl7; have HL7 := Lib.hid hl7; clear hl7))
            go_roundw
            case rel => exact ⟨i + 1, _, appM m true RB, by omega, rfl, by go_num, HAF.out.1, ⟨HAF.out.2.2.2.1.trans HMF.out.1, HAF.out.2.2.2.2.trans HMF.out.2⟩, by rw [HAF.out.2.1]; exact HL7.out.tail⟩
            case measure => simp [intOf]; omega
          · have hln2 : (ln : Int) ≤ (i : Int) := by omega
            have hi20 : (i : Int) < 20 := by omega
            have hK4 : 1 ≤ 4000 := by omega
            obtain ⟨RB, hRB⟩ : ∃ RB, RB = bytesB 1 (i : Int) := ⟨_, rfl⟩
            have HRBL : Hid (RB.length = 1) := Lib.hid (by rw [hRB]; exact bytesB_len _ _)
            have HBY : Hid (∀ u, Calls Try.prog 31 #[.int .i64 1, .int .i64 (i : Int)] u fun e w' => ∃ v, e = .returned v ∧ Made u v RB w') := Lib.hid (fun u => by rw [hRB]; exact bytes1_any 1 (i : Int) u (by omega) (by omega) (by omega))
            clear hRB
            by_cases hkr : 1 ≤ RN
            · have hkr2 : 1 ≤ (RN : Int) := by omega
              have HEA : Hid (appE m true 1 = 0) := Lib.hid (appE_ok m 1 RN HR.out hkr hRN2)
              have HAF := Lib.hid (append_fine HFI.out RB true (by rw [HRBL.out]; exact HEA.out))
              clear hkr
              go_wp2_with (first
                | (have x1 := HG1; go_at_call 29; refine (room_lv HL.out (i := 2) (m := m) rfl HMS.out.1 HMS.out.2.1).mono ?_; rintro e w2 ⟨rfl, hb⟩; rw [HR.out]; have HL2 := Lib.hid (HL.out.below hb); have q2 := (HL2.out.pastF (i := 1) rfl).2.2.1; have HG2 := x1; clear hb x1 HG1 HL)
                | (have x1 := HG2; go_at_call 29; refine (room_lv HL2.out (i := 2) (m := m) rfl HMS.out.1 HMS.out.2.1).mono ?_; rintro e w3 ⟨rfl, hb⟩; rw [HR.out]; have HL3 := Lib.hid (HL2.out.below hb); have HG3 := x1; clear hb x1 HG2 HL2)
                | (have x1 := HG3; go_at_call 31; refine (HBY.out _).mono ?_; rintro e w4 ⟨v4, rfl, hm⟩; have hl4 := HL3.out.made hm; obtain ⟨ba, bc, rfl, hbb⟩ := hm.bs; rw [HRBL.out] at hbb hl4 ⊢; have HL4 := Lib.hid hl4; have HBB := Lib.hid hbb; have q4 := (HL4.out.pastF (i := 2) rfl).2.2.1; clear hm hl4 hbb x1 HG3 HL3)
                | (have x1 := HL4.out; go_at_call 15; refine (append_lv x1 (i := 3) (j := 4) (m := m) (d := d0) rfl rfl HBB.out HMS.out.1 HMS.out.2.1 (by omega) HMS.out.2.2).mono ?_; rintro e w5 ⟨rfl, hl5⟩; rw [HON.out] at hl5 ⊢; rw [HEA.out]; have HL5 := Lib.hid hl5; have HL6 : Hid (Lv w (w5.alloc (.cells #[.slice ba 1 bc] 32)) [bytesO (.slice ba 1 bc) RB, recsO v0 m.recs, pastO gp g gl n (.slice none 0 0) 0 false, logO gl g (appM m true RB), diskO g d0]) := Lib.hid (hl5.below ((Below.refl _ _).alloc (Nat.le_refl _) _)); have HSRC : Hid (Src Try.prog 1 30 (.slice (some ⟨w5.heap.size, 0, none⟩) 1 1) 1 [.slice ba 1 bc] (w5.alloc (.cells #[.slice ba 1 bc] 32))) := Lib.hid (src_one Try.underlying30 (heap_new rfl)); clear hl5 x1 HL4)
                | (at_builtin; refine wpList_racc HL6.out (i := 1) (j := 0) (by omega) rfl rfl rfl (.tmp 64) (.tmp 66) rfl rfl HSRC.out (by have := HMS.out.2.2; omega) ?_; clear HL6 HSRC; intro a7 c7 w7 hl7; have HL7 := Lib.hid hl7; clear hl7))
              go_roundw
              case rel => exact ⟨i + 1, _, appM m true RB, by omega, rfl, by go_num, HAF.out.1, ⟨HAF.out.2.2.2.1.trans HMF.out.1, HAF.out.2.2.2.2.trans HMF.out.2⟩, by rw [HAF.out.2.1]; exact HL7.out.tail⟩
              case measure => simp [intOf]; omega
            · have hkr2 : (RN : Int) < 1 := by omega
              have HEA : Hid (appE m true 1 = 9) := Lib.hid (appE_full m 1 RN HR.out (by omega) hK4)
              have HAM : Hid (appM m true RB = m) := Lib.hid (by unfold appM; rw [HRBL.out, if_neg (by rw [HEA.out]; omega)])
              clear hkr
              go_wp2_with (first
                | (have x1 := HG1; go_at_call 29; refine (room_lv HL.out (i := 2) (m := m) rfl HMS.out.1 HMS.out.2.1).mono ?_; rintro e w2 ⟨rfl, hb⟩; rw [HR.out]; have HL2 := Lib.hid (HL.out.below hb); have q2 := (HL2.out.pastF (i := 1) rfl).2.2.1; have HG2 := x1; clear hb x1 HG1 HL)
                | (have x1 := HG2; go_at_call 29; refine (room_lv HL2.out (i := 2) (m := m) rfl HMS.out.1 HMS.out.2.1).mono ?_; rintro e w3 ⟨rfl, hb⟩; rw [HR.out]; have HL3 := Lib.hid (HL2.out.below hb); have HG3 := x1; clear hb x1 HG2 HL2)
                | (have x1 := HG3; go_at_call 31; refine (HBY.out _).mono ?_; rintro e w4 ⟨v4, rfl, hm⟩; have hl4 := HL3.out.made hm; obtain ⟨ba, bc, rfl, hbb⟩ := hm.bs; rw [HRBL.out] at hbb hl4 ⊢; have HL4 := Lib.hid hl4; have HBB := Lib.hid hbb; have q4 := (HL4.out.pastF (i := 2) rfl).2.2.1; clear hm hl4 hbb x1 HG3 HL3)
                | (have x1 := HL4.out; go_at_call 15; refine (append_lv x1 (i := 3) (j := 4) (m := m) (d := d0) rfl rfl HBB.out HMS.out.1 HMS.out.2.1 (by omega) HMS.out.2.2).mono ?_; rintro e w5 ⟨rfl, hl5⟩; rw [HON.out] at hl5 ⊢; rw [HEA.out]; have HL5 := Lib.hid hl5; clear hl5 x1 HL4))
              go_roundw
              case rel => exact ⟨i + 1, v0, m, by omega, rfl, by go_num, HFI.out, HMF.out, by have h9 := HL5.out; rw [HAM.out] at h9; exact h9.tail⟩
              case measure => simp [intOf]; omega
      · have hR0' : R < 0 := by omega
        have HRR : Hid (roomZ n ((takR m.recs : Nat) : Int) = R) := Lib.hid (by rw [← HMF.out.2, ← HFI.out.tak]; exact HR.out)
        obtain ⟨z1, z2⟩ := sync_fine HFI.out
        obtain ⟨z3, z4, z5⟩ := sync_nf m d0 HON.out HFU.out
        have z6 : Fine (syncR m d0).2.1 (syncR m d0).2.2 ∧ (syncR m d0).2.1.recs = m.recs ∧ (syncR m d0).2.1.syn = m.recs.length ∧ (syncR m d0).2.1.frm = m.frm ∧ (syncR m d0).2.1.n = m.n := by
          rcases z2 with ⟨-, y2, y3, y4, y5, y6⟩ | ⟨y1, -⟩
          · exact ⟨y2, y3, y4, y5, y6⟩
          · rw [y1] at z3; exact absurd z3 (by omega)
        obtain ⟨y2, y3, y4, y5, y6⟩ := z6
        have hga : GA 1 n (syncR m d0).2.2 (syncR m d0).2.1.rnd (syncR m d0).2.1.en m.recs := by
          have := y2.ga
          rw [y3, y4, y5, y6, HMF.out.1, HMF.out.2, List.take_of_length_le (Nat.le_refl _)] at this
          exact this
        have HSY : Hid (∀ u, Lv w u [recsO v0 m.recs, pastO gp g gl n (.slice none 0 0) 0 false, logO gl g m, diskO g d0] → Calls Try.prog 16 #[.pointer (some ⟨gl, 0, none⟩)] u fun x w' => x = .returned (.int .i64 0) ∧ Lv w w' [recsO v0 m.recs, pastO gp g gl n (.slice none 0 0) 0 false, logO gl g (syncR m d0).2.1, diskO g (syncR m d0).2.2]) := Lib.hid (fun u hl => by
          have hf := HFI.out
          have hb := hf.bounds
          have h1 := HMF.out
          have h2 := HNB.out
          have h3 := HDL.out
          have h4 := hf.addLen
          obtain ⟨b1, b2, b3⟩ := lenB_facts m.recs
          have := sync_lv hl (i := 2) (j := 3) (m := m) (d := d0) rfl rfl (by omega) hf.ga.rb (by rw [h3, h1.1]; omega) (hf.ok.mono (by omega)) hf.syn (fun r hr => by have := b1 r hr; omega) (by omega) (by omega) (by rw [h3, h1.1]; omega)
          rw [z3] at this
          exact this)
        obtain ⟨m2, hm2⟩ : ∃ m2, m2 = (syncR m d0).2.1 := ⟨_, rfl⟩
        obtain ⟨d2, hd2⟩ : ∃ d2, d2 = (syncR m d0).2.2 := ⟨_, rfl⟩
        rw [← hm2, ← hd2] at HSY hga
        have HGA := Lib.hid (cutD_ga hga [])
        obtain ⟨r3, hr3⟩ : ∃ r3, r3 = m2.rnd := ⟨_, rfl⟩
        obtain ⟨e3, he3⟩ : ∃ e3, e3 = m2.en := ⟨_, rfl⟩
        rw [← hr3, ← he3] at HGA
        have HTK0 : Hid (takR m.recs ≤ 1000000) := Lib.hid (by have hb := HFI.out.bounds; have h5 := HFI.out.tak; omega)
        have HRL : Hid (m.recs.length ≤ 100000 ∧ (∀ r ∈ m.recs, r.length ≤ 1000000) ∧ takR m.recs ≤ 1000000000 ∧ m.recs.length ≤ 1000000) := Lib.hid (by have hb := HFI.out.bounds; have h5 := HFI.out.tak; obtain ⟨b1, b2, b3⟩ := lenB_facts m.recs; exact ⟨by omega, fun r hr => by have := b1 r hr; omega, by omega, by omega⟩)
        obtain ⟨rs, hrs⟩ : ∃ rs, rs = m.recs := ⟨_, rfl⟩
        rw [← hrs] at HSY HGA HRL HL HRR HTK0
        have HTK := HTK0
        obtain ⟨D1, a1, c1, hv1, hrd1⟩ := HL.out.recsR (i := 0) rfl
        subst hv1
        have ha1c := hrd1.2.1
        have ha1m := hrd1.2.2.1
        clear hrd1
        obtain ⟨n1, hn1⟩ : ∃ n1, n1 = rs.length := ⟨_, rfl⟩
        rw [← hn1] at HSY HL ha1c HRL ⊢
        have HN1 := Lib.hid hn1
        obtain ⟨LST, hLST⟩ : ∃ LST, LST = [recsO (.slice a1 n1 c1) rs, pastO gp g gl n (.slice none 0 0) 0 false, logO gl g m2, diskO g (cutD d2 [])] := ⟨_, rfl⟩
        obtain ⟨MO, hMO⟩ : ∃ MO, MO = mOpen 1 n r3 rs := ⟨_, rfl⟩
        have HOP : Hid (∀ u, Lv w u LST → Calls Try.prog 18 #[.pointer (some ⟨g, 0, none⟩), .int .i64 1, .int .i64 (n : Int)] u fun x w' => ∃ gk, x = .returned (.tuple #[.pointer (some ⟨gk, 0, none⟩), .int .i64 0]) ∧ Lv w w' (logO gk g MO :: LST)) := Lib.hid (fun u hl => by rw [hLST] at hl ⊢; rw [hMO]; exact open_ga hl (j := 3) rfl HGA.out (show 1 ≤ 4096 by omega) HNB.out.1 (show n ≤ 200 by have := HNB.out.2; omega) (cutD_on _ _))
        have HPC : Hid (∀ u, Lv w u LST → u.cell? ⟨gp, 0, none⟩ = some (.pointer (some ⟨g, 0, none⟩)) ∧ u.cell? ⟨gp, 2, none⟩ = some (.int .i64 (n : Int))) := Lib.hid (fun u hl => by rw [hLST] at hl; have := hl.pastF (i := 1) rfl; exact ⟨this.2.1, this.2.2.2.1⟩)
        have HLST := Lib.hid hLST
        have HMO := Lib.hid hMO
        clear hLST hMO
        have HRM : Hid (∀ u, Lv w u [recsO (.slice a1 n1 c1) rs, pastO gp g gl n (.slice none 0 0) 0 false, logO gl g m, diskO g d0] → Calls Try.prog 30 #[.int .i64 (n : Int), .slice a1 n1 c1] u fun x w' => x = .returned (.int .i64 R) ∧ u = w') := Lib.hid (fun u hl => by
          obtain ⟨D9, a9, c9, hv9, hrd9⟩ := hl.recsR (i := 0) rfl
          rw [← HN1.out] at hv9 hrd9
          cases hv9
          rw [← HRR.out]
          exact rroom_any D9 a1 n1 c1 n rs u hrd9 (by have := HNB.out.2; omega) HRL.out.2.2.1 HRL.out.2.2.2 HRL.out.2.1)
        have HGB : Hid True := Lib.hid trivial
        clear z1 z2 z3 z4 z5 y2 y3 y4 y5 y6 hga hm2 hd2 hr3 he3 hrs hn1 HI
        go_upto_region 24 with (first
          | (have x1 := HG1; go_at_call 29; refine (room_lv HL.out (i := 2) (m := m) rfl HMS.out.1 HMS.out.2.1).mono ?_; rintro e w2 ⟨rfl, hb⟩; rw [HR.out]; have HL2 := Lib.hid (HL.out.below hb); have q2 := (HL2.out.pastF (i := 1) rfl).2.2.1; have HG2 := x1; clear hb x1 HG1 HL)
          | (have x1 := HG2; go_at_call 29; refine (room_lv HL2.out (i := 2) (m := m) rfl HMS.out.1 HMS.out.2.1).mono ?_; rintro e w3 ⟨rfl, hb⟩; rw [HR.out]; have HL3 := Lib.hid (HL2.out.below hb); obtain ⟨-, -, q3, n3, -, -, -⟩ := HL3.out.pastF (i := 1) rfl; have HG3 := x1; clear hb x1 HG2 HL2)
          | (have x1 := HG3; go_at_call 30; refine (HRM.out _ HL3.out).mono ?_; rintro e w4 ⟨rfl, rfl⟩; have HG4 := x1; clear x1 HG3)
          | (have x1 := HG4; go_at_call 16; refine (HSY.out _ HL3.out).mono ?_; rintro e w5 ⟨rfl, hl5⟩; have HL5 := Lib.hid hl5; have q5 := (HL5.out.pastF (i := 1) rfl).2.1; have HG5 := x1; clear hl5 x1 HG4 HL3)
          | (have x1 := HG5; go_at_call 21; refine (fuse_lv HL5.out (i := 3) (d := d2) rfl 0 (by omega) (by omega)).mono ?_; rintro e w6 ⟨rfl, hl6⟩; have HL6 := Lib.hid hl6; have q6 := (HL6.out.pastF (i := 1) rfl).2.1; have HG6 := x1; clear hl6 x1 HG5 HL5)
          | (have x1 := HG6; go_at_call 28; refine (restart_lv HL6.out (i := 3) (d := d2.setFuse 0) rfl (Ts.nil0 _) (.inl (fun _ h => h.elim))).mono ?_; rintro e w7 ⟨rfl, hl7⟩; have HL7 : Hid (Lv w w7 LST) := Lib.hid (by rw [HLST.out]; exact hl7); have HG7 := x1; clear hl7 x1 HG6 HL6))
        refine Roll.region_v 14 132 Dof24 Lof24 [(5, .pointer (some ⟨gp, 0, none⟩))] 8 [true, true, true, false, true, true, true, false, false, true, true, true, true, true] (fun p => Lv w p LST) (fun vv p => ∃ gk, vv = .tuple #[.pointer (some ⟨gk, 0, none⟩), .int .i64 0] ∧ Lv w p (logO gk g MO :: LST)) (fun p => True) (fun _ _ => True) [fun vv p => (vv 0) = .pointer (some ⟨gp, 0, none⟩), fun vv p => (vv 1) = .pointer (some ⟨gp, 0, none⟩), fun vv p => (vv 2) = .pointer (some ⟨gp, 0, none⟩), fun vv p => (vv 3) = .pointer (some ⟨g, 0, none⟩), fun vv p => (vv 4) = .pointer (some ⟨gp, 0, none⟩), fun vv p => (vv 5) = .pointer (some ⟨gp, 0, none⟩), fun vv p => (vv 6) = .pointer (some ⟨gp, 2, none⟩), fun vv p => (vv 7) = .int .i64 (n : Int), fun vv p => ∃ gk, (vv 8) = .tuple #[.pointer (some ⟨gk, 0, none⟩), .int .i64 0], fun vv p => ∃ gk, (vv 8) = .tuple #[.pointer (some ⟨gk, 0, none⟩), .int .i64 0] ∧ (vv 9) = .tuple #[.pointer (some ⟨gk, 0, none⟩), .int .i64 0], fun vv p => ∃ gk, (vv 9) = .tuple #[.pointer (some ⟨gk, 0, none⟩), .int .i64 0] ∧ (vv 10) = .pointer (some ⟨gk, 0, none⟩), fun vv p => (vv 11) = .int .i64 0, fun vv p => ∃ gk, (vv 10) = .pointer (some ⟨gk, 0, none⟩) ∧ (vv 12) = .pointer (some ⟨gk, 0, none⟩), fun vv p => (vv 13) = .int .i64 0] (by kernel_rfl) (by kernel_rfl) rfl ⟨rfl, trivial⟩ (HL7.out.below (Below.refl _ _).drew) (by decide) (by kernel_rfl) (fun _ _ => trivial) (fun _ _ _ => trivial) (fun _ => trivial) ?_ ?_ ?_
        · exact ⟨fun _ _ _ _ h => h, fun _ _ _ _ h => h, fun _ _ _ _ h => h, fun _ _ _ _ h => h, fun _ _ _ _ h => h, fun _ _ _ _ h => h, fun _ _ _ _ h => h, fun _ _ _ _ h => h, fun _ _ _ _ h => h, fun _ _ _ _ h => h, fun _ _ _ _ h => h, fun _ _ _ _ h => h, fun _ _ _ _ h => h, fun _ _ _ _ h => h, trivial⟩
        · intro b0 hN hlv
          refine ⟨?_, ?_, ?_, ?_, ?_, ?_, ?_, ?_, ?_, ?_, ?_, ?_, ?_, ?_, trivial⟩
          · intro vs p hI0 hp
            have hI := Roll.inw_pure (by decide) rfl hI0
            clear hI0
            have e5 : (Roll.putD Dof24 vs [] b0).eval (.tmp 5) = .pointer (some ⟨gp, 0, none⟩) := (Roll.eval_old rfl).trans (hlv.at 0 (5, .pointer (some ⟨gp, 0, none⟩)) rfl)
            clear hp hlv hN
            unfold Roll.Goes
            simp only [Lof24, List.getD_cons_zero, List.getD_cons_succ]
            generalize Roll.putD Dof24 vs [] b0 = a1 at *
            refine Roll.goes_val (w' := p) (.pointer (some ⟨gp, 0, none⟩)) rfl ?_ ⟨(Roll.outw_pure (by decide) rfl), rfl⟩
            (have ec : ∀ x, a1.eval (.const x) = x := fun _ => rfl); (have ef : ∀ x, a1.eval (.func x) = .func (.func x) #[] #[] := fun _ => rfl); generalize a1.eval = ρ at *
            skip
            go_simp <;> (intros; first | (exfalso; omega) | rfl)
          · intro vs p hI0 hp
            have hI := Roll.inw_pure (by decide) rfl hI0
            clear hI0
            have h0 : (vs 0) = .pointer (some ⟨gp, 0, none⟩) := hp 0 (by simp [Lof24])
            have e100 : (Roll.putD Dof24 vs [0] b0).eval (.tmp 100) = .pointer (some ⟨gp, 0, none⟩) := (Roll.eval_new 0 rfl (by decide) (by decide) (by omega)).trans h0
            clear hp hlv hN
            unfold Roll.Goes
            simp only [Lof24, List.getD_cons_zero, List.getD_cons_succ]
            generalize Roll.putD Dof24 vs [0] b0 = a1 at *
            refine Roll.goes_val (w' := p) (.pointer (some ⟨gp, 0, none⟩)) rfl ?_ ⟨(Roll.outw_pure (by decide) rfl), rfl⟩
            (have ec : ∀ x, a1.eval (.const x) = x := fun _ => rfl); (have ef : ∀ x, a1.eval (.func x) = .func (.func x) #[] #[] := fun _ => rfl); generalize a1.eval = ρ at *
            clear h0
            go_simp <;> (intros; first | (exfalso; omega) | rfl)
          · intro vs p hI0 hp
            have hI := Roll.inw_pure (by decide) rfl hI0
            clear hI0
            have h1 : (vs 1) = .pointer (some ⟨gp, 0, none⟩) := hp 1 (by simp [Lof24])
            have e101 : (Roll.putD Dof24 vs [1] b0).eval (.tmp 101) = .pointer (some ⟨gp, 0, none⟩) := (Roll.eval_new 1 rfl (by decide) (by decide) (by omega)).trans h1
            clear hp hlv hN
            unfold Roll.Goes
            simp only [Lof24, List.getD_cons_zero, List.getD_cons_succ]
            generalize Roll.putD Dof24 vs [1] b0 = a1 at *
            refine Roll.goes_val (w' := p) (.pointer (some ⟨gp, 0, none⟩)) rfl ?_ ⟨(Roll.outw_pure (by decide) rfl), rfl⟩
            (have ec : ∀ x, a1.eval (.const x) = x := fun _ => rfl); (have ef : ∀ x, a1.eval (.func x) = .func (.func x) #[] #[] := fun _ => rfl); generalize a1.eval = ρ at *
            clear h1
            go_simp <;> (intros; first | (exfalso; omega) | rfl)
          · intro vs p hI0 hp
            have hI := Roll.inw_pre (by decide) rfl hI0
            clear hI0
            have h2 : (vs 2) = .pointer (some ⟨gp, 0, none⟩) := hp 2 (by simp [Lof24])
            have e102 : (Roll.putD Dof24 vs [2] b0).eval (.tmp 102) = .pointer (some ⟨gp, 0, none⟩) := (Roll.eval_new 2 rfl (by decide) (by decide) (by omega)).trans h2
            clear hp hlv hN
            unfold Roll.Goes
            simp only [Lof24, List.getD_cons_zero, List.getD_cons_succ]
            generalize Roll.putD Dof24 vs [2] b0 = a1 at *
            have cf := (HPC.out p hI).1
            refine Roll.goes_val (w' := p) (.pointer (some ⟨g, 0, none⟩)) rfl ?_ ⟨Roll.outw_pre (by decide) rfl hI trivial, rfl⟩
            (have ec : ∀ x, a1.eval (.const x) = x := fun _ => rfl); (have ef : ∀ x, a1.eval (.func x) = .func (.func x) #[] #[] := fun _ => rfl); generalize a1.eval = ρ at *
            go_simp <;> (intros; first | (exfalso; omega) | rfl)
          · intro vs p hI0 hp
            have hI := Roll.inw_pure (by decide) rfl hI0
            clear hI0
            have e5 : (Roll.putD Dof24 vs [] b0).eval (.tmp 5) = .pointer (some ⟨gp, 0, none⟩) := (Roll.eval_old rfl).trans (hlv.at 0 (5, .pointer (some ⟨gp, 0, none⟩)) rfl)
            clear hp hlv hN
            unfold Roll.Goes
            simp only [Lof24, List.getD_cons_zero, List.getD_cons_succ]
            generalize Roll.putD Dof24 vs [] b0 = a1 at *
            refine Roll.goes_val (w' := p) (.pointer (some ⟨gp, 0, none⟩)) rfl ?_ ⟨(Roll.outw_pure (by decide) rfl), rfl⟩
            (have ec : ∀ x, a1.eval (.const x) = x := fun _ => rfl); (have ef : ∀ x, a1.eval (.func x) = .func (.func x) #[] #[] := fun _ => rfl); generalize a1.eval = ρ at *
            skip
            go_simp <;> (intros; first | (exfalso; omega) | rfl)
          · intro vs p hI0 hp
            have hI := Roll.inw_pure (by decide) rfl hI0
            clear hI0
            have h4 : (vs 4) = .pointer (some ⟨gp, 0, none⟩) := hp 4 (by simp [Lof24])
            have e104 : (Roll.putD Dof24 vs [4] b0).eval (.tmp 104) = .pointer (some ⟨gp, 0, none⟩) := (Roll.eval_new 4 rfl (by decide) (by decide) (by omega)).trans h4
            clear hp hlv hN
            unfold Roll.Goes
            simp only [Lof24, List.getD_cons_zero, List.getD_cons_succ]
            generalize Roll.putD Dof24 vs [4] b0 = a1 at *
            refine Roll.goes_val (w' := p) (.pointer (some ⟨gp, 0, none⟩)) rfl ?_ ⟨(Roll.outw_pure (by decide) rfl), rfl⟩
            (have ec : ∀ x, a1.eval (.const x) = x := fun _ => rfl); (have ef : ∀ x, a1.eval (.func x) = .func (.func x) #[] #[] := fun _ => rfl); generalize a1.eval = ρ at *
            clear h4
            go_simp <;> (intros; first | (exfalso; omega) | rfl)
          · intro vs p hI0 hp
            have hI := Roll.inw_pure (by decide) rfl hI0
            clear hI0
            have h5 : (vs 5) = .pointer (some ⟨gp, 0, none⟩) := hp 5 (by simp [Lof24])
            have e105 : (Roll.putD Dof24 vs [5] b0).eval (.tmp 105) = .pointer (some ⟨gp, 0, none⟩) := (Roll.eval_new 5 rfl (by decide) (by decide) (by omega)).trans h5
            clear hp hlv hN
            unfold Roll.Goes
            simp only [Lof24, List.getD_cons_zero, List.getD_cons_succ]
            generalize Roll.putD Dof24 vs [5] b0 = a1 at *
            refine Roll.goes_val (w' := p) (.pointer (some ⟨gp, 2, none⟩)) rfl ?_ ⟨(Roll.outw_pure (by decide) rfl), rfl⟩
            (have ec : ∀ x, a1.eval (.const x) = x := fun _ => rfl); (have ef : ∀ x, a1.eval (.func x) = .func (.func x) #[] #[] := fun _ => rfl); generalize a1.eval = ρ at *
            clear h5
            go_simp <;> (intros; first | (exfalso; omega) | rfl)
          · intro vs p hI0 hp
            have hI := Roll.inw_pre (by decide) rfl hI0
            clear hI0
            have h6 : (vs 6) = .pointer (some ⟨gp, 2, none⟩) := hp 6 (by simp [Lof24])
            have e106 : (Roll.putD Dof24 vs [6] b0).eval (.tmp 106) = .pointer (some ⟨gp, 2, none⟩) := (Roll.eval_new 6 rfl (by decide) (by decide) (by omega)).trans h6
            clear hp hlv hN
            unfold Roll.Goes
            simp only [Lof24, List.getD_cons_zero, List.getD_cons_succ]
            generalize Roll.putD Dof24 vs [6] b0 = a1 at *
            have cf := (HPC.out p hI).2
            refine Roll.goes_val (w' := p) (.int .i64 (n : Int)) rfl ?_ ⟨Roll.outw_pre (by decide) rfl hI trivial, rfl⟩
            (have ec : ∀ x, a1.eval (.const x) = x := fun _ => rfl); (have ef : ∀ x, a1.eval (.func x) = .func (.func x) #[] #[] := fun _ => rfl); generalize a1.eval = ρ at *
            go_simp <;> (intros; first | (exfalso; omega) | rfl)
          · intro vs p hI0 hp
            have hI := Roll.inw_k0 rfl hI0
            clear hI0
            have h3 : (vs 3) = .pointer (some ⟨g, 0, none⟩) := hp 3 (by simp [Lof24])
            have h7 : (vs 7) = .int .i64 (n : Int) := hp 7 (by simp [Lof24])
            have e103 : (Roll.putD Dof24 vs [3, 7] b0).eval (.tmp 103) = .pointer (some ⟨g, 0, none⟩) := (Roll.eval_new 3 rfl (by decide) (by decide) (by omega)).trans h3
            have e107 : (Roll.putD Dof24 vs [3, 7] b0).eval (.tmp 107) = .int .i64 (n : Int) := (Roll.eval_new 7 rfl (by decide) (by decide) (by omega)).trans h7
            clear hp hlv hN
            unfold Roll.Goes
            simp only [Lof24, List.getD_cons_zero, List.getD_cons_succ]
            generalize Roll.putD Dof24 vs [3, 7] b0 = a1 at *
            refine Roll.goes_call 18 #[.pointer (some ⟨g, 0, none⟩), .int .i64 1, .int .i64 (n : Int)] p rfl (by have ec : ∀ x, a1.eval (.const x) = x := fun _ => rfl; have ef : ∀ x, a1.eval (.func x) = .func (.func x) #[] #[] := fun _ => rfl; generalize a1.eval = ρ at *; go_simp) ?_
            refine (HOP.out p hI).mono ?_
            rintro y p2 ⟨gk, rfl, hl⟩
            exact ⟨_, rfl, Roll.outw_k0 rfl ⟨gk, rfl, hl⟩ trivial, gk, rfl⟩
          · intro vs p hI0 hp
            have hI := Roll.inw_pure (by decide) rfl hI0
            clear hI0
            have h8 : ∃ gk, (vs 8) = .tuple #[.pointer (some ⟨gk, 0, none⟩), .int .i64 0] := hp 8 (by simp [Lof24])
            have e108 : (Roll.putD Dof24 vs [8] b0).eval (.tmp 108) = vs 8 := (Roll.eval_new 8 rfl (by decide) (by decide) (by omega))
            clear hp hlv hN
            unfold Roll.Goes
            simp only [Lof24, List.getD_cons_zero, List.getD_cons_succ]
            generalize Roll.putD Dof24 vs [8] b0 = a1 at *
            obtain ⟨gk, hv⟩ := h8
            rw [hv] at e108
            refine Roll.goes_val (w' := p) (.tuple #[.pointer (some ⟨gk, 0, none⟩), .int .i64 0]) rfl ?_ ⟨(Roll.outw_pure (by decide) rfl), gk, hv, rfl⟩
            (have ec : ∀ x, a1.eval (.const x) = x := fun _ => rfl); (have ef : ∀ x, a1.eval (.func x) = .func (.func x) #[] #[] := fun _ => rfl); generalize a1.eval = ρ at *
            go_simp <;> (intros; first | (exfalso; omega) | rfl)
          · intro vs p hI0 hp
            have hI := Roll.inw_pure (by decide) rfl hI0
            clear hI0
            have h9 : ∃ gk, (vs 8) = .tuple #[.pointer (some ⟨gk, 0, none⟩), .int .i64 0] ∧ (vs 9) = .tuple #[.pointer (some ⟨gk, 0, none⟩), .int .i64 0] := hp 9 (by simp [Lof24])
            have e99 : (Roll.putD Dof24 vs [9] b0).eval (.tmp 99) = vs 9 := (Roll.eval_new 9 rfl (by decide) (by decide) (by omega))
            clear hp hlv hN
            unfold Roll.Goes
            simp only [Lof24, List.getD_cons_zero, List.getD_cons_succ]
            generalize Roll.putD Dof24 vs [9] b0 = a1 at *
            obtain ⟨gk, -, hv⟩ := h9
            rw [hv] at e99
            refine Roll.goes_val (w' := p) (.pointer (some ⟨gk, 0, none⟩)) rfl ?_ ⟨(Roll.outw_pure (by decide) rfl), gk, hv, rfl⟩
            (have ec : ∀ x, a1.eval (.const x) = x := fun _ => rfl); (have ef : ∀ x, a1.eval (.func x) = .func (.func x) #[] #[] := fun _ => rfl); generalize a1.eval = ρ at *
            go_simp <;> (intros; first | (exfalso; omega) | rfl)
          · intro vs p hI0 hp
            have hI := Roll.inw_pure (by decide) rfl hI0
            clear hI0
            have h9 : ∃ gk, (vs 8) = .tuple #[.pointer (some ⟨gk, 0, none⟩), .int .i64 0] ∧ (vs 9) = .tuple #[.pointer (some ⟨gk, 0, none⟩), .int .i64 0] := hp 9 (by simp [Lof24])
            have e99 : (Roll.putD Dof24 vs [9] b0).eval (.tmp 99) = vs 9 := (Roll.eval_new 9 rfl (by decide) (by decide) (by omega))
            clear hp hlv hN
            unfold Roll.Goes
            simp only [Lof24, List.getD_cons_zero, List.getD_cons_succ]
            generalize Roll.putD Dof24 vs [9] b0 = a1 at *
            obtain ⟨gk, -, hv⟩ := h9
            rw [hv] at e99
            refine Roll.goes_val (w' := p) (.int .i64 0) rfl ?_ ⟨(Roll.outw_pure (by decide) rfl), rfl⟩
            (have ec : ∀ x, a1.eval (.const x) = x := fun _ => rfl); (have ef : ∀ x, a1.eval (.func x) = .func (.func x) #[] #[] := fun _ => rfl); generalize a1.eval = ρ at *
            go_simp <;> (intros; first | (exfalso; omega) | rfl)
          · intro vs p hI0 hp
            have hI := Roll.inw_pure (by decide) rfl hI0
            clear hI0
            have h10 : ∃ gk, (vs 9) = .tuple #[.pointer (some ⟨gk, 0, none⟩), .int .i64 0] ∧ (vs 10) = .pointer (some ⟨gk, 0, none⟩) := hp 10 (by simp [Lof24])
            have e109 : (Roll.putD Dof24 vs [10] b0).eval (.tmp 109) = vs 10 := (Roll.eval_new 10 rfl (by decide) (by decide) (by omega))
            clear hp hlv hN
            unfold Roll.Goes
            simp only [Lof24, List.getD_cons_zero, List.getD_cons_succ]
            generalize Roll.putD Dof24 vs [10] b0 = a1 at *
            obtain ⟨gk, -, hv⟩ := h10
            rw [hv] at e109
            refine Roll.goes_val (w' := p) (.pointer (some ⟨gk, 0, none⟩)) rfl ?_ ⟨(Roll.outw_pure (by decide) rfl), gk, hv, rfl⟩
            (have ec : ∀ x, a1.eval (.const x) = x := fun _ => rfl); (have ef : ∀ x, a1.eval (.func x) = .func (.func x) #[] #[] := fun _ => rfl); generalize a1.eval = ρ at *
            go_simp <;> (intros; first | (exfalso; omega) | rfl)
          · intro vs p hI0 hp
            have hI := Roll.inw_pure (by decide) rfl hI0
            clear hI0
            have h11 : (vs 11) = .int .i64 0 := hp 11 (by simp [Lof24])
            have e110 : (Roll.putD Dof24 vs [11] b0).eval (.tmp 110) = .int .i64 0 := (Roll.eval_new 11 rfl (by decide) (by decide) (by omega)).trans h11
            clear hp hlv hN
            unfold Roll.Goes
            simp only [Lof24, List.getD_cons_zero, List.getD_cons_succ]
            generalize Roll.putD Dof24 vs [11] b0 = a1 at *
            refine Roll.goes_val (w' := p) (.int .i64 0) rfl ?_ ⟨(Roll.outw_pure (by decide) rfl), rfl⟩
            (have ec : ∀ x, a1.eval (.const x) = x := fun _ => rfl); (have ef : ∀ x, a1.eval (.func x) = .func (.func x) #[] #[] := fun _ => rfl); generalize a1.eval = ρ at *
            clear h11
            go_simp <;> (intros; first | (exfalso; omega) | rfl)
        · intro vs p hI hR
          have h0 : (vs 0) = .pointer (some ⟨gp, 0, none⟩) := hR 0 (by omega)
          have h1 : (vs 1) = .pointer (some ⟨gp, 0, none⟩) := hR 1 (by omega)
          have h2 : (vs 2) = .pointer (some ⟨gp, 0, none⟩) := hR 2 (by omega)
          have h3 : (vs 3) = .pointer (some ⟨g, 0, none⟩) := hR 3 (by omega)
          have h4 : (vs 4) = .pointer (some ⟨gp, 0, none⟩) := hR 4 (by omega)
          have h5 : (vs 5) = .pointer (some ⟨gp, 0, none⟩) := hR 5 (by omega)
          have h6 : (vs 6) = .pointer (some ⟨gp, 2, none⟩) := hR 6 (by omega)
          have h7 : (vs 7) = .int .i64 (n : Int) := hR 7 (by omega)
          have h8 : ∃ gk, (vs 8) = .tuple #[.pointer (some ⟨gk, 0, none⟩), .int .i64 0] := hR 8 (by omega)
          have h9 : ∃ gk, (vs 8) = .tuple #[.pointer (some ⟨gk, 0, none⟩), .int .i64 0] ∧ (vs 9) = .tuple #[.pointer (some ⟨gk, 0, none⟩), .int .i64 0] := hR 9 (by omega)
          have h10 : ∃ gk, (vs 9) = .tuple #[.pointer (some ⟨gk, 0, none⟩), .int .i64 0] ∧ (vs 10) = .pointer (some ⟨gk, 0, none⟩) := hR 10 (by omega)
          have h11 : (vs 11) = .int .i64 0 := hR 11 (by omega)
          have h12 : ∃ gk, (vs 10) = .pointer (some ⟨gk, 0, none⟩) ∧ (vs 12) = .pointer (some ⟨gk, 0, none⟩) := hR 12 (by omega)
          have h13 : (vs 13) = .int .i64 0 := hR 13 (by omega)
          clear hR
          simp only [List.range_succ, List.range_zero, List.nil_append, List.cons_append, Roll.putD, Act.put, List.getD_cons_zero, List.getD_cons_succ, List.setIfInBounds_toArray, List.set_cons_zero, List.set_cons_succ, List.drop_succ_cons, List.drop_zero, Dof24]
          simp only [h0, h1, h2, h3, h4, h5, h6, h7, h11, h13]
          clear h0 h1 h2 h3 h4 h5 h6 h7 h11 h13
          clear h8
          generalize vs 8 = v8 at *; generalize vs 9 = v9 at *; generalize vs 10 = v10 at *; generalize vs 12 = v12 at *
          obtain ⟨gk, rfl, hl8⟩ := hI
          obtain ⟨g9, e8, rfl⟩ := h9
          obtain rfl : g9 = gk := by simpa using e8.symm
          obtain ⟨g10, e9, rfl⟩ := h10
          obtain rfl : g10 = g9 := by simpa using e9.symm
          obtain ⟨g12, e10, rfl⟩ := h12
          obtain rfl : g12 = g10 := by simpa using e10.symm
          clear e8 e9 e10
          have HL9 : Hid (Lv w p (logO g12 g (mOpen 1 n r3 rs) :: [recsO (.slice a1 n1 c1) rs, pastO gp g gl n (.slice none 0 0) 0 false, logO gl g m2, diskO g (cutD d2 [])])) := Lib.hid (by rw [← HMO.out, ← HLST.out]; exact hl8)
          have HG8 : Hid True := Lib.hid trivial
          clear hl8 HL7
          go_wp2_with (first
            | (have x1 := HG8; go_at_call 27; refine (records_lv HL9.out (ii := 0) (m := mOpen 1 n r3 rs) rfl (show rs.length ≤ 100000 by rw [← HN1.out]; exact HRL.out.1) HRL.out.2.1).mono ?_; rintro e w10 ⟨ra, rc, rfl, hl10⟩; rw [show (mOpen 1 n r3 rs).recs.length = rs.length from rfl, ← HN1.out] at hl10 ⊢; have HL10 := Lib.hid hl10; have HG9 := x1; clear hl10 x1 HG8 HL9)
            | (have x1 := HG9; go_at_call 32; obtain ⟨D9, a9, c9, hv9, hrd9⟩ := HL10.out.recsR (i := 0) rfl; obtain ⟨D8, a8, c8, hv8, hrd8⟩ := HL10.out.recsR (i := 2) rfl; rw [show (mOpen 1 n r3 rs).recs = rs from rfl, ← HN1.out] at hv9 hrd9; rw [← HN1.out] at hv8 hrd8; cases hv9; cases hv8; refine (same_any _ _ _ _ _ _ _ _ _ _ _ hrd9 hrd8 HRL.out.2.2.2).mono ?_; rintro e w11 ⟨rfl, hb⟩; rw [show (rs == rs) = true from beq_self_eq_true rs]; have HL11 := Lib.hid (HL10.out.below hb); have HG10 := x1; clear hb hrd9 hrd8 x1 HG9 HL10)
            | (have x1 := HG10; go_at_call 29; refine (room_lv HL11.out (i := 1) (m := mOpen 1 n r3 rs) rfl (show n ≤ 4096 by have := HNB.out.2; omega) (show takR rs ≤ 1000000 by have := HTK.out; omega)).mono ?_; rintro e w12 ⟨rfl, hb⟩; rw [show roomZ (mOpen 1 n r3 rs).n (mOpen 1 n r3 rs).tak = R from HRR.out]; have HL12 := Lib.hid (HL11.out.below hb); have HG11 := x1; clear hb x1 HG10 HL11)
            | (have x1 := HG11; go_at_call 19; refine (lives4_any _).mono ?_; rintro e w13 ⟨rfl, hb⟩; have HZ := Lib.hid (HL12.out.args.trans (hb.mono HL12.out.args.size)); clear hb x1 HG11 HL12))
          go_ret
          exact ⟨rfl, HZ.out⟩
    · obtain rfl : i = 100 := by omega
      have HRR : Hid (roomZ n ((takR m.recs : Nat) : Int) = R) := Lib.hid (by rw [← HMF.out.2, ← HFI.out.tak]; exact HR.out)
      obtain ⟨z1, z2⟩ := sync_fine HFI.out
      obtain ⟨z3, z4, z5⟩ := sync_nf m d0 HON.out HFU.out
      have z6 : Fine (syncR m d0).2.1 (syncR m d0).2.2 ∧ (syncR m d0).2.1.recs = m.recs ∧ (syncR m d0).2.1.syn = m.recs.length ∧ (syncR m d0).2.1.frm = m.frm ∧ (syncR m d0).2.1.n = m.n := by
        rcases z2 with ⟨-, y2, y3, y4, y5, y6⟩ | ⟨y1, -⟩
        · exact ⟨y2, y3, y4, y5, y6⟩
        · rw [y1] at z3; exact absurd z3 (by omega)
      obtain ⟨y2, y3, y4, y5, y6⟩ := z6
      have hga : GA 1 n (syncR m d0).2.2 (syncR m d0).2.1.rnd (syncR m d0).2.1.en m.recs := by
        have := y2.ga
        rw [y3, y4, y5, y6, HMF.out.1, HMF.out.2, List.take_of_length_le (Nat.le_refl _)] at this
        exact this
      have HSY : Hid (∀ u, Lv w u [recsO v0 m.recs, pastO gp g gl n (.slice none 0 0) 0 false, logO gl g m, diskO g d0] → Calls Try.prog 16 #[.pointer (some ⟨gl, 0, none⟩)] u fun x w' => x = .returned (.int .i64 0) ∧ Lv w w' [recsO v0 m.recs, pastO gp g gl n (.slice none 0 0) 0 false, logO gl g (syncR m d0).2.1, diskO g (syncR m d0).2.2]) := Lib.hid (fun u hl => by
        have hf := HFI.out
        have hb := hf.bounds
        have h1 := HMF.out
        have h2 := HNB.out
        have h3 := HDL.out
        have h4 := hf.addLen
        obtain ⟨b1, b2, b3⟩ := lenB_facts m.recs
        have := sync_lv hl (i := 2) (j := 3) (m := m) (d := d0) rfl rfl (by omega) hf.ga.rb (by rw [h3, h1.1]; omega) (hf.ok.mono (by omega)) hf.syn (fun r hr => by have := b1 r hr; omega) (by omega) (by omega) (by rw [h3, h1.1]; omega)
        rw [z3] at this
        exact this)
      obtain ⟨m2, hm2⟩ : ∃ m2, m2 = (syncR m d0).2.1 := ⟨_, rfl⟩
      obtain ⟨d2, hd2⟩ : ∃ d2, d2 = (syncR m d0).2.2 := ⟨_, rfl⟩
      rw [← hm2, ← hd2] at HSY hga
      have HGA := Lib.hid (cutD_ga hga [])
      obtain ⟨r3, hr3⟩ : ∃ r3, r3 = m2.rnd := ⟨_, rfl⟩
      obtain ⟨e3, he3⟩ : ∃ e3, e3 = m2.en := ⟨_, rfl⟩
      rw [← hr3, ← he3] at HGA
      have HTK0 : Hid (takR m.recs ≤ 1000000) := Lib.hid (by have hb := HFI.out.bounds; have h5 := HFI.out.tak; omega)
      have HRL : Hid (m.recs.length ≤ 100000 ∧ (∀ r ∈ m.recs, r.length ≤ 1000000) ∧ takR m.recs ≤ 1000000000 ∧ m.recs.length ≤ 1000000) := Lib.hid (by have hb := HFI.out.bounds; have h5 := HFI.out.tak; obtain ⟨b1, b2, b3⟩ := lenB_facts m.recs; exact ⟨by omega, fun r hr => by have := b1 r hr; omega, by omega, by omega⟩)
      obtain ⟨rs, hrs⟩ : ∃ rs, rs = m.recs := ⟨_, rfl⟩
      rw [← hrs] at HSY HGA HRL HL HRR HTK0
      have HTK := HTK0
      obtain ⟨D1, a1, c1, hv1, hrd1⟩ := HL.out.recsR (i := 0) rfl
      subst hv1
      have ha1c := hrd1.2.1
      have ha1m := hrd1.2.2.1
      clear hrd1
      obtain ⟨n1, hn1⟩ : ∃ n1, n1 = rs.length := ⟨_, rfl⟩
      rw [← hn1] at HSY HL ha1c HRL ⊢
      have HN1 := Lib.hid hn1
      obtain ⟨LST, hLST⟩ : ∃ LST, LST = [recsO (.slice a1 n1 c1) rs, pastO gp g gl n (.slice none 0 0) 0 false, logO gl g m2, diskO g (cutD d2 [])] := ⟨_, rfl⟩
      obtain ⟨MO, hMO⟩ : ∃ MO, MO = mOpen 1 n r3 rs := ⟨_, rfl⟩
      have HOP : Hid (∀ u, Lv w u LST → Calls Try.prog 18 #[.pointer (some ⟨g, 0, none⟩), .int .i64 1, .int .i64 (n : Int)] u fun x w' => ∃ gk, x = .returned (.tuple #[.pointer (some ⟨gk, 0, none⟩), .int .i64 0]) ∧ Lv w w' (logO gk g MO :: LST)) := Lib.hid (fun u hl => by rw [hLST] at hl ⊢; rw [hMO]; exact open_ga hl (j := 3) rfl HGA.out (show 1 ≤ 4096 by omega) HNB.out.1 (show n ≤ 200 by have := HNB.out.2; omega) (cutD_on _ _))
      have HPC : Hid (∀ u, Lv w u LST → u.cell? ⟨gp, 0, none⟩ = some (.pointer (some ⟨g, 0, none⟩)) ∧ u.cell? ⟨gp, 2, none⟩ = some (.int .i64 (n : Int))) := Lib.hid (fun u hl => by rw [hLST] at hl; have := hl.pastF (i := 1) rfl; exact ⟨this.2.1, this.2.2.2.1⟩)
      have HLST := Lib.hid hLST
      have HMO := Lib.hid hMO
      clear hLST hMO
      have HRM : Hid (∀ u, Lv w u [recsO (.slice a1 n1 c1) rs, pastO gp g gl n (.slice none 0 0) 0 false, logO gl g m, diskO g d0] → Calls Try.prog 30 #[.int .i64 (n : Int), .slice a1 n1 c1] u fun x w' => x = .returned (.int .i64 R) ∧ u = w') := Lib.hid (fun u hl => by
        obtain ⟨D9, a9, c9, hv9, hrd9⟩ := hl.recsR (i := 0) rfl
        rw [← HN1.out] at hv9 hrd9
        cases hv9
        rw [← HRR.out]
        exact rroom_any D9 a1 n1 c1 n rs u hrd9 (by have := HNB.out.2; omega) HRL.out.2.2.1 HRL.out.2.2.2 HRL.out.2.1)
      have HGB : Hid True := Lib.hid trivial
      clear z1 z2 z3 z4 z5 y2 y3 y4 y5 y6 hga hm2 hd2 hr3 he3 hrs hn1 HI
      go_upto_region 24 with (first
        | (have x1 := HG1; go_at_call 29; refine (room_lv HL.out (i := 2) (m := m) rfl HMS.out.1 HMS.out.2.1).mono ?_; rintro e w3 ⟨rfl, hb⟩; rw [HR.out]; have HL3 := Lib.hid (HL.out.below hb); obtain ⟨-, -, q3, n3, -, -, -⟩ := HL3.out.pastF (i := 1) rfl; have HG3 := x1; clear hb x1 HG1 HL)
        | (have x1 := HG3; go_at_call 30; refine (HRM.out _ HL3.out).mono ?_; rintro e w4 ⟨rfl, rfl⟩; have HG4 := x1; clear x1 HG3)
        | (have x1 := HG4; go_at_call 16; refine (HSY.out _ HL3.out).mono ?_; rintro e w5 ⟨rfl, hl5⟩; have HL5 := Lib.hid hl5; have q5 := (HL5.out.pastF (i := 1) rfl).2.1; have HG5 := x1; clear hl5 x1 HG4 HL3)
        | (have x1 := HG5; go_at_call 21; refine (fuse_lv HL5.out (i := 3) (d := d2) rfl 0 (by omega) (by omega)).mono ?_; rintro e w6 ⟨rfl, hl6⟩; have HL6 := Lib.hid hl6; have q6 := (HL6.out.pastF (i := 1) rfl).2.1; have HG6 := x1; clear hl6 x1 HG5 HL5)
        | (have x1 := HG6; go_at_call 28; refine (restart_lv HL6.out (i := 3) (d := d2.setFuse 0) rfl (Ts.nil0 _) (.inl (fun _ h => h.elim))).mono ?_; rintro e w7 ⟨rfl, hl7⟩; have HL7 : Hid (Lv w w7 LST) := Lib.hid (by rw [HLST.out]; exact hl7); have HG7 := x1; clear hl7 x1 HG6 HL6))
      refine Roll.region_v 14 132 Dof24 Lof24 [(5, .pointer (some ⟨gp, 0, none⟩))] 8 [true, true, true, false, true, true, true, false, false, true, true, true, true, true] (fun p => Lv w p LST) (fun vv p => ∃ gk, vv = .tuple #[.pointer (some ⟨gk, 0, none⟩), .int .i64 0] ∧ Lv w p (logO gk g MO :: LST)) (fun p => True) (fun _ _ => True) [fun vv p => (vv 0) = .pointer (some ⟨gp, 0, none⟩), fun vv p => (vv 1) = .pointer (some ⟨gp, 0, none⟩), fun vv p => (vv 2) = .pointer (some ⟨gp, 0, none⟩), fun vv p => (vv 3) = .pointer (some ⟨g, 0, none⟩), fun vv p => (vv 4) = .pointer (some ⟨gp, 0, none⟩), fun vv p => (vv 5) = .pointer (some ⟨gp, 0, none⟩), fun vv p => (vv 6) = .pointer (some ⟨gp, 2, none⟩), fun vv p => (vv 7) = .int .i64 (n : Int), fun vv p => ∃ gk, (vv 8) = .tuple #[.pointer (some ⟨gk, 0, none⟩), .int .i64 0], fun vv p => ∃ gk, (vv 8) = .tuple #[.pointer (some ⟨gk, 0, none⟩), .int .i64 0] ∧ (vv 9) = .tuple #[.pointer (some ⟨gk, 0, none⟩), .int .i64 0], fun vv p => ∃ gk, (vv 9) = .tuple #[.pointer (some ⟨gk, 0, none⟩), .int .i64 0] ∧ (vv 10) = .pointer (some ⟨gk, 0, none⟩), fun vv p => (vv 11) = .int .i64 0, fun vv p => ∃ gk, (vv 10) = .pointer (some ⟨gk, 0, none⟩) ∧ (vv 12) = .pointer (some ⟨gk, 0, none⟩), fun vv p => (vv 13) = .int .i64 0] (by kernel_rfl) (by kernel_rfl) rfl ⟨rfl, trivial⟩ (HL7.out.below (Below.refl _ _).drew) (by decide) (by kernel_rfl) (fun _ _ => trivial) (fun _ _ _ => trivial) (fun _ => trivial) ?_ ?_ ?_
      · exact ⟨fun _ _ _ _ h => h, fun _ _ _ _ h => h, fun _ _ _ _ h => h, fun _ _ _ _ h => h, fun _ _ _ _ h => h, fun _ _ _ _ h => h, fun _ _ _ _ h => h, fun _ _ _ _ h => h, fun _ _ _ _ h => h, fun _ _ _ _ h => h, fun _ _ _ _ h => h, fun _ _ _ _ h => h, fun _ _ _ _ h => h, fun _ _ _ _ h => h, trivial⟩
      · intro b0 hN hlv
        refine ⟨?_, ?_, ?_, ?_, ?_, ?_, ?_, ?_, ?_, ?_, ?_, ?_, ?_, ?_, trivial⟩
        · intro vs p hI0 hp
          have hI := Roll.inw_pure (by decide) rfl hI0
          clear hI0
          have e5 : (Roll.putD Dof24 vs [] b0).eval (.tmp 5) = .pointer (some ⟨gp, 0, none⟩) := (Roll.eval_old rfl).trans (hlv.at 0 (5, .pointer (some ⟨gp, 0, none⟩)) rfl)
          clear hp hlv hN
          unfold Roll.Goes
          simp only [Lof24, List.getD_cons_zero, List.getD_cons_succ]
          generalize Roll.putD Dof24 vs [] b0 = a1 at *
          refine Roll.goes_val (w' := p) (.pointer (some ⟨gp, 0, none⟩)) rfl ?_ ⟨(Roll.outw_pure (by decide) rfl), rfl⟩
          (have ec : ∀ x, a1.eval (.const x) = x := fun _ => rfl); (have ef : ∀ x, a1.eval (.func x) = .func (.func x) #[] #[] := fun _ => rfl); generalize a1.eval = ρ at *
          skip
          go_simp <;> (intros; first | (exfalso; omega) | rfl)
        · intro vs p hI0 hp
          have hI := Roll.inw_pure (by decide) rfl hI0
          clear hI0
          have h0 : (vs 0) = .pointer (some ⟨gp, 0, none⟩) := hp 0 (by simp [Lof24])
          have e100 : (Roll.putD Dof24 vs [0] b0).eval (.tmp 100) = .pointer (some ⟨gp, 0, none⟩) := (Roll.eval_new 0 rfl (by decide) (by decide) (by omega)).trans h0
          clear hp hlv hN
          unfold Roll.Goes
          simp only [Lof24, List.getD_cons_zero, List.getD_cons_succ]
          generalize Roll.putD Dof24 vs [0] b0 = a1 at *
          refine Roll.goes_val (w' := p) (.pointer (some ⟨gp, 0, none⟩)) rfl ?_ ⟨(Roll.outw_pure (by decide) rfl), rfl⟩
          (have ec : ∀ x, a1.eval (.const x) = x := fun _ => rfl); (have ef : ∀ x, a1.eval (.func x) = .func (.func x) #[] #[] := fun _ => rfl); generalize a1.eval = ρ at *
          clear h0
          go_simp <;> (intros; first | (exfalso; omega) | rfl)
        · intro vs p hI0 hp
          have hI := Roll.inw_pure (by decide) rfl hI0
          clear hI0
          have h1 : (vs 1) = .pointer (some ⟨gp, 0, none⟩) := hp 1 (by simp [Lof24])
          have e101 : (Roll.putD Dof24 vs [1] b0).eval (.tmp 101) = .pointer (some ⟨gp, 0, none⟩) := (Roll.eval_new 1 rfl (by decide) (by decide) (by omega)).trans h1
          clear hp hlv hN
          unfold Roll.Goes
          simp only [Lof24, List.getD_cons_zero, List.getD_cons_succ]
          generalize Roll.putD Dof24 vs [1] b0 = a1 at *
          refine Roll.goes_val (w' := p) (.pointer (some ⟨gp, 0, none⟩)) rfl ?_ ⟨(Roll.outw_pure (by decide) rfl), rfl⟩
          (have ec : ∀ x, a1.eval (.const x) = x := fun _ => rfl); (have ef : ∀ x, a1.eval (.func x) = .func (.func x) #[] #[] := fun _ => rfl); generalize a1.eval = ρ at *
          clear h1
          go_simp <;> (intros; first | (exfalso; omega) | rfl)
        · intro vs p hI0 hp
          have hI := Roll.inw_pre (by decide) rfl hI0
          clear hI0
          have h2 : (vs 2) = .pointer (some ⟨gp, 0, none⟩) := hp 2 (by simp [Lof24])
          have e102 : (Roll.putD Dof24 vs [2] b0).eval (.tmp 102) = .pointer (some ⟨gp, 0, none⟩) := (Roll.eval_new 2 rfl (by decide) (by decide) (by omega)).trans h2
          clear hp hlv hN
          unfold Roll.Goes
          simp only [Lof24, List.getD_cons_zero, List.getD_cons_succ]
          generalize Roll.putD Dof24 vs [2] b0 = a1 at *
          have cf := (HPC.out p hI).1
          refine Roll.goes_val (w' := p) (.pointer (some ⟨g, 0, none⟩)) rfl ?_ ⟨Roll.outw_pre (by decide) rfl hI trivial, rfl⟩
          (have ec : ∀ x, a1.eval (.const x) = x := fun _ => rfl); (have ef : ∀ x, a1.eval (.func x) = .func (.func x) #[] #[] := fun _ => rfl); generalize a1.eval = ρ at *
          go_simp <;> (intros; first | (exfalso; omega) | rfl)
        · intro vs p hI0 hp
          have hI := Roll.inw_pure (by decide) rfl hI0
          clear hI0
          have e5 : (Roll.putD Dof24 vs [] b0).eval (.tmp 5) = .pointer (some ⟨gp, 0, none⟩) := (Roll.eval_old rfl).trans (hlv.at 0 (5, .pointer (some ⟨gp, 0, none⟩)) rfl)
          clear hp hlv hN
          unfold Roll.Goes
          simp only [Lof24, List.getD_cons_zero, List.getD_cons_succ]
          generalize Roll.putD Dof24 vs [] b0 = a1 at *
          refine Roll.goes_val (w' := p) (.pointer (some ⟨gp, 0, none⟩)) rfl ?_ ⟨(Roll.outw_pure (by decide) rfl), rfl⟩
          (have ec : ∀ x, a1.eval (.const x) = x := fun _ => rfl); (have ef : ∀ x, a1.eval (.func x) = .func (.func x) #[] #[] := fun _ => rfl); generalize a1.eval = ρ at *
          skip
          go_simp <;> (intros; first | (exfalso; omega) | rfl)
        · intro vs p hI0 hp
          have hI := Roll.inw_pure (by decide) rfl hI0
          clear hI0
          have h4 : (vs 4) = .pointer (some ⟨gp, 0, none⟩) := hp 4 (by simp [Lof24])
          have e104 : (Roll.putD Dof24 vs [4] b0).eval (.tmp 104) = .pointer (some ⟨gp, 0, none⟩) := (Roll.eval_new 4 rfl (by decide) (by decide) (by omega)).trans h4
          clear hp hlv hN
          unfold Roll.Goes
          simp only [Lof24, List.getD_cons_zero, List.getD_cons_succ]
          generalize Roll.putD Dof24 vs [4] b0 = a1 at *
          refine Roll.goes_val (w' := p) (.pointer (some ⟨gp, 0, none⟩)) rfl ?_ ⟨(Roll.outw_pure (by decide) rfl), rfl⟩
          (have ec : ∀ x, a1.eval (.const x) = x := fun _ => rfl); (have ef : ∀ x, a1.eval (.func x) = .func (.func x) #[] #[] := fun _ => rfl); generalize a1.eval = ρ at *
          clear h4
          go_simp <;> (intros; first | (exfalso; omega) | rfl)
        · intro vs p hI0 hp
          have hI := Roll.inw_pure (by decide) rfl hI0
          clear hI0
          have h5 : (vs 5) = .pointer (some ⟨gp, 0, none⟩) := hp 5 (by simp [Lof24])
          have e105 : (Roll.putD Dof24 vs [5] b0).eval (.tmp 105) = .pointer (some ⟨gp, 0, none⟩) := (Roll.eval_new 5 rfl (by decide) (by decide) (by omega)).trans h5
          clear hp hlv hN
          unfold Roll.Goes
          simp only [Lof24, List.getD_cons_zero, List.getD_cons_succ]
          generalize Roll.putD Dof24 vs [5] b0 = a1 at *
          refine Roll.goes_val (w' := p) (.pointer (some ⟨gp, 2, none⟩)) rfl ?_ ⟨(Roll.outw_pure (by decide) rfl), rfl⟩
          (have ec : ∀ x, a1.eval (.const x) = x := fun _ => rfl); (have ef : ∀ x, a1.eval (.func x) = .func (.func x) #[] #[] := fun _ => rfl); generalize a1.eval = ρ at *
          clear h5
          go_simp <;> (intros; first | (exfalso; omega) | rfl)
        · intro vs p hI0 hp
          have hI := Roll.inw_pre (by decide) rfl hI0
          clear hI0
          have h6 : (vs 6) = .pointer (some ⟨gp, 2, none⟩) := hp 6 (by simp [Lof24])
          have e106 : (Roll.putD Dof24 vs [6] b0).eval (.tmp 106) = .pointer (some ⟨gp, 2, none⟩) := (Roll.eval_new 6 rfl (by decide) (by decide) (by omega)).trans h6
          clear hp hlv hN
          unfold Roll.Goes
          simp only [Lof24, List.getD_cons_zero, List.getD_cons_succ]
          generalize Roll.putD Dof24 vs [6] b0 = a1 at *
          have cf := (HPC.out p hI).2
          refine Roll.goes_val (w' := p) (.int .i64 (n : Int)) rfl ?_ ⟨Roll.outw_pre (by decide) rfl hI trivial, rfl⟩
          (have ec : ∀ x, a1.eval (.const x) = x := fun _ => rfl); (have ef : ∀ x, a1.eval (.func x) = .func (.func x) #[] #[] := fun _ => rfl); generalize a1.eval = ρ at *
          go_simp <;> (intros; first | (exfalso; omega) | rfl)
        · intro vs p hI0 hp
          have hI := Roll.inw_k0 rfl hI0
          clear hI0
          have h3 : (vs 3) = .pointer (some ⟨g, 0, none⟩) := hp 3 (by simp [Lof24])
          have h7 : (vs 7) = .int .i64 (n : Int) := hp 7 (by simp [Lof24])
          have e103 : (Roll.putD Dof24 vs [3, 7] b0).eval (.tmp 103) = .pointer (some ⟨g, 0, none⟩) := (Roll.eval_new 3 rfl (by decide) (by decide) (by omega)).trans h3
          have e107 : (Roll.putD Dof24 vs [3, 7] b0).eval (.tmp 107) = .int .i64 (n : Int) := (Roll.eval_new 7 rfl (by decide) (by decide) (by omega)).trans h7
          clear hp hlv hN
          unfold Roll.Goes
          simp only [Lof24, List.getD_cons_zero, List.getD_cons_succ]
          generalize Roll.putD Dof24 vs [3, 7] b0 = a1 at *
          refine Roll.goes_call 18 #[.pointer (some ⟨g, 0, none⟩), .int .i64 1, .int .i64 (n : Int)] p rfl (by have ec : ∀ x, a1.eval (.const x) = x := fun _ => rfl; have ef : ∀ x, a1.eval (.func x) = .func (.func x) #[] #[] := fun _ => rfl; generalize a1.eval = ρ at *; go_simp) ?_
          refine (HOP.out p hI).mono ?_
          rintro y p2 ⟨gk, rfl, hl⟩
          exact ⟨_, rfl, Roll.outw_k0 rfl ⟨gk, rfl, hl⟩ trivial, gk, rfl⟩
        · intro vs p hI0 hp
          have hI := Roll.inw_pure (by decide) rfl hI0
          clear hI0
          have h8 : ∃ gk, (vs 8) = .tuple #[.pointer (some ⟨gk, 0, none⟩), .int .i64 0] := hp 8 (by simp [Lof24])
          have e108 : (Roll.putD Dof24 vs [8] b0).eval (.tmp 108) = vs 8 := (Roll.eval_new 8 rfl (by decide) (by decide) (by omega))
          clear hp hlv hN
          unfold Roll.Goes
          simp only [Lof24, List.getD_cons_zero, List.getD_cons_succ]
          generalize Roll.putD Dof24 vs [8] b0 = a1 at *
          obtain ⟨gk, hv⟩ := h8
          rw [hv] at e108
          refine Roll.goes_val (w' := p) (.tuple #[.pointer (some ⟨gk, 0, none⟩), .int .i64 0]) rfl ?_ ⟨(Roll.outw_pure (by decide) rfl), gk, hv, rfl⟩
          (have ec : ∀ x, a1.eval (.const x) = x := fun _ => rfl); (have ef : ∀ x, a1.eval (.func x) = .func (.func x) #[] #[] := fun _ => rfl); generalize a1.eval = ρ at *
          go_simp <;> (intros; first | (exfalso; omega) | rfl)
        · intro vs p hI0 hp
          have hI := Roll.inw_pure (by decide) rfl hI0
          clear hI0
          have h9 : ∃ gk, (vs 8) = .tuple #[.pointer (some ⟨gk, 0, none⟩), .int .i64 0] ∧ (vs 9) = .tuple #[.pointer (some ⟨gk, 0, none⟩), .int .i64 0] := hp 9 (by simp [Lof24])
          have e99 : (Roll.putD Dof24 vs [9] b0).eval (.tmp 99) = vs 9 := (Roll.eval_new 9 rfl (by decide) (by decide) (by omega))
          clear hp hlv hN
          unfold Roll.Goes
          simp only [Lof24, List.getD_cons_zero, List.getD_cons_succ]
          generalize Roll.putD Dof24 vs [9] b0 = a1 at *
          obtain ⟨gk, -, hv⟩ := h9
          rw [hv] at e99
          refine Roll.goes_val (w' := p) (.pointer (some ⟨gk, 0, none⟩)) rfl ?_ ⟨(Roll.outw_pure (by decide) rfl), gk, hv, rfl⟩
          (have ec : ∀ x, a1.eval (.const x) = x := fun _ => rfl); (have ef : ∀ x, a1.eval (.func x) = .func (.func x) #[] #[] := fun _ => rfl); generalize a1.eval = ρ at *
          go_simp <;> (intros; first | (exfalso; omega) | rfl)
        · intro vs p hI0 hp
          have hI := Roll.inw_pure (by decide) rfl hI0
          clear hI0
          have h9 : ∃ gk, (vs 8) = .tuple #[.pointer (some ⟨gk, 0, none⟩), .int .i64 0] ∧ (vs 9) = .tuple #[.pointer (some ⟨gk, 0, none⟩), .int .i64 0] := hp 9 (by simp [Lof24])
          have e99 : (Roll.putD Dof24 vs [9] b0).eval (.tmp 99) = vs 9 := (Roll.eval_new 9 rfl (by decide) (by decide) (by omega))
          clear hp hlv hN
          unfold Roll.Goes
          simp only [Lof24, List.getD_cons_zero, List.getD_cons_succ]
          generalize Roll.putD Dof24 vs [9] b0 = a1 at *
          obtain ⟨gk, -, hv⟩ := h9
          rw [hv] at e99
          refine Roll.goes_val (w' := p) (.int .i64 0) rfl ?_ ⟨(Roll.outw_pure (by decide) rfl), rfl⟩
          (have ec : ∀ x, a1.eval (.const x) = x := fun _ => rfl); (have ef : ∀ x, a1.eval (.func x) = .func (.func x) #[] #[] := fun _ => rfl); generalize a1.eval = ρ at *
          go_simp <;> (intros; first | (exfalso; omega) | rfl)
        · intro vs p hI0 hp
          have hI := Roll.inw_pure (by decide) rfl hI0
          clear hI0
          have h10 : ∃ gk, (vs 9) = .tuple #[.pointer (some ⟨gk, 0, none⟩), .int .i64 0] ∧ (vs 10) = .pointer (some ⟨gk, 0, none⟩) := hp 10 (by simp [Lof24])
          have e109 : (Roll.putD Dof24 vs [10] b0).eval (.tmp 109) = vs 10 := (Roll.eval_new 10 rfl (by decide) (by decide) (by omega))
          clear hp hlv hN
          unfold Roll.Goes
          simp only [Lof24, List.getD_cons_zero, List.getD_cons_succ]
          generalize Roll.putD Dof24 vs [10] b0 = a1 at *
          obtain ⟨gk, -, hv⟩ := h10
          rw [hv] at e109
          refine Roll.goes_val (w' := p) (.pointer (some ⟨gk, 0, none⟩)) rfl ?_ ⟨(Roll.outw_pure (by decide) rfl), gk, hv, rfl⟩
          (have ec : ∀ x, a1.eval (.const x) = x := fun _ => rfl); (have ef : ∀ x, a1.eval (.func x) = .func (.func x) #[] #[] := fun _ => rfl); generalize a1.eval = ρ at *
          go_simp <;> (intros; first | (exfalso; omega) | rfl)
        · intro vs p hI0 hp
          have hI := Roll.inw_pure (by decide) rfl hI0
          clear hI0
          have h11 : (vs 11) = .int .i64 0 := hp 11 (by simp [Lof24])
          have e110 : (Roll.putD Dof24 vs [11] b0).eval (.tmp 110) = .int .i64 0 := (Roll.eval_new 11 rfl (by decide) (by decide) (by omega)).trans h11
          clear hp hlv hN
          unfold Roll.Goes
          simp only [Lof24, List.getD_cons_zero, List.getD_cons_succ]
          generalize Roll.putD Dof24 vs [11] b0 = a1 at *
          refine Roll.goes_val (w' := p) (.int .i64 0) rfl ?_ ⟨(Roll.outw_pure (by decide) rfl), rfl⟩
          (have ec : ∀ x, a1.eval (.const x) = x := fun _ => rfl); (have ef : ∀ x, a1.eval (.func x) = .func (.func x) #[] #[] := fun _ => rfl); generalize a1.eval = ρ at *
          clear h11
          go_simp <;> (intros; first | (exfalso; omega) | rfl)
      · intro vs p hI hR
        have h0 : (vs 0) = .pointer (some ⟨gp, 0, none⟩) := hR 0 (by omega)
        have h1 : (vs 1) = .pointer (some ⟨gp, 0, none⟩) := hR 1 (by omega)
        have h2 : (vs 2) = .pointer (some ⟨gp, 0, none⟩) := hR 2 (by omega)
        have h3 : (vs 3) = .pointer (some ⟨g, 0, none⟩) := hR 3 (by omega)
        have h4 : (vs 4) = .pointer (some ⟨gp, 0, none⟩) := hR 4 (by omega)
        have h5 : (vs 5) = .pointer (some ⟨gp, 0, none⟩) := hR 5 (by omega)
        have h6 : (vs 6) = .pointer (some ⟨gp, 2, none⟩) := hR 6 (by omega)
        have h7 : (vs 7) = .int .i64 (n : Int) := hR 7 (by omega)
        have h8 : ∃ gk, (vs 8) = .tuple #[.pointer (some ⟨gk, 0, none⟩), .int .i64 0] := hR 8 (by omega)
        have h9 : ∃ gk, (vs 8) = .tuple #[.pointer (some ⟨gk, 0, none⟩), .int .i64 0] ∧ (vs 9) = .tuple #[.pointer (some ⟨gk, 0, none⟩), .int .i64 0] := hR 9 (by omega)
        have h10 : ∃ gk, (vs 9) = .tuple #[.pointer (some ⟨gk, 0, none⟩), .int .i64 0] ∧ (vs 10) = .pointer (some ⟨gk, 0, none⟩) := hR 10 (by omega)
        have h11 : (vs 11) = .int .i64 0 := hR 11 (by omega)
        have h12 : ∃ gk, (vs 10) = .pointer (some ⟨gk, 0, none⟩) ∧ (vs 12) = .pointer (some ⟨gk, 0, none⟩) := hR 12 (by omega)
        have h13 : (vs 13) = .int .i64 0 := hR 13 (by omega)
        clear hR
        simp only [List.range_succ, List.range_zero, List.nil_append, List.cons_append, Roll.putD, Act.put, List.getD_cons_zero, List.getD_cons_succ, List.setIfInBounds_toArray, List.set_cons_zero, List.set_cons_succ, List.drop_succ_cons, List.drop_zero, Dof24]
        simp only [h0, h1, h2, h3, h4, h5, h6, h7, h11, h13]
        clear h0 h1 h2 h3 h4 h5 h6 h7 h11 h13
        clear h8
        generalize vs 8 = v8 at *; generalize vs 9 = v9 at *; generalize vs 10 = v10 at *; generalize vs 12 = v12 at *
        obtain ⟨gk, rfl, hl8⟩ := hI
        obtain ⟨g9, e8, rfl⟩ := h9
        obtain rfl : g9 = gk := by simpa using e8.symm
        obtain ⟨g10, e9, rfl⟩ := h10
        obtain rfl : g10 = g9 := by simpa using e9.symm
        obtain ⟨g12, e10, rfl⟩ := h12
        obtain rfl : g12 = g10 := by simpa using e10.symm
        clear e8 e9 e10
        have HL9 : Hid (Lv w p (logO g12 g (mOpen 1 n r3 rs) :: [recsO (.slice a1 n1 c1) rs, pastO gp g gl n (.slice none 0 0) 0 false, logO gl g m2, diskO g (cutD d2 [])])) := Lib.hid (by rw [← HMO.out, ← HLST.out]; exact hl8)
        have HG8 : Hid True := Lib.hid trivial
        clear hl8 HL7
        go_wp2_with (first
          | (have x1 := HG8; go_at_call 27; refine (records_lv HL9.out (ii := 0) (m := mOpen 1 n r3 rs) rfl (show rs.length ≤ 100000 by rw [← HN1.out]; exact HRL.out.1) HRL.out.2.1).mono ?_; rintro e w10 ⟨ra, rc, rfl, hl10⟩; rw [show (mOpen 1 n r3 rs).recs.length = rs.length from rfl, ← HN1.out] at hl10 ⊢; have HL10 := Lib.hid hl10; have HG9 := x1; clear hl10 x1 HG8 HL9)
          | (have x1 := HG9; go_at_call 32; obtain ⟨D9, a9, c9, hv9, hrd9⟩ := HL10.out.recsR (i := 0) rfl; obtain ⟨D8, a8, c8, hv8, hrd8⟩ := HL10.out.recsR (i := 2) rfl; rw [show (mOpen 1 n r3 rs).recs = rs from rfl, ← HN1.out] at hv9 hrd9; rw [← HN1.out] at hv8 hrd8; cases hv9; cases hv8; refine (same_any _ _ _ _ _ _ _ _ _ _ _ hrd9 hrd8 HRL.out.2.2.2).mono ?_; rintro e w11 ⟨rfl, hb⟩; rw [show (rs == rs) = true from beq_self_eq_true rs]; have HL11 := Lib.hid (HL10.out.below hb); have HG10 := x1; clear hb hrd9 hrd8 x1 HG9 HL10)
          | (have x1 := HG10; go_at_call 29; refine (room_lv HL11.out (i := 1) (m := mOpen 1 n r3 rs) rfl (show n ≤ 4096 by have := HNB.out.2; omega) (show takR rs ≤ 1000000 by have := HTK.out; omega)).mono ?_; rintro e w12 ⟨rfl, hb⟩; rw [show roomZ (mOpen 1 n r3 rs).n (mOpen 1 n r3 rs).tak = R from HRR.out]; have HL12 := Lib.hid (HL11.out.below hb); have HG11 := x1; clear hb x1 HG10 HL11)
          | (have x1 := HG11; go_at_call 19; refine (lives4_any _).mono ?_; rintro e w13 ⟨rfl, hb⟩; have HZ := Lib.hid (HL12.out.args.trans (hb.mono HL12.out.args.size)); clear hb x1 HG11 HL12))
        go_ret
        exact ⟨rfl, HZ.out⟩
end Go.Proofs.Ythffegfcgmhppaa
namespace Go.Proofs.Ythffegfcgmhppaa
open Go.RowKit
set_option linter.unusedSimpArgs false
set_option linter.unusedVariables false
section
variable {OT : List Obj} {w0 w : World} {FR DS gp g gl n : Nat} {m : LM} {d : DM} {rst : Bool} {v : Value}
theorem act_lv (h : Lv w0 w (pastO gp g gl n v m.syn rst :: recsO v m.recs :: logO gl g m :: diskO g d :: OT)) (hP : Past FR DS n m d rst) (hon : d.on = true) (D : Nat → Prop) (mo : AM) (hA : AOk D w mo) :
    Calls Try.prog 26 #[.pointer (some ⟨gp, 0, none⟩), .agg #[.int .i64 mo.kind, .int .i64 mo.n, .slice mo.ba mo.bn mo.bc]] w fun x w' => x = .returned (.bool true) ∧ Acted OT FR DS n d w0 gp g gl w' := by
  by_cases h01 : mo.kind = 0 ∨ mo.kind = 1
  · exact act_app h hP hon D mo hA h01
  · by_cases h3 : mo.kind = 3
    · exact act_reset h hP hon D mo h3
    · exact act_sync h hP hon D mo (fun e => h01 (.inl e)) (fun e => h01 (.inr e)) h3
end
theorem cutD_S (d : DM) (ts : List TM) : (cutD d ts).S = (d.restart ts).S := by
  unfold cutD DM.restart
  simp only [setFuse_S]
theorem Past.crash {FR DS n : Nat} {m : LM} {d : DM} {rst : Bool} (h : Past FR DS n m d rst) (ts : List TM) : ∃ r e rs, GA FR n (cutD d ts) r e rs ∧ ((m.syn ≤ rs.length ∧ rs.length ≤ m.recs.length ∧ rs = m.recs.take rs.length) ∨ (rst = true ∧ rs = [])) := by
  obtain ⟨r, e, rs, hga, hc⟩ := h.cr ts
  rw [h.frm, h.n_] at hga
  exact ⟨r, e, rs, hga.congr (cutD_S d ts), hc⟩
theorem setFuse_okQ {N : Nat} {d : DM} (h : d.Ok N) (n : Int) (h2 : n ≤ 9223372036854775807) : (d.setFuse n).Ok N := by
  unfold DM.setFuse
  split
  · exact ⟨h.1, h.2.1, by show n.toNat ≤ _; omega, h.2.2.2⟩
  · exact h
theorem Fine.setFuse {m : LM} {d : DM} (h : Fine m d) (k : Int) (hk : k ≤ 9223372036854775807) : Fine m (d.setFuse k) :=
  ⟨h.n4, h.syn, h.tak, h.cap, h.small, h.ga.congr (setFuse_S d k), setFuse_okQ h.ok k hk⟩
theorem begin_past (n : Nat) (h1 : 4 ≤ n) (h2 : n ≤ 15) : Past 1 (n + 2) n (mFresh 1 n) (bgD n) false := by
  obtain ⟨-, -, a, b, c, e⟩ := bg_fine n h1 h2
  exact a.past (FR := 1) (DS := n + 2) (n := n) rfl rfl e ⟨by omega, by omega⟩ ⟨h1, h2⟩ false
theorem Past.fused {FR DS n : Nat} {m : LM} {d : DM} {rst : Bool} (h : Past FR DS n m d rst) (hF : Fine m d) (k : Int) (hk : k ≤ 9223372036854775807) (r2 : Bool) : Past FR DS n m (d.setFuse k) r2 :=
  (hF.setFuse k hk).past h.frm h.n_ (by rw [setFuse_S]; exact h.len) h.fit h.n4 r2
/-- what the objects of a past are between two acts -/
def PL (gp g gl n : Nat) (v : Value) (m : LM) (d : DM) (r : Bool) (OT : List Obj) : List Obj := pastO gp g gl n v m.syn r :: recsO v m.recs :: logO gl g m :: diskO g d :: OT
theorem Lv.swap01 {w0 w : World} {a b c d : Obj} (h : Lv w0 w [b, a, c, d]) : Lv w0 w [a, b, c, d] :=
  h.pick [a, b, c, d] (fun i => if i = 0 then 1 else if i = 1 then 0 else i) (fun i j hi hj => by
    have hi : i < 4 := hi
    have hj : j < 4 := hj
    intro e
    split at e <;> split at e <;> (try split at e) <;> (try split at e) <;> omega) (fun i hi => by
    have hi : i < 4 := hi
    have hi3 : i = 0 ∨ i = 1 ∨ i = 2 ∨ i = 3 := by omega
    rcases hi3 with rfl | rfl | rfl | rfl <;> rfl)
end Go.Proofs.Ythffegfcgmhppaa
namespace Go.Proofs.Ythffegfcgmhppaa.Roll
variable {P : Program} {ops : Array Oper} {Q : Exit → Act → World → Prop}
/-- the operations from n on come last, each behind the one before it -/
def tailOk3 (ops : Array Oper) (n : Nat) : Bool := (List.range ops.size).all fun k => decide (k < n) || match ops[k]? with | none => true | some o => ((List.range n).all fun i => aheadB ops 12 k i) && (decide (k ≤ n) || (ahead o).contains (k - 1))
theorem tail_ahead3 {n k : Nat} {o : Oper} (h : tailOk3 ops n = true) (ho : ops[k]? = some o) (hk : n ≤ k) : (∀ i, i < n → aheadB ops 12 k i = true) ∧ (n < k → k - 1 ∈ ahead o) := by
  have hlt : k < ops.size := (Array.getElem?_eq_some_iff.1 ho).1
  have h1 := List.all_eq_true.1 h k (List.mem_range.2 hlt)
  simp only [ho, Bool.or_eq_true, Bool.and_eq_true, decide_eq_true_eq] at h1
  have h2 := h1.resolve_left (by omega)
  refine ⟨fun i hi => List.all_eq_true.1 h2.1 i (List.mem_range.2 hi), fun hk2 => ?_⟩
  have h3 := h2.2.resolve_left (by omega)
  simpa using h3
theorem behindB {listed : Array Bool} {k j f : Nat} {o : Oper} (h : ∀ (j : Nat) (o : Oper), ops[j]? = some o → listed[j]? = some true → ∀ i ∈ ahead o, listed[i]? = some true) (ho : ops[k]? = some o) (hd : ∀ i ∈ ahead o, listed[i]? = some true) (hb : aheadB ops (f + 1) k j = true) : listed[j]? = some true := by
  unfold aheadB at hb
  rw [ho] at hb
  simp only [Bool.or_eq_true, List.any_eq_true, List.contains_eq_mem, decide_eq_true_eq] at hb
  rcases hb with hb | ⟨i, hi, hb⟩
  · exact hd j hb
  · exact closedB h f i j hb (hd i hi)
theorem wpAny_tail3 (hb : backOk ops = true) {n : Nat} (ht : tailOk3 ops n = true) : ∀ (fuel m : Nat) (listed : Array Bool) (a : Act) (w : World), n ≤ m → m ≤ ops.size → ops.size - m ≤ fuel → listed.size = ops.size →
    (∀ j : Nat, j < m → listed[j]? = some true) → (∀ j : Nat, m ≤ j → j < ops.size → listed[j]? = some false) → wpList P ops Q (ops.toList.drop m) a w → wpAny P .any ops Q fuel listed a w := by
  intro fuel
  induction fuel with
  | zero =>
    intro m listed a w hn hm hf hl h1 h2 h
    have : m = ops.size := by omega
    subst this
    rw [List.drop_of_length_le (by simp)] at h
    refine ⟨?_, h⟩
    cases hr : Region.ready .any ops listed with
    | nil => rfl
    | cons x r =>
      have hx : x ∈ Region.ready .any ops listed := by rw [hr]; exact List.mem_cons_self
      obtain ⟨hu, o, ho, _⟩ := mem_ready.1 hx
      have := h1 x (Array.getElem?_eq_some_iff.1 ho).1
      rw [unlisted_of_getD hu] at this
      cases this
  | succ fuel ih =>
    intro m listed a w hn hm hf hl h1 h2 h
    by_cases hms : m = ops.size
    · subst hms
      rw [List.drop_of_length_le (by simp)] at h
      refine ⟨fun _ => h, fun x hx => ?_⟩
      obtain ⟨hu, o, ho, _⟩ := mem_ready.1 hx
      have := h1 x (Array.getElem?_eq_some_iff.1 ho).1
      rw [unlisted_of_getD hu] at this
      cases this
    · have hlt : m < ops.size := by omega
      have hom : ops[m]? = some ops[m] := Array.getElem?_eq_getElem hlt
      refine ⟨fun hr => ?_, fun k hk => ?_⟩
      · have := ready_least rfl hb hl hr m hlt
        rw [h2 m (Nat.le_refl _) hlt] at this
        cases this
      · obtain ⟨hu, o, ho, hedge⟩ := mem_ready.1 hk
        have hku := unlisted_of_getD hu
        have hklt : k < ops.size := (Array.getElem?_eq_some_iff.1 ho).1
        have hkm : m ≤ k := by
          rcases Nat.lt_or_ge k m with hx | hx
          · rw [h1 k hx] at hku; cases hku
          · exact hx
        have hk : k = m := by
          rcases Nat.lt_or_ge m k with hx | hx
          · obtain ⟨e, he, hbd, hon⟩ := ahead_of_edge ((tail_ahead3 ht ho (by omega)).2 (by omega))
            have := listed_of_getD (hedge e he hbd)
            rw [hon, h2 (k - 1) (by omega) (by omega)] at this
            cases this
          · omega
        subst hk
        rw [List.drop_eq_getElem_cons (by simpa using hlt)] at h
        unfold wpList at h
        unfold wpOp
        simp only [hom]
        simp only [Array.getElem_toList] at h
        have next : ∀ a' w', wpList P ops Q (ops.toList.drop (k + 1)) a' w' → wpAny P .any ops Q fuel (listed.setIfInBounds k true) a' w' := by
          intro a' w' h'
          refine ih (k + 1) _ a' w' (by omega) hlt (by omega) (by rw [Array.size_setIfInBounds]; exact hl) ?_ ?_ h'
          · intro j hj
            rw [set_get hku]
            split
            · rfl
            · exact h1 j (by omega)
          · intro j hj hjs
            rw [set_get hku, if_neg (by omega)]
            exact h2 j (by omega) hjs
        split
        · rename_i hw
          rw [if_pos hw] at h
          exact h.imp (Oper.wp_mono next) id
        · rename_i hw
          rw [if_neg hw] at h
          exact next _ _ h
theorem wpAny_heldx (hb : backOk ops = true) (hap : apartB ops = true) {L : List (List Nat)} (hlo : looksOk ops L = true) {n : Nat} (hnle : n ≤ ops.size) (htl : tailOk3 ops n = true) {I0 : World → Prop} {I1 : Value → World → Prop} {J : World → Prop} {k0 : Nat} {PL : List Bool} {S : World → World → Prop} {R : Nat → (Nat → Value) → World → Prop} {a0 : Act}
    (hsz : ∀ j t, slot ops j = some t → t < a0.tmps.size)
    (hS : ∀ j v w w', S w w' → R j v w → R j v w') (hC : ∀ j v v' w, (∀ i, i = j ∨ i ∈ L.getD j [] → v i = v' i) → R j v w → R j v' w) (hk0 : k0 < n) (hPL : ∀ (o : Oper) (k : Nat), ops[k0]? = some o → k < n → k ≠ k0 → PL.getD k false = true ∨ aheadB ops 12 k0 k = true) (hJ0 : ∀ w, I0 w → J w) (hJ1 : ∀ u w, I1 u w → J w) (hS0 : ∀ w, S w w)
    (hop : ∀ (k : Nat) (o : Oper), k < n → ops[k]? = some o → Doesw P ops L I0 I1 J k0 PL S R a0 k o)
    (hend : ∀ (vals : Nat → Value) (w : World), I1 (vals k0) w → (∀ j : Nat, j < n → R j vals w) → wpList P ops Q (ops.toList.drop n) (putOf ops vals (List.range n) a0) w) :
    ∀ (fuel : Nat) (listed : Array Bool) (vals : Nat → Value) (a : Act) (w : World), listed.toList.count false ≤ fuel → (∀ j : Nat, n ≤ j → j < ops.size → listed[j]? = some false) → Heldw ops I0 I1 k0 R a0 vals listed a w → wpAny P .any ops Q fuel listed a w := by
  have slot_lt : ∀ {j t : Nat}, slot ops j = some t → j < ops.size := by
    intro j t hj
    unfold slot at hj
    cases hk : ops[j]? with
    | none => rw [hk] at hj; cases hj
    | some o => exact (Array.getElem?_eq_some_iff.1 hk).1
  have fin : ∀ (fuel : Nat) (listed : Array Bool) (vals : Nat → Value) (a : Act) (w : World), listed.toList.count false ≤ fuel → (∀ j : Nat, n ≤ j → j < ops.size → listed[j]? = some false) → Heldw ops I0 I1 k0 R a0 vals listed a w → (∀ j : Nat, j < n → listed[j]? = some true) → wpAny P .any ops Q fuel listed a w := by
    intro fuel listed vals a w hc hun h hall
    have e : a = putOf ops vals (List.range n) a0 := by
      have et : a.tmps = (putOf ops vals (List.range n) a0).tmps := by
        refine Array.ext_getElem? fun t => ?_
        by_cases hx : ∃ j : Nat, j < n ∧ slot ops j = some t
        · obtain ⟨j, hjn, hj⟩ := hx
          rw [h.new j t (hall j hjn) hj, putOf_mem hap vals _ _ j t (List.mem_range.2 hjn) hj (hsz j t hj)]
        · rw [h.old t (fun j hj e => ?_), putOf_other ops vals _ _ t (fun j hj e => hx ⟨j, List.mem_range.1 hj, e⟩)]
          rcases Nat.lt_or_ge j n with hjn | hjn
          · exact hx ⟨j, hjn, e⟩
          · rw [hun j hjn (slot_lt e)] at hj; cases hj
      have ed : a.defers = (putOf ops vals (List.range n) a0).defers := by rw [putOf_defers]; exact h.defers
      cases a
      generalize putOf ops vals (List.range n) a0 = b at *
      cases b
      simp_all
    have hcnt : ops.size - n ≤ fuel := by
      refine Nat.le_trans ?_ hc
      have h1 : (listed.toList.drop n).count false = ops.size - n := by
        rw [List.count_eq_length.2]
        · simp [h.len]
        · intro b hb'
          obtain ⟨i, hi, rfl⟩ := List.mem_iff_getElem.1 hb'
          simp only [List.length_drop, Array.length_toList] at hi
          have := hun (n + i) (by omega) (by rw [← h.len]; omega)
          rw [Array.getElem?_eq_getElem (by omega)] at this
          simpa using (Option.some.inj this).symm
      rw [← h1]
      exact (List.drop_sublist n _).count_le false
    exact wpAny_tail3 hb htl fuel n listed a w (Nat.le_refl _) hnle hcnt h.len hall hun (e ▸ hend vals w (h.inv.1 (hall k0 hk0)) (fun j hj => h.got j (hall j hj)))
  intro fuel
  induction fuel with
  | zero =>
    intro listed vals a w hc hun h
    refine fin 0 listed vals a w hc hun h fun j hj => ?_
    have hjl : j < listed.size := by rw [h.len]; omega
    rw [Array.getElem?_eq_getElem hjl]
    have h0 : listed.toList.count false = 0 := by omega
    have := List.count_eq_zero.1 h0
    cases hv : listed[j] with
    | true => rfl
    | false => exact (this (hv ▸ (by simp))).elim
  | succ fuel ih =>
    intro listed vals a w hc hun h
    by_cases hall : ∀ j : Nat, j < n → listed[j]? = some true
    · exact fin _ listed vals a w hc hun h hall
    refine ⟨fun hr => (hall fun j hj => ready_least rfl hb h.len hr j (by omega)).elim, fun k hk => ?_⟩
    obtain ⟨hu, o, ho, hedge⟩ := mem_ready.1 hk
    have hku := unlisted_of_getD hu
    have hklt : k < ops.size := (Array.getElem?_eq_some_iff.1 ho).1
    have hkn : k < n := by
      rcases Nat.lt_or_ge k n with hx | hx
      · exact hx
      · exact (hall fun j hj => by
          exact behindB h.closed ho (fun i hi => by
            obtain ⟨e, he, hbd, hon⟩ := ahead_of_edge hi
            exact hon ▸ listed_of_getD (hedge e he hbd)) ((tail_ahead3 htl ho hx).1 j hj)).elim
    have hah : ∀ i ∈ ahead o, listed[i]? = some true := by
      intro i hi
      obtain ⟨e, he, rfl⟩ := List.mem_map.1 hi
      obtain ⟨h1, h2⟩ := List.mem_filter.1 he
      exact listed_of_getD (hedge e (by simpa using h1) h2)
    have hlk := List.all_eq_true.1 hlo k (List.mem_range.2 hklt)
    simp only [ho, Bool.and_eq_true] at hlk
    obtain ⟨⟨hsel, hpre⟩, hlk⟩ := hlk
    have hpre' : ∀ i ∈ L.getD k [], i ∈ ahead o := fun i hi => by simpa using List.all_eq_true.1 hpre i hi
    have hsame : ∀ t ∈ o.looksAt ops, a.tmps[t]? = (putOf ops vals (L.getD k []) a0).tmps[t]? := by
      intro t ht
      have h1 := List.all_eq_true.1 hlk t ht
      by_cases hx : ∃ j : Nat, listed[j]? = some true ∧ slot ops j = some t
      · obtain ⟨j, hj, hjt⟩ := hx
        have hjlt : j < ops.size := by rw [← h.len]; exact (Array.getElem?_eq_some_iff.1 hj).1
        have h2 := List.all_eq_true.1 h1 j (List.mem_range.2 hjlt)
        have hoj : ops[j]? = some ops[j] := Array.getElem?_eq_getElem hjlt
        simp only [hoj, Bool.or_eq_true, bne_iff_ne, ne_eq, List.contains_eq_mem, decide_eq_true_eq] at h2
        have hjin : j ∈ L.getD k [] := by
          rcases h2 with (h2 | h2) | h2
          · exact (h2 hjt).elim
          · exact h2
          · have := h.closed j _ hoj hj k h2
            rw [hku] at this; cases this
        rw [h.new j t hj hjt, putOf_mem hap vals _ _ j t hjin hjt (hsz j t hjt)]
      · rw [h.old t (fun j hj e => hx ⟨j, hj, e⟩), putOf_other ops vals _ _ t (fun j hj e => hx ⟨j, hah j (hpre' j hj), e⟩)]
    have hk0l : k0 < listed.size := by rw [h.len]; omega
    have hsd := Array.getElem?_eq_getElem hk0l
    have hJ : J w := by
      cases hv : listed[k0] with
      | true => rw [hv] at hsd; exact hJ1 _ _ (h.inv.1 hsd)
      | false => rw [hv] at hsd; exact hJ0 _ (h.inv.2 hsd)
    have hph : k = k0 ∨ PL.getD k false = true ∨ listed[k0]? = some false := by
      by_cases e : k = k0
      · exact .inl e
      · have hok0 : ops[k0]? = some ops[k0] := Array.getElem?_eq_getElem (by omega)
        rcases hPL _ k hok0 hkn e with hp | hp
        · exact .inr (.inl hp)
        · refine .inr (.inr ?_)
          cases hv : listed[k0] with
          | false => rw [hsd, hv]
          | true =>
            rw [hv] at hsd
            have := closedB h.closed 12 k0 k hp hsd
            rw [hku] at this; cases this
    have hd := hop k o hkn ho vals w (by
      unfold Inw
      by_cases e : k = k0
      · rw [if_pos e]; subst e; exact h.inv.2 hku
      · rw [if_neg e]
        split
        · exact hJ
        · rename_i hnp
          rcases hph with hp | hp | hp
          · exact (e hp).elim
          · exact (hnp hp).elim
          · exact h.inv.2 hp) (fun j hj => h.got j (hah j (hpre' j hj)))
    have hdst : slot ops k = o.dst := by unfold slot; rw [ho]; rfl
    refine wpOp_mono ?_ (wpOp_of_list (Q := Q) (a := a) ho ?_ ?_ (exec_congr (fun cs c e => ?_) hsame) (wanted_congr hsame) hd)
    · rintro a' w' ⟨v, rfl, hO, hR⟩
      have hSw : S w w' := by
        unfold Outw at hO
        split at hO
        · exact hO.2
        · split at hO
          · rw [hO]; exact hS0 w
          · exact hO.2
      refine ih (listed.setIfInBounds k true) (upd vals k (if o.dst.isSome then v else undef)) _ w' (by have := count_set hku; omega) (fun j hj hjs => by rw [set_get hku, if_neg (by omega)]; exact hun j hj hjs) ?_
      refine ⟨?_, ?_, ?_, ?_, ?_, ?_, ?_, ?_⟩
      · by_cases e : k = k0
        · subst e
          unfold Outw at hO
          rw [if_pos rfl] at hO
          refine ⟨fun _ => ?_, fun hf => ?_⟩
          · rw [upd_same]; exact hO.1
          · rw [set_get hku, if_pos rfl] at hf; cases hf
        · unfold Outw at hO
          rw [if_neg e] at hO
          have e2 : k0 ≠ k := fun h => e h.symm
          refine ⟨fun ht => ?_, fun hf => ?_⟩
          · rw [set_get hku, if_neg e2] at ht
            rw [upd_other e2]
            split at hO
            · rw [hO]; exact h.inv.1 ht
            · rename_i hnp
              rcases hph with hp | hp | hp
              · exact (e hp).elim
              · exact (hnp hp).elim
              · rw [ht] at hp; cases hp
          · rw [set_get hku, if_neg e2] at hf
            split at hO
            · rw [hO]; exact h.inv.2 hf
            · exact hO.1
      · rw [Array.size_setIfInBounds]; exact h.len
      · rw [← h.defers]; cases o.dst <;> rfl
      · rw [← h.size]; cases o.dst <;> simp [Act.put]
      · intro j oj hoj hj i hi
        rw [set_get hku] at hj ⊢
        by_cases ei : i = k
        · rw [if_pos ei]
        · rw [if_neg ei]
          by_cases ej : j = k
          · subst ej
            rw [ho] at hoj; cases hoj
            exact hah i hi
          · rw [if_neg ej] at hj
            exact h.closed j oj hoj hj i hi
      · intro t ht
        have hne : o.dst ≠ some t := by rw [← hdst]; exact ht k (by rw [set_get hku, if_pos rfl])
        rw [put_get_ne hne]
        refine h.old t fun j hj => ht j ?_
        rw [set_get hku]; split <;> first | rfl | exact hj
      · intro j t hj hjt
        rw [set_get hku] at hj
        by_cases ej : j = k
        · subst ej
          rw [hdst] at hjt
          rw [hjt, put_get_eq (by rw [h.size]; exact hsz j t (by rw [hdst]; exact hjt)), upd_same]
          simp
        · rw [if_neg ej] at hj
          rw [upd_other ej]
          have hne : o.dst ≠ some t := by
            intro e
            exact ej (apart_inj hap hjt (by rw [hdst]; exact e))
          rw [put_get_ne hne]
          exact h.new j t hj hjt
      · intro j hj
        rw [set_get hku] at hj
        by_cases ej : j = k
        · subst ej
          exact hR
        · rw [if_neg ej] at hj
          have hjlt : j < ops.size := by rw [← h.len]; exact (Array.getElem?_eq_some_iff.1 hj).1
          have hoj : ops[j]? = some ops[j] := Array.getElem?_eq_getElem hjlt
          have hlj := List.all_eq_true.1 hlo j (List.mem_range.2 hjlt)
          simp only [hoj, Bool.and_eq_true] at hlj
          refine hC j vals _ w' (fun i hi => ?_) (hS j _ w w' hSw (h.got j hj))
          have hik : i ≠ k := by
            rcases hi with rfl | hi
            · exact ej
            · intro e
              have h1 : i ∈ ahead ops[j] := by simpa using List.all_eq_true.1 hlj.1.2 i hi
              have h2 := h.closed j _ hoj hj i h1
              rw [e, hku] at h2; cases h2
          rw [upd_other hik]
    · intro hnone v u w'
      unfold resg
      rw [hnone]
      exact id
    · intro t ht
      rw [putOf_size]
      exact hsz k t (by rw [hdst]; exact ht)
    · rw [e] at hsel; cases hsel
/-- the checks -/
def regOk3 (ops : Array Oper) (D : List (Option Tmp)) (L : List (List Nat)) (n N : Nat) : Bool := decide (n ≤ ops.size) && tailOk3 ops n && backOk ops && apartB ops && looksOk ops L &&
  ((List.range ops.size).all fun j => match slot ops j with | some t => decide (t < N) | none => true) && ((List.range ops.size).all fun j => slot ops j == D.getD j none) &&
  (List.range ops.size).all fun k => match (ops[k]?).bind (·.guard) with | none => true | some (g, _) => (L.getD k []).contains g && (D.getD g none).isSome
theorem region_anyx {id : Nat} {l : List Oper} {a0 : Act} {w0 : World} (n : Nat) (D : List (Option Tmp)) (L : List (List Nat)) (I0 : World → Prop) (I1 : Value → World → Prop) (J : World → Prop) (k0 : Nat) (PL : List Bool) (S : World → World → Prop) (R : Nat → (Nat → Value) → World → Prop) (hm : P.follows .mixedOrders = true)
    (hok : regOk3 l.toArray D L n a0.tmps.size = true) (h0 : I0 w0.drew) (hk0 : k0 < n) (hPL : (List.range n).all (fun k => k == k0 || PL.getD k false || aheadB l.toArray 12 k0 k) = true) (hJ0 : ∀ w, I0 w → J w) (hJ1 : ∀ u w, I1 u w → J w) (hS0 : ∀ w, S w w)
    (hS : ∀ j v w w', S w w' → R j v w → R j v w') (hC : ∀ j v v' w, (∀ i, i = j ∨ i ∈ L.getD j [] → v i = v' i) → R j v w → R j v' w)
    (hop : OwesAllw P D L I0 I1 J k0 PL S R a0 0 n l)
    (hend : ∀ (vals : Nat → Value) (w : World), I1 (vals k0) w → (∀ j : Nat, j < n → R j vals w) → wpList P l.toArray Q (l.drop n) (putD D vals (List.range n) a0) w) :
    (Code.region id l.toArray true).wp P Q a0 w0 := by
  simp only [regOk3, Bool.and_eq_true] at hok
  obtain ⟨⟨⟨⟨⟨⟨⟨hnle, htl⟩, hb⟩, hap⟩, hlo⟩, hsz⟩, hD⟩, hgd⟩ := hok
  have hnle' := of_decide_eq_true hnle
  have slot_lt : ∀ {j t : Nat}, slot l.toArray j = some t → j < l.toArray.size := by
    intro j t hj
    unfold slot at hj
    cases hk : l.toArray[j]? with
    | none => rw [hk] at hj; cases hj
    | some o => exact (Array.getElem?_eq_some_iff.1 hk).1
  have hsz' : ∀ j t, slot l.toArray j = some t → t < a0.tmps.size := by
    intro j t hj
    have h1 := List.all_eq_true.1 hsz j (List.mem_range.2 (slot_lt hj))
    simp only [hj] at h1
    exact of_decide_eq_true h1
  have hD' : ∀ j, j < l.toArray.size → slot l.toArray j = D.getD j none := fun j hj => by simpa using List.all_eq_true.1 hD j (List.mem_range.2 hj)
  refine wp_region_any hm ?_
  refine wpAny_heldx hb hap hlo hnle' htl (I0 := I0) (I1 := I1) (J := J) (k0 := k0) (PL := PL) (S := S) (R := R) (a0 := a0) hsz' hS hC hk0 (fun o k ho hk hne => ?_) hJ0 hJ1 hS0 (fun k o hk ho => ?_) (fun vals w hI hR => ?_) _ _ (fun _ => undef) a0 _ ?_ ?_ ?_
  · have h1 := List.all_eq_true.1 hPL k (List.mem_range.2 hk)
    simp only [Bool.or_eq_true, beq_iff_eq] at h1
    rcases h1 with (h1 | h1) | h1
    · exact (hne h1).elim
    · exact .inl h1
    · exact .inr h1
  · have hklt : k < l.toArray.size := (Array.getElem?_eq_some_iff.1 ho).1
    have h1 := owes_of_allw l 0 n hop k o hk (by simpa using ho)
    rw [Nat.zero_add] at h1
    have hlk := List.all_eq_true.1 hlo k (List.mem_range.2 hklt)
    simp only [ho, Bool.and_eq_true] at hlk
    refine does_of_owesw hD' (fun j hj => ?_) hap hsz' (fun g want hg => ?_) h1
    · have h2 : j ∈ ahead o := by simpa using List.all_eq_true.1 hlk.1.2 j hj
      have h3 := List.all_eq_true.1 hb k (List.mem_range.2 hklt)
      simp only [ho] at h3
      have := of_decide_eq_true (List.all_eq_true.1 h3 j h2)
      omega
    · have h2 := List.all_eq_true.1 hgd k (List.mem_range.2 hklt)
      simp only [ho, Option.bind_some, hg, Bool.and_eq_true] at h2
      have hgl : g ∈ L.getD k [] := by simpa using h2.1
      refine ⟨hgl, ?_⟩
      have h4 : g ∈ ahead o := by simpa using List.all_eq_true.1 hlk.1.2 g hgl
      have h3 := List.all_eq_true.1 hb k (List.mem_range.2 hklt)
      simp only [ho] at h3
      have := of_decide_eq_true (List.all_eq_true.1 h3 g h4)
      rw [hD' g (by omega)]; exact h2.2
  · rw [putD_eq hD' vals _ _ (fun j hj => by have := List.mem_range.1 hj; omega)]
    exact hend vals w hI hR
  · simp
  · intro j _ hj
    rw [Array.getElem?_replicate, if_pos hj]
  · refine ⟨⟨fun hf => ?_, fun _ => h0⟩, by simp, rfl, rfl, ?_, fun _ _ => rfl, ?_, ?_⟩
    · rw [Array.getElem?_replicate] at hf
      split at hf <;> simp at hf
    · intro j o _ hj
      rw [Array.getElem?_replicate] at hj
      split at hj <;> simp at hj
    · intro j t hj
      rw [Array.getElem?_replicate] at hj
      split at hj <;> simp at hj
    · intro j hj
      rw [Array.getElem?_replicate] at hj
      split at hj <;> simp at hj
/-- A REGION THAT DRAWS ITS ORDER, in which operation k0 alone writes what others may see. I0: what holds ahead of it; I1: behind it, of its result; J: throughout. -/
theorem region_x {id : Nat} {l : List Oper} {a0 : Act} {w0 : World} (n N : Nat) (D : List (Option Tmp)) (L : List (List Nat)) (LV : List (Nat × Value)) (k0 : Nat) (PL : List Bool) (I0 : World → Prop) (I1 : Value → World → Prop) (J : World → Prop) (S : World → World → Prop) (RL : List ((Nat → Value) → World → Prop)) (hm : P.follows .mixedOrders = true)
    (hok : regOk3 l.toArray D L n N = true) (hN : a0.tmps.size = N) (hLV : Lives a0 LV) (h0 : I0 w0.drew) (hk0 : k0 < n)
    (hPL : (List.range n).all (fun k => k == k0 || PL.getD k false || aheadB l.toArray 12 k0 k) = true) (hJ0 : ∀ w, I0 w → J w) (hJ1 : ∀ u w, I1 u w → J w) (hS0 : ∀ w, S w w) (hS : Stabg S RL)
    (hop : ∀ b0 : Act, b0.tmps.size = N → Lives b0 LV → OwesAllw P D L I0 I1 J k0 PL S (atg L RL) b0 0 n l)
    (hend : ∀ (vals : Nat → Value) (w : World), I1 (vals k0) w → (∀ j : Nat, j < n → atg L RL j vals w) → wpList P l.toArray Q (l.drop n) (putD D vals (List.range n) a0) w) :
    (Code.region id l.toArray true).wp P Q a0 w0 := by
  refine region_anyx n D L I0 I1 J k0 PL S (atg L RL) hm (hN ▸ hok) h0 hk0 hPL hJ0 hJ1 hS0 (fun j v w w' hs h => hS.get j _ w w' hs h) (fun j v v' w hv h => ?_) (hop a0 hN hLV) hend
  unfold atg at *
  have e : rs L j v = rs L j v' := by
    funext i
    unfold rs
    split
    · rename_i hi
      exact hv i (by simpa using hi)
    · rfl
  rw [← e]; exact h
end Go.Proofs.Ythffegfcgmhppaa.Roll
namespace Go.Proofs.Ythffegfcgmhppaa
open Go.RowKit
set_option linter.unusedSimpArgs false
set_option linter.unusedVariables false
def Dtn5 : List (Option Tmp) := [some 18, some 19, some 20, some 21, some 22, some 23, some 24, some 25, some 26, some 27, some 28, some 29, some 30, some 31, some 32, some 33, some 34, some 35, some 36, some 37, some 38, some 39, some 5]
def Ltn5 : List (List Nat) := [[], [], [], [1, 2], [3], [], [4, 5], [], [], [8], [7, 9], [10], [11], [], [], [14], [13, 15], [16], [17], [6, 12, 18], [19], [0, 20], [21]]
theorem run_tornB (x y z : Int) (W : World) : (Instr.build 96 #[(0, .int .i64 x), (1, .int .i64 y), (2, .int .i64 z)]).run Try.prog W = .ok (.agg #[.int .i64 x, .int .i64 y, .int .i64 z]) W := by kernel_rfl
set_option maxRecDepth 100000 in
set_option maxHeartbeats 2000000 in
theorem torn_any (D : Nat → Prop) (a : Option Addr) (n c : Nat) (l : List Int) (S : Nat) (w : World) (hI : Is D w a n c l) (h64 : Ok64 l) (hS1 : 1 ≤ S) (hS2 : S ≤ 4096) :
    Calls Try.prog 25 #[.slice a n c, .int .i64 (S : Int)] w fun e w' => ∃ v ts, e = .returned v ∧ ts.length ≤ 20 ∧ Lv w w' [tornO v ts] := by
  have HI := Lib.hid hI
  have H64 := Lib.hid h64
  have hl := hI.1
  have HLL := Lib.hid hl
  have hnc : n ≤ c := hI.2.2.1
  have hnm : c ≤ 9223372036854775807 := hI.2.2.2.1
  have HNC := Lib.hid hnc
  clear hI h64 hl
  go_enter Try.func25, Try.ntmps25
  go_wp2_with fail
  go_loopw [5, 6] (fun u t wr => ∃ (i : Nat) (v0 : Value) (ts : List TM), v0 = u ∧ t = .int .i64 (i : Int) ∧ i = 3 * ts.length ∧ i ≤ 60 ∧ Lv w wr [accO v0 ts]) (fun _ t _ => 100 - (intOf t).toNat)
  case atStart => exact ⟨0, _, [], rfl, rfl, rfl, by omega, (Lv.refl w).acc0⟩
  case round =>
    obtain ⟨i, v0, ts, hv0, rfl, hit, hi60, hL⟩ := hrel
    subst hv0
    have HL := Lib.hid hL
    have HIT : Hid (i = 3 * ts.length ∧ i ≤ 60) := Lib.hid ⟨hit, hi60⟩
    clear hit
    obtain ⟨i2, hi2⟩ : ∃ i2, i2 = i + 2 := ⟨_, rfl⟩
    have hw2 : IntKind.i64.wrap ((i : Int) + 2) = (i2 : Int) := by rw [i64_id _ (by omega) (by omega)]; omega
    by_cases hlt : i2 < n
    · have hlt2 : (i2 : Int) < (n : Int) := by omega
      by_cases h60 : i < 60
      · have h602 : (i : Int) < 60 := by omega
        obtain ⟨b, off, -, hbs0, rfl, hcell00⟩ := HI.out.cells (by omega)
        have hbs : b < wr.heap.size := Nat.lt_of_lt_of_le hbs0 hL.args.size
        have hcell0 : ∀ q (hq : q < l.length), wr.cell? ⟨b, off + q, none⟩ = some (.int .i64 l[q]) := fun q hq => (hL.args.cell (p := ⟨b, off + q, none⟩) hbs0).trans (hcell00 q hq)
        obtain ⟨i1, hi1⟩ : ∃ i1, i1 = i + 1 := ⟨_, rfl⟩
        have HW1 : Hid (IntKind.i64.wrap ((i : Int) + 1) = (i1 : Int)) := Lib.hid (by rw [i64_id _ (by omega) (by omega)]; omega)
        have HW2 := Lib.hid hw2
        have hw3 : IntKind.i64.wrap ((i : Int) + 3) = (i : Int) + 3 := i64_id _ (by omega) (by omega)
        have HI0 : Hid ((i : Int) < (n : Int)) := Lib.hid (by omega)
        have HI1 : Hid ((i1 : Int) < (n : Int)) := Lib.hid (by omega)
        have HI2 : Hid ((i2 : Int) < (n : Int)) := Lib.hid (by omega)
        have hq0 : i < l.length := by rw [HLL.out]; omega
        have hq1 : i1 < l.length := by rw [HLL.out]; omega
        have hq2 : i2 < l.length := by rw [HLL.out]; omega
        obtain ⟨X0, hX0⟩ : ∃ x, x = l[i]'hq0 := ⟨_, rfl⟩
        obtain ⟨X1, hX1⟩ : ∃ x, x = l[i1]'hq1 := ⟨_, rfl⟩
        obtain ⟨X2, hX2⟩ : ∃ x, x = l[i2]'hq2 := ⟨_, rfl⟩
        have C0 := Lib.hid (hcell0 i hq0)
        have C1 := Lib.hid (hcell0 i1 hq1)
        have C2 := Lib.hid (hcell0 i2 hq2)
        rw [← hX0] at C0
        rw [← hX1] at C1
        rw [← hX2] at C2
        have B0 := H64.out X0 (by rw [hX0]; exact List.getElem_mem _)
        have B1 := H64.out X1 (by rw [hX1]; exact List.getElem_mem _)
        have B2 := H64.out X2 (by rw [hX2]; exact List.getElem_mem _)
        obtain ⟨A0, hA0⟩ : ∃ x, x = around X0 (S : Int) := ⟨_, rfl⟩
        obtain ⟨A1, hA1⟩ : ∃ x, x = around X1 5 := ⟨_, rfl⟩
        obtain ⟨A2, hA2⟩ : ∃ x, x = around X2 65 := ⟨_, rfl⟩
        have ab0 := around_bd X0 (S : Int) (by omega)
        rw [← hA0] at ab0
        have HAR0 : Hid (∀ u, Calls Try.prog 9 #[.int .i64 X0, .int .i64 (S : Int)] u fun e w' => e = .returned (.int .i64 A0) ∧ u = w') := Lib.hid (fun u => by rw [hA0]; exact around_any X0 (S : Int) u B0.1 B0.2 (by omega) (by omega))
        have HAR1 : Hid (∀ u, Calls Try.prog 9 #[.int .i64 X1, .int .i64 5] u fun e w' => e = .returned (.int .i64 A1) ∧ u = w') := Lib.hid (fun u => by rw [hA1]; exact around_any X1 5 u B1.1 B1.2 (by omega) (by omega))
        have HAR2 : Hid (∀ u, Calls Try.prog 9 #[.int .i64 X2, .int .i64 65] u fun e w' => e = .returned (.int .i64 A2) ∧ u = w') := Lib.hid (fun u => by rw [hA2]; exact around_any X2 65 u B2.1 B2.2 (by omega) (by omega))
        obtain ⟨tm, htm⟩ : ∃ tm : TM, tm = ⟨A0, A1, A2⟩ := ⟨_, rfl⟩
        have HTC : Hid (tcells [tm] = [.int .i64 A0, .int .i64 A1, .int .i64 A2]) := Lib.hid (by rw [htm]; rfl)
        have HTK : Hid (∀ t ∈ [tm], TOk t) := Lib.hid (fun t ht => by rw [List.mem_singleton.1 ht, htm]; exact ⟨by simp only; omega, by simp only; omega⟩)
        have HBD : Hid (ts.length + [tm].length ≤ 1000000) := Lib.hid (by have := HIT.out; simp only [List.length_cons, List.length_nil]; omega)
        have HBQ := Lib.hid hbs
        obtain ⟨Bq, ⟨kq, hown, hkB, hts⟩, hltB, -, hset⟩ := hL.get (i := 0) rfl
        have HOW := Lib.hid hown
        have HKB := Lib.hid hkB
        have HTS := Lib.hid hts
        have HST := Lib.hid hset
        have HKQ : Hid (∀ x, kq = some x → x < wr.heap.size) := Lib.hid (fun x hx => hown.lt x hx)
        have HBK : Hid (¬ kq = some b) := Lib.hid (fun e => by have := (hltB b (hkB b e)).1; omega)
        clear hown hkB hts hset hltB
        clear hcell0 hcell00 hX0 hX1 hX2 hA0 hA1 hA2 htm B0 B1 B2 ab0 hL hi1 hi2
        go_upto_region 5 with fail
        refine Roll.region_v 22 41 Dtn5 Ltn5 [(0, .slice (some ⟨b, off, none⟩) n c), (1, .int .i64 (S : Int)), (5, v0), (6, .int .i64 (i : Int))] 21 [true, true, true, true, true, true, true, true, true, true, true, true, true, true, true, true, true, true, true, true, false, false] (fun p => Below wr.heap.size wr p) (fun vv p => ∃ k', Own p 96 3 k' vv (ts.length + 1) (tcells ts ++ tcells [tm]) ∧ (∀ j, k' = some j → kq = some j ∨ wr.heap.size ≤ j) ∧ Kept (fun j => kq = some j) wr p) (fun p => Kept (fun j => kq = some j) wr p) (fun p p2 => Kept (fun j => kq = some j) p p2) [fun vv p => (vv 0) = v0, fun vv p => (vv 1) = .slice (some ⟨b, off, none⟩) n c, fun vv p => (vv 2) = .int .i64 (i : Int), fun vv p => (vv 3) = .pointer (some ⟨b, off + i, none⟩), fun vv p => (vv 4) = .int .i64 X0, fun vv p => (vv 5) = .int .i64 (S : Int), fun vv p => (vv 6) = .int .i64 A0, fun vv p => (vv 7) = .slice (some ⟨b, off, none⟩) n c, fun vv p => (vv 8) = .int .i64 (i : Int), fun vv p => (vv 9) = .int .i64 (i1 : Int), fun vv p => (vv 10) = .pointer (some ⟨b, off + i1, none⟩), fun vv p => (vv 11) = .int .i64 X1, fun vv p => (vv 12) = .int .i64 A1, fun vv p => (vv 13) = .slice (some ⟨b, off, none⟩) n c, fun vv p => (vv 14) = .int .i64 (i : Int), fun vv p => (vv 15) = .int .i64 (i2 : Int), fun vv p => (vv 16) = .pointer (some ⟨b, off + i2, none⟩), fun vv p => (vv 17) = .int .i64 X2, fun vv p => (vv 18) = .int .i64 A2, fun vv p => (vv 19) = .agg #[.int .i64 A0, .int .i64 A1, .int .i64 A2], fun vv p => ∃ x, (vv 20) = .slice (some ⟨x, 0, none⟩) 1 1 ∧ wr.heap.size ≤ x ∧ p.heap[x]? = some (.cells #[.int .i64 A0, .int .i64 A1, .int .i64 A2] 96 (0, 0)), fun vv p => True] (by kernel_rfl) (by kernel_rfl) rfl ⟨rfl, rfl, rfl, rfl, trivial⟩ ((Below.refl _ _).drew) (by decide) (by kernel_rfl) (fun _ h => Kept.of_below _ h) (fun _ _ h => by obtain ⟨_, _, _, h⟩ := h; exact h) (fun _ => Kept.refl _ _) ?_ ?_ ?_
        · exact ⟨fun _ _ _ _ h => h, fun _ _ _ _ h => h, fun _ _ _ _ h => h, fun _ _ _ _ h => h, fun _ _ _ _ h => h, fun _ _ _ _ h => h, fun _ _ _ _ h => h, fun _ _ _ _ h => h, fun _ _ _ _ h => h, fun _ _ _ _ h => h, fun _ _ _ _ h => h, fun _ _ _ _ h => h, fun _ _ _ _ h => h, fun _ _ _ _ h => h, fun _ _ _ _ h => h, fun _ _ _ _ h => h, fun _ _ _ _ h => h, fun _ _ _ _ h => h, fun _ _ _ _ h => h, fun _ _ _ _ h => h, fun _ _ _ hs h => by obtain ⟨x, e1, e2, e3⟩ := h; exact ⟨x, e1, e2, hs.heap e3 (fun e => by have := HKQ.out x e; omega)⟩, fun _ _ _ _ h => h, trivial⟩
        · intro b0 hN hlv
          refine ⟨?_, ?_, ?_, ?_, ?_, ?_, ?_, ?_, ?_, ?_, ?_, ?_, ?_, ?_, ?_, ?_, ?_, ?_, ?_, ?_, ?_, ?_, trivial⟩
          · intro vs p hI0 hp
            have hI := Roll.inw_pure (by decide) rfl hI0
            clear hI0
            have e5 : (Roll.putD Dtn5 vs [] b0).eval (.tmp 5) = v0 := (Roll.eval_old rfl).trans (hlv.at 2 (5, v0) rfl)
            clear hp hlv hN
            unfold Roll.Goes
            simp only [Ltn5, List.getD_cons_zero, List.getD_cons_succ]
            generalize Roll.putD Dtn5 vs [] b0 = a1 at *
            refine Roll.goes_val (w' := p) (v0) rfl ?_ ⟨(Roll.outw_pure (by decide) rfl), rfl⟩
            (have ec : ∀ x, a1.eval (.const x) = x := fun _ => rfl); (have ef : ∀ x, a1.eval (.func x) = .func (.func x) #[] #[] := fun _ => rfl); generalize a1.eval = ρ at *
            skip
            go_simp <;> (intros; first | (exfalso; omega) | rfl)
          · intro vs p hI0 hp
            have hI := Roll.inw_pure (by decide) rfl hI0
            clear hI0
            have e0 : (Roll.putD Dtn5 vs [] b0).eval (.tmp 0) = .slice (some ⟨b, off, none⟩) n c := (Roll.eval_old rfl).trans (hlv.at 0 (0, .slice (some ⟨b, off, none⟩) n c) rfl)
            clear hp hlv hN
            unfold Roll.Goes
            simp only [Ltn5, List.getD_cons_zero, List.getD_cons_succ]
            generalize Roll.putD Dtn5 vs [] b0 = a1 at *
            refine Roll.goes_val (w' := p) (.slice (some ⟨b, off, none⟩) n c) rfl ?_ ⟨(Roll.outw_pure (by decide) rfl), rfl⟩
            (have ec : ∀ x, a1.eval (.const x) = x := fun _ => rfl); (have ef : ∀ x, a1.eval (.func x) = .func (.func x) #[] #[] := fun _ => rfl); generalize a1.eval = ρ at *
            skip
            go_simp <;> (intros; first | (exfalso; omega) | rfl)
          · intro vs p hI0 hp
            have hI := Roll.inw_pure (by decide) rfl hI0
            clear hI0
            have e6 : (Roll.putD Dtn5 vs [] b0).eval (.tmp 6) = .int .i64 (i : Int) := (Roll.eval_old rfl).trans (hlv.at 3 (6, .int .i64 (i : Int)) rfl)
            clear hp hlv hN
            unfold Roll.Goes
            simp only [Ltn5, List.getD_cons_zero, List.getD_cons_succ]
            generalize Roll.putD Dtn5 vs [] b0 = a1 at *
            refine Roll.goes_val (w' := p) (.int .i64 (i : Int)) rfl ?_ ⟨(Roll.outw_pure (by decide) rfl), rfl⟩
            (have ec : ∀ x, a1.eval (.const x) = x := fun _ => rfl); (have ef : ∀ x, a1.eval (.func x) = .func (.func x) #[] #[] := fun _ => rfl); generalize a1.eval = ρ at *
            skip
            go_simp <;> (intros; first | (exfalso; omega) | rfl)
          · intro vs p hI0 hp
            have hI := Roll.inw_pure (by decide) rfl hI0
            clear hI0
            have h1 : (vs 1) = .slice (some ⟨b, off, none⟩) n c := hp 1 (by simp [Ltn5])
            have h2 : (vs 2) = .int .i64 (i : Int) := hp 2 (by simp [Ltn5])
            have e19 : (Roll.putD Dtn5 vs [1, 2] b0).eval (.tmp 19) = .slice (some ⟨b, off, none⟩) n c := (Roll.eval_new 1 rfl (by decide) (by decide) (by omega)).trans h1
            have e20 : (Roll.putD Dtn5 vs [1, 2] b0).eval (.tmp 20) = .int .i64 (i : Int) := (Roll.eval_new 2 rfl (by decide) (by decide) (by omega)).trans h2
            clear hp hlv hN
            unfold Roll.Goes
            simp only [Ltn5, List.getD_cons_zero, List.getD_cons_succ]
            generalize Roll.putD Dtn5 vs [1, 2] b0 = a1 at *
            have hh1 := HI0.out
            have hh2 := HNC.out
            refine Roll.goes_val (w' := p) (.pointer (some ⟨b, off + i, none⟩)) rfl ?_ ⟨(Roll.outw_pure (by decide) rfl), rfl⟩
            (have ec : ∀ x, a1.eval (.const x) = x := fun _ => rfl); (have ef : ∀ x, a1.eval (.func x) = .func (.func x) #[] #[] := fun _ => rfl); generalize a1.eval = ρ at *
            clear h1 h2
            go_simp <;> (intros; first | (exfalso; omega) | rfl)
          · intro vs p hI0 hp
            have hI := Roll.inw_pure (by decide) rfl hI0
            clear hI0
            have h3 : (vs 3) = .pointer (some ⟨b, off + i, none⟩) := hp 3 (by simp [Ltn5])
            have e21 : (Roll.putD Dtn5 vs [3] b0).eval (.tmp 21) = .pointer (some ⟨b, off + i, none⟩) := (Roll.eval_new 3 rfl (by decide) (by decide) (by omega)).trans h3
            clear hp hlv hN
            unfold Roll.Goes
            simp only [Ltn5, List.getD_cons_zero, List.getD_cons_succ]
            generalize Roll.putD Dtn5 vs [3] b0 = a1 at *
            have cf : p.cell? ⟨b, off + i, none⟩ = some (.int .i64 X0) := (hI.cell (p := ⟨b, off + i, none⟩) HBQ.out HBK.out).trans C0.out
            refine Roll.goes_val (w' := p) (.int .i64 X0) rfl ?_ ⟨(Roll.outw_pure (by decide) rfl), rfl⟩
            (have ec : ∀ x, a1.eval (.const x) = x := fun _ => rfl); (have ef : ∀ x, a1.eval (.func x) = .func (.func x) #[] #[] := fun _ => rfl); generalize a1.eval = ρ at *
            clear h3
            go_simp <;> (intros; first | (exfalso; omega) | rfl)
          · intro vs p hI0 hp
            have hI := Roll.inw_pure (by decide) rfl hI0
            clear hI0
            have e1 : (Roll.putD Dtn5 vs [] b0).eval (.tmp 1) = .int .i64 (S : Int) := (Roll.eval_old rfl).trans (hlv.at 1 (1, .int .i64 (S : Int)) rfl)
            clear hp hlv hN
            unfold Roll.Goes
            simp only [Ltn5, List.getD_cons_zero, List.getD_cons_succ]
            generalize Roll.putD Dtn5 vs [] b0 = a1 at *
            refine Roll.goes_val (w' := p) (.int .i64 (S : Int)) rfl ?_ ⟨(Roll.outw_pure (by decide) rfl), rfl⟩
            (have ec : ∀ x, a1.eval (.const x) = x := fun _ => rfl); (have ef : ∀ x, a1.eval (.func x) = .func (.func x) #[] #[] := fun _ => rfl); generalize a1.eval = ρ at *
            skip
            go_simp <;> (intros; first | (exfalso; omega) | rfl)
          · intro vs p hI0 hp
            have hI := Roll.inw_pure (by decide) rfl hI0
            clear hI0
            have h4 : (vs 4) = .int .i64 X0 := hp 4 (by simp [Ltn5])
            have h5 : (vs 5) = .int .i64 (S : Int) := hp 5 (by simp [Ltn5])
            have e22 : (Roll.putD Dtn5 vs [4, 5] b0).eval (.tmp 22) = .int .i64 X0 := (Roll.eval_new 4 rfl (by decide) (by decide) (by omega)).trans h4
            have e23 : (Roll.putD Dtn5 vs [4, 5] b0).eval (.tmp 23) = .int .i64 (S : Int) := (Roll.eval_new 5 rfl (by decide) (by decide) (by omega)).trans h5
            clear hp hlv hN
            unfold Roll.Goes
            simp only [Ltn5, List.getD_cons_zero, List.getD_cons_succ]
            generalize Roll.putD Dtn5 vs [4, 5] b0 = a1 at *
            refine Roll.goes_call 9 #[.int .i64 X0, .int .i64 (S : Int)] p rfl (by have ec : ∀ x, a1.eval (.const x) = x := fun _ => rfl; have ef : ∀ x, a1.eval (.func x) = .func (.func x) #[] #[] := fun _ => rfl; generalize a1.eval = ρ at *; go_simp) ?_
            refine (HAR0.out p).mono ?_
            rintro y p2 ⟨rfl, rfl⟩
            exact ⟨_, rfl, (Roll.outw_pure (by decide) rfl), rfl⟩
          · intro vs p hI0 hp
            have hI := Roll.inw_pure (by decide) rfl hI0
            clear hI0
            have e0 : (Roll.putD Dtn5 vs [] b0).eval (.tmp 0) = .slice (some ⟨b, off, none⟩) n c := (Roll.eval_old rfl).trans (hlv.at 0 (0, .slice (some ⟨b, off, none⟩) n c) rfl)
            clear hp hlv hN
            unfold Roll.Goes
            simp only [Ltn5, List.getD_cons_zero, List.getD_cons_succ]
            generalize Roll.putD Dtn5 vs [] b0 = a1 at *
            refine Roll.goes_val (w' := p) (.slice (some ⟨b, off, none⟩) n c) rfl ?_ ⟨(Roll.outw_pure (by decide) rfl), rfl⟩
            (have ec : ∀ x, a1.eval (.const x) = x := fun _ => rfl); (have ef : ∀ x, a1.eval (.func x) = .func (.func x) #[] #[] := fun _ => rfl); generalize a1.eval = ρ at *
            skip
            go_simp <;> (intros; first | (exfalso; omega) | rfl)
          · intro vs p hI0 hp
            have hI := Roll.inw_pure (by decide) rfl hI0
            clear hI0
            have e6 : (Roll.putD Dtn5 vs [] b0).eval (.tmp 6) = .int .i64 (i : Int) := (Roll.eval_old rfl).trans (hlv.at 3 (6, .int .i64 (i : Int)) rfl)
            clear hp hlv hN
            unfold Roll.Goes
            simp only [Ltn5, List.getD_cons_zero, List.getD_cons_succ]
            generalize Roll.putD Dtn5 vs [] b0 = a1 at *
            refine Roll.goes_val (w' := p) (.int .i64 (i : Int)) rfl ?_ ⟨(Roll.outw_pure (by decide) rfl), rfl⟩
            (have ec : ∀ x, a1.eval (.const x) = x := fun _ => rfl); (have ef : ∀ x, a1.eval (.func x) = .func (.func x) #[] #[] := fun _ => rfl); generalize a1.eval = ρ at *
            skip
            go_simp <;> (intros; first | (exfalso; omega) | rfl)
          · intro vs p hI0 hp
            have hI := Roll.inw_pure (by decide) rfl hI0
            clear hI0
            have h8 : (vs 8) = .int .i64 (i : Int) := hp 8 (by simp [Ltn5])
            have e26 : (Roll.putD Dtn5 vs [8] b0).eval (.tmp 26) = .int .i64 (i : Int) := (Roll.eval_new 8 rfl (by decide) (by decide) (by omega)).trans h8
            clear hp hlv hN
            unfold Roll.Goes
            simp only [Ltn5, List.getD_cons_zero, List.getD_cons_succ]
            generalize Roll.putD Dtn5 vs [8] b0 = a1 at *
            have hw := HW1.out
            refine Roll.goes_val (w' := p) (.int .i64 (i1 : Int)) rfl ?_ ⟨(Roll.outw_pure (by decide) rfl), rfl⟩
            (have ec : ∀ x, a1.eval (.const x) = x := fun _ => rfl); (have ef : ∀ x, a1.eval (.func x) = .func (.func x) #[] #[] := fun _ => rfl); generalize a1.eval = ρ at *
            clear h8
            go_simp <;> (intros; first | (exfalso; omega) | rfl)
          · intro vs p hI0 hp
            have hI := Roll.inw_pure (by decide) rfl hI0
            clear hI0
            have h7 : (vs 7) = .slice (some ⟨b, off, none⟩) n c := hp 7 (by simp [Ltn5])
            have h9 : (vs 9) = .int .i64 (i1 : Int) := hp 9 (by simp [Ltn5])
            have e25 : (Roll.putD Dtn5 vs [7, 9] b0).eval (.tmp 25) = .slice (some ⟨b, off, none⟩) n c := (Roll.eval_new 7 rfl (by decide) (by decide) (by omega)).trans h7
            have e27 : (Roll.putD Dtn5 vs [7, 9] b0).eval (.tmp 27) = .int .i64 (i1 : Int) := (Roll.eval_new 9 rfl (by decide) (by decide) (by omega)).trans h9
            clear hp hlv hN
            unfold Roll.Goes
            simp only [Ltn5, List.getD_cons_zero, List.getD_cons_succ]
            generalize Roll.putD Dtn5 vs [7, 9] b0 = a1 at *
            have hh1 := HI1.out
            have hh2 := HNC.out
            refine Roll.goes_val (w' := p) (.pointer (some ⟨b, off + i1, none⟩)) rfl ?_ ⟨(Roll.outw_pure (by decide) rfl), rfl⟩
            (have ec : ∀ x, a1.eval (.const x) = x := fun _ => rfl); (have ef : ∀ x, a1.eval (.func x) = .func (.func x) #[] #[] := fun _ => rfl); generalize a1.eval = ρ at *
            clear h7 h9
            go_simp <;> (intros; first | (exfalso; omega) | rfl)
          · intro vs p hI0 hp
            have hI := Roll.inw_pure (by decide) rfl hI0
            clear hI0
            have h10 : (vs 10) = .pointer (some ⟨b, off + i1, none⟩) := hp 10 (by simp [Ltn5])
            have e28 : (Roll.putD Dtn5 vs [10] b0).eval (.tmp 28) = .pointer (some ⟨b, off + i1, none⟩) := (Roll.eval_new 10 rfl (by decide) (by decide) (by omega)).trans h10
            clear hp hlv hN
            unfold Roll.Goes
            simp only [Ltn5, List.getD_cons_zero, List.getD_cons_succ]
            generalize Roll.putD Dtn5 vs [10] b0 = a1 at *
            have cf : p.cell? ⟨b, off + i1, none⟩ = some (.int .i64 X1) := (hI.cell (p := ⟨b, off + i1, none⟩) HBQ.out HBK.out).trans C1.out
            refine Roll.goes_val (w' := p) (.int .i64 X1) rfl ?_ ⟨(Roll.outw_pure (by decide) rfl), rfl⟩
            (have ec : ∀ x, a1.eval (.const x) = x := fun _ => rfl); (have ef : ∀ x, a1.eval (.func x) = .func (.func x) #[] #[] := fun _ => rfl); generalize a1.eval = ρ at *
            clear h10
            go_simp <;> (intros; first | (exfalso; omega) | rfl)
          · intro vs p hI0 hp
            have hI := Roll.inw_pure (by decide) rfl hI0
            clear hI0
            have h11 : (vs 11) = .int .i64 X1 := hp 11 (by simp [Ltn5])
            have e29 : (Roll.putD Dtn5 vs [11] b0).eval (.tmp 29) = .int .i64 X1 := (Roll.eval_new 11 rfl (by decide) (by decide) (by omega)).trans h11
            clear hp hlv hN
            unfold Roll.Goes
            simp only [Ltn5, List.getD_cons_zero, List.getD_cons_succ]
            generalize Roll.putD Dtn5 vs [11] b0 = a1 at *
            refine Roll.goes_call 9 #[.int .i64 X1, .int .i64 5] p rfl (by have ec : ∀ x, a1.eval (.const x) = x := fun _ => rfl; have ef : ∀ x, a1.eval (.func x) = .func (.func x) #[] #[] := fun _ => rfl; generalize a1.eval = ρ at *; go_simp) ?_
            refine (HAR1.out p).mono ?_
            rintro y p2 ⟨rfl, rfl⟩
            exact ⟨_, rfl, (Roll.outw_pure (by decide) rfl), rfl⟩
          · intro vs p hI0 hp
            have hI := Roll.inw_pure (by decide) rfl hI0
            clear hI0
            have e0 : (Roll.putD Dtn5 vs [] b0).eval (.tmp 0) = .slice (some ⟨b, off, none⟩) n c := (Roll.eval_old rfl).trans (hlv.at 0 (0, .slice (some ⟨b, off, none⟩) n c) rfl)
            clear hp hlv hN
            unfold Roll.Goes
            simp only [Ltn5, List.getD_cons_zero, List.getD_cons_succ]
            generalize Roll.putD Dtn5 vs [] b0 = a1 at *
            refine Roll.goes_val (w' := p) (.slice (some ⟨b, off, none⟩) n c) rfl ?_ ⟨(Roll.outw_pure (by decide) rfl), rfl⟩
            (have ec : ∀ x, a1.eval (.const x) = x := fun _ => rfl); (have ef : ∀ x, a1.eval (.func x) = .func (.func x) #[] #[] := fun _ => rfl); generalize a1.eval = ρ at *
            skip
            go_simp <;> (intros; first | (exfalso; omega) | rfl)
          · intro vs p hI0 hp
            have hI := Roll.inw_pure (by decide) rfl hI0
            clear hI0
            have e6 : (Roll.putD Dtn5 vs [] b0).eval (.tmp 6) = .int .i64 (i : Int) := (Roll.eval_old rfl).trans (hlv.at 3 (6, .int .i64 (i : Int)) rfl)
            clear hp hlv hN
            unfold Roll.Goes
            simp only [Ltn5, List.getD_cons_zero, List.getD_cons_succ]
            generalize Roll.putD Dtn5 vs [] b0 = a1 at *
            refine Roll.goes_val (w' := p) (.int .i64 (i : Int)) rfl ?_ ⟨(Roll.outw_pure (by decide) rfl), rfl⟩
            (have ec : ∀ x, a1.eval (.const x) = x := fun _ => rfl); (have ef : ∀ x, a1.eval (.func x) = .func (.func x) #[] #[] := fun _ => rfl); generalize a1.eval = ρ at *
            skip
            go_simp <;> (intros; first | (exfalso; omega) | rfl)
          · intro vs p hI0 hp
            have hI := Roll.inw_pure (by decide) rfl hI0
            clear hI0
            have h14 : (vs 14) = .int .i64 (i : Int) := hp 14 (by simp [Ltn5])
            have e32 : (Roll.putD Dtn5 vs [14] b0).eval (.tmp 32) = .int .i64 (i : Int) := (Roll.eval_new 14 rfl (by decide) (by decide) (by omega)).trans h14
            clear hp hlv hN
            unfold Roll.Goes
            simp only [Ltn5, List.getD_cons_zero, List.getD_cons_succ]
            generalize Roll.putD Dtn5 vs [14] b0 = a1 at *
            have hw := HW2.out
            refine Roll.goes_val (w' := p) (.int .i64 (i2 : Int)) rfl ?_ ⟨(Roll.outw_pure (by decide) rfl), rfl⟩
            (have ec : ∀ x, a1.eval (.const x) = x := fun _ => rfl); (have ef : ∀ x, a1.eval (.func x) = .func (.func x) #[] #[] := fun _ => rfl); generalize a1.eval = ρ at *
            clear h14
            go_simp <;> (intros; first | (exfalso; omega) | rfl)
          · intro vs p hI0 hp
            have hI := Roll.inw_pure (by decide) rfl hI0
            clear hI0
            have h13 : (vs 13) = .slice (some ⟨b, off, none⟩) n c := hp 13 (by simp [Ltn5])
            have h15 : (vs 15) = .int .i64 (i2 : Int) := hp 15 (by simp [Ltn5])
            have e31 : (Roll.putD Dtn5 vs [13, 15] b0).eval (.tmp 31) = .slice (some ⟨b, off, none⟩) n c := (Roll.eval_new 13 rfl (by decide) (by decide) (by omega)).trans h13
            have e33 : (Roll.putD Dtn5 vs [13, 15] b0).eval (.tmp 33) = .int .i64 (i2 : Int) := (Roll.eval_new 15 rfl (by decide) (by decide) (by omega)).trans h15
            clear hp hlv hN
            unfold Roll.Goes
            simp only [Ltn5, List.getD_cons_zero, List.getD_cons_succ]
            generalize Roll.putD Dtn5 vs [13, 15] b0 = a1 at *
            have hh1 := HI2.out
            have hh2 := HNC.out
            refine Roll.goes_val (w' := p) (.pointer (some ⟨b, off + i2, none⟩)) rfl ?_ ⟨(Roll.outw_pure (by decide) rfl), rfl⟩
            (have ec : ∀ x, a1.eval (.const x) = x := fun _ => rfl); (have ef : ∀ x, a1.eval (.func x) = .func (.func x) #[] #[] := fun _ => rfl); generalize a1.eval = ρ at *
            clear h13 h15
            go_simp <;> (intros; first | (exfalso; omega) | rfl)
          · intro vs p hI0 hp
            have hI := Roll.inw_pure (by decide) rfl hI0
            clear hI0
            have h16 : (vs 16) = .pointer (some ⟨b, off + i2, none⟩) := hp 16 (by simp [Ltn5])
            have e34 : (Roll.putD Dtn5 vs [16] b0).eval (.tmp 34) = .pointer (some ⟨b, off + i2, none⟩) := (Roll.eval_new 16 rfl (by decide) (by decide) (by omega)).trans h16
            clear hp hlv hN
            unfold Roll.Goes
            simp only [Ltn5, List.getD_cons_zero, List.getD_cons_succ]
            generalize Roll.putD Dtn5 vs [16] b0 = a1 at *
            have cf : p.cell? ⟨b, off + i2, none⟩ = some (.int .i64 X2) := (hI.cell (p := ⟨b, off + i2, none⟩) HBQ.out HBK.out).trans C2.out
            refine Roll.goes_val (w' := p) (.int .i64 X2) rfl ?_ ⟨(Roll.outw_pure (by decide) rfl), rfl⟩
            (have ec : ∀ x, a1.eval (.const x) = x := fun _ => rfl); (have ef : ∀ x, a1.eval (.func x) = .func (.func x) #[] #[] := fun _ => rfl); generalize a1.eval = ρ at *
            clear h16
            go_simp <;> (intros; first | (exfalso; omega) | rfl)
          · intro vs p hI0 hp
            have hI := Roll.inw_pure (by decide) rfl hI0
            clear hI0
            have h17 : (vs 17) = .int .i64 X2 := hp 17 (by simp [Ltn5])
            have e35 : (Roll.putD Dtn5 vs [17] b0).eval (.tmp 35) = .int .i64 X2 := (Roll.eval_new 17 rfl (by decide) (by decide) (by omega)).trans h17
            clear hp hlv hN
            unfold Roll.Goes
            simp only [Ltn5, List.getD_cons_zero, List.getD_cons_succ]
            generalize Roll.putD Dtn5 vs [17] b0 = a1 at *
            refine Roll.goes_call 9 #[.int .i64 X2, .int .i64 65] p rfl (by have ec : ∀ x, a1.eval (.const x) = x := fun _ => rfl; have ef : ∀ x, a1.eval (.func x) = .func (.func x) #[] #[] := fun _ => rfl; generalize a1.eval = ρ at *; go_simp) ?_
            refine (HAR2.out p).mono ?_
            rintro y p2 ⟨rfl, rfl⟩
            exact ⟨_, rfl, (Roll.outw_pure (by decide) rfl), rfl⟩
          · intro vs p hI0 hp
            have hI := Roll.inw_pure (by decide) rfl hI0
            clear hI0
            have h6 : (vs 6) = .int .i64 A0 := hp 6 (by simp [Ltn5])
            have h12 : (vs 12) = .int .i64 A1 := hp 12 (by simp [Ltn5])
            have h18 : (vs 18) = .int .i64 A2 := hp 18 (by simp [Ltn5])
            have e24 : (Roll.putD Dtn5 vs [6, 12, 18] b0).eval (.tmp 24) = .int .i64 A0 := (Roll.eval_new 6 rfl (by decide) (by decide) (by omega)).trans h6
            have e30 : (Roll.putD Dtn5 vs [6, 12, 18] b0).eval (.tmp 30) = .int .i64 A1 := (Roll.eval_new 12 rfl (by decide) (by decide) (by omega)).trans h12
            have e36 : (Roll.putD Dtn5 vs [6, 12, 18] b0).eval (.tmp 36) = .int .i64 A2 := (Roll.eval_new 18 rfl (by decide) (by decide) (by omega)).trans h18
            clear hp hlv hN
            unfold Roll.Goes
            simp only [Ltn5, List.getD_cons_zero, List.getD_cons_succ]
            generalize Roll.putD Dtn5 vs [6, 12, 18] b0 = a1 at *
            have hb1 := run_tornB
            refine Roll.goes_val (w' := p) (.agg #[.int .i64 A0, .int .i64 A1, .int .i64 A2]) rfl ?_ ⟨(Roll.outw_pure (by decide) rfl), rfl⟩
            (have ec : ∀ x, a1.eval (.const x) = x := fun _ => rfl); (have ef : ∀ x, a1.eval (.func x) = .func (.func x) #[] #[] := fun _ => rfl); generalize a1.eval = ρ at *
            clear h6 h12 h18
            go_simp <;> (intros; first | (exfalso; omega) | rfl)
          · intro vs p hI0 hp
            have hI := Roll.inw_pre (by decide) rfl hI0
            clear hI0
            have h19 : (vs 19) = .agg #[.int .i64 A0, .int .i64 A1, .int .i64 A2] := hp 19 (by simp [Ltn5])
            have e37 : (Roll.putD Dtn5 vs [19] b0).eval (.tmp 37) = .agg #[.int .i64 A0, .int .i64 A1, .int .i64 A2] := (Roll.eval_new 19 rfl (by decide) (by decide) (by omega)).trans h19
            clear hp hlv hN
            unfold Roll.Goes
            simp only [Ltn5, List.getD_cons_zero, List.getD_cons_succ]
            generalize Roll.putD Dtn5 vs [19] b0 = a1 at *
            have hal : Below p.heap.size p (p.alloc (.cells #[.int .i64 A0, .int .i64 A1, .int .i64 A2] 96)) := (Below.refl _ _).alloc (Nat.le_refl _) _
            refine Roll.goes_val (w' := p.alloc (.cells #[.int .i64 A0, .int .i64 A1, .int .i64 A2] 96)) (.slice (some ⟨p.heap.size, 0, none⟩) 1 1) rfl (by have ec : ∀ x, a1.eval (.const x) = x := fun _ => rfl; have ef : ∀ x, a1.eval (.func x) = .func (.func x) #[] #[] := fun _ => rfl; have hbs := run_bld67; generalize a1.eval = ρ at *; go_simp <;> (intros; first | (exfalso; omega) | rfl)) ⟨Roll.outw_pre (by decide) rfl (hI.trans (hal.mono hI.size)) (Kept.of_below _ hal), p.heap.size, rfl, hI.size, heap_new rfl⟩
          · intro vs p hI0 hp
            have hI := Roll.inw_k0 rfl hI0
            clear hI0
            have h0 : (vs 0) = v0 := hp 0 (by simp [Ltn5])
            have h20 : ∃ x, (vs 20) = .slice (some ⟨x, 0, none⟩) 1 1 ∧ wr.heap.size ≤ x ∧ p.heap[x]? = some (.cells #[.int .i64 A0, .int .i64 A1, .int .i64 A2] 96 (0, 0)) := hp 20 (by simp [Ltn5])
            have e18 : (Roll.putD Dtn5 vs [0, 20] b0).eval (.tmp 18) = v0 := (Roll.eval_new 0 rfl (by decide) (by decide) (by omega)).trans h0
            have e38 : (Roll.putD Dtn5 vs [0, 20] b0).eval (.tmp 38) = vs 20 := (Roll.eval_new 20 rfl (by decide) (by decide) (by omega))
            clear hp hlv hN
            unfold Roll.Goes
            simp only [Ltn5, List.getD_cons_zero, List.getD_cons_succ]
            generalize Roll.putD Dtn5 vs [0, 20] b0 = a1 at *
            obtain ⟨x, hv20, hx, hc⟩ := h20
            rw [hv20] at e38
            obtain ⟨i0, hi0, hz0, hz1, hz2⟩ := info_parts info67
            refine wpList_append_any _ rfl (.tmp 18) (.tmp 38) _ _ rfl 96 i0 _ 3 24 Try.underlying51 hi0 hz0 hz1 hz2 tsize67 kq v0 ts.length (tcells ts) e18 (HOW.out.kept (Kept.of_below (fun _ => False) hI) (fun _ _ h => h)) 1 (tcells [tm]) (by rw [e38]; exact src_new (us := [tm]) (by rw [HTC.out]; exact hc)) (by have := HBD.out; simp only [List.length_cons, List.length_nil] at this; unfold maxLen; omega) (by have := HBD.out; simp only [List.length_cons, List.length_nil] at this; omega) ?_
            intro k' v' w' ho' hf' hK' hn'
            exact ⟨v', rfl, Roll.outw_k0 rfl ⟨k', ho', fun j hj => (hf' j hj).imp id (fun e => Nat.le_trans hI.size e), (Kept.of_below (fun j => kq = some j) hI).trans hK' (fun _ _ h => h)⟩ hK', trivial⟩
        · intro vs p hI hR
          have h0 : (vs 0) = v0 := hR 0 (by omega)
          have h1 : (vs 1) = .slice (some ⟨b, off, none⟩) n c := hR 1 (by omega)
          have h2 : (vs 2) = .int .i64 (i : Int) := hR 2 (by omega)
          have h3 : (vs 3) = .pointer (some ⟨b, off + i, none⟩) := hR 3 (by omega)
          have h4 : (vs 4) = .int .i64 X0 := hR 4 (by omega)
          have h5 : (vs 5) = .int .i64 (S : Int) := hR 5 (by omega)
          have h6 : (vs 6) = .int .i64 A0 := hR 6 (by omega)
          have h7 : (vs 7) = .slice (some ⟨b, off, none⟩) n c := hR 7 (by omega)
          have h8 : (vs 8) = .int .i64 (i : Int) := hR 8 (by omega)
          have h9 : (vs 9) = .int .i64 (i1 : Int) := hR 9 (by omega)
          have h10 : (vs 10) = .pointer (some ⟨b, off + i1, none⟩) := hR 10 (by omega)
          have h11 : (vs 11) = .int .i64 X1 := hR 11 (by omega)
          have h12 : (vs 12) = .int .i64 A1 := hR 12 (by omega)
          have h13 : (vs 13) = .slice (some ⟨b, off, none⟩) n c := hR 13 (by omega)
          have h14 : (vs 14) = .int .i64 (i : Int) := hR 14 (by omega)
          have h15 : (vs 15) = .int .i64 (i2 : Int) := hR 15 (by omega)
          have h16 : (vs 16) = .pointer (some ⟨b, off + i2, none⟩) := hR 16 (by omega)
          have h17 : (vs 17) = .int .i64 X2 := hR 17 (by omega)
          have h18 : (vs 18) = .int .i64 A2 := hR 18 (by omega)
          have h19 : (vs 19) = .agg #[.int .i64 A0, .int .i64 A1, .int .i64 A2] := hR 19 (by omega)
          have h20 : ∃ x, (vs 20) = .slice (some ⟨x, 0, none⟩) 1 1 ∧ wr.heap.size ≤ x ∧ p.heap[x]? = some (.cells #[.int .i64 A0, .int .i64 A1, .int .i64 A2] 96 (0, 0)) := hR 20 (by omega)
          have h21 : True := hR 21 (by omega)
          clear hR
          simp only [List.range_succ, List.range_zero, List.nil_append, List.cons_append, Roll.putD, Act.put, List.getD_cons_zero, List.getD_cons_succ, List.setIfInBounds_toArray, List.set_cons_zero, List.set_cons_succ, List.drop_succ_cons, List.drop_zero, Dtn5]
          simp only [h0, h1, h2, h3, h4, h5, h6, h7, h8, h9, h10, h11, h12, h13, h14, h15, h16, h17, h18, h19]
          clear h0 h1 h2 h3 h4 h5 h6 h7 h8 h9 h10 h11 h12 h13 h14 h15 h16 h17 h18 h19
          generalize vs 21 = v21 at *
          obtain ⟨k', g1, g2, g3⟩ := hI
          have HL3 : Hid (Lv w p [accO v21 (ts ++ [tm])]) := Lib.hid (by
            refine HST.out p (accO v21 (ts ++ [tm])) (fun j => k' = some j) ⟨k', ?_, fun _ h => h, fun t ht => ?_⟩ (g3.mono (fun j _ hj => HKB.out j hj)) (fun j hj => (g2 j hj).imp (HKB.out j) id) (fun j hj => g1.lt j hj)
            · rw [List.length_append, tcells_app]; exact g1
            · rcases List.mem_append.1 ht with ht | ht
              · exact HTS.out t ht
              · exact HTK.out t ht)
          clear g1 g2 g3 h20 h21
          go_wp2_with fail
          go_roundw
          case rel => exact ⟨i + 3, v21, ts ++ [tm], rfl, by go_num, by rw [List.length_append]; have := HIT.out; simp only [List.length_cons, List.length_nil]; omega, by have := HIT.out; omega, HL3.out⟩
          case measure => simp [intOf]; omega
      · have h602 : (60 : Int) ≤ (i : Int) := by omega
        have HT := Lib.hid (HL.out.accTorn (i := 0) rfl)
        clear hL HL
        go_wp2
        go_ret
        first | exact ⟨_, rfl, ts, by have := HIT.out; omega, HT.out⟩ | exact ⟨_, ts, rfl, by have := HIT.out; omega, HT.out⟩
    · have hlt2 : (n : Int) ≤ (i2 : Int) := by omega
      have HT := Lib.hid (HL.out.accTorn (i := 0) rfl)
      clear hL HL
      go_wp2
      go_ret
      first | exact ⟨_, rfl, ts, by have := HIT.out; omega, HT.out⟩ | exact ⟨_, ts, rfl, by have := HIT.out; omega, HT.out⟩
end Go.Proofs.Ythffegfcgmhppaa

/-
  Check, the program's and the reference's (written by gen_ZB.py).
-/
import Derived.Test.YtcdjilnlmihnhaaDoorZA
namespace Go.Proofs.YtcdjilnlmihnhaaDoor
open Go.RowKit
set_option linter.unusedSimpArgs false
set_option linter.unusedVariables false
attribute [local go_sem ↓] exec_loadShift exec_storeShift exec_loadSeg exec_storeSeg exec_loadZone exec_storeZone
attribute [local go_sem] run_storeShift run_storeSeg run_storeZone
theorem below_drewZ {n : Nat} {a b : World} (h : Below n a b) (k : Nat) : Below n a (b.drewN k) := ⟨h.os, h.tape, h.output, h.size, h.block⟩
/-- what Check finds among the shifts, behind one at prev -/
def chkL (prev : Option Int) : List SM → Int
  | [] => 0
  | s :: l => if ¬ (0 ≤ s.t ∧ s.t ≤ 8589934592) ∨ ¬ (-900 ≤ s.o ∧ s.o ≤ 900) then 5 else match prev with
    | none => chkL (some s.t) l
    | some p => if s.t - p < 2880 then 12 else chkL (some s.t) l
def chkZ (o : Int) (L : List SM) : Int := if 100 < L.length then 2 else if ¬ (-900 ≤ o ∧ o ≤ 900) then 5 else chkL none L
theorem chkL_bad {p : Option Int} {s : SM} {l : List SM} (h : ¬ (0 ≤ s.t ∧ s.t ≤ 8589934592) ∨ ¬ (-900 ≤ s.o ∧ s.o ≤ 900)) : chkL p (s :: l) = 5 := by cases p <;> rw [chkL, if_pos h]
theorem chkL_go_none {s : SM} {l : List SM} (h1 : 0 ≤ s.t ∧ s.t ≤ 8589934592) (h2 : -900 ≤ s.o ∧ s.o ≤ 900) : chkL none (s :: l) = chkL (some s.t) l := by
  rw [chkL, if_neg (fun h => h.elim (fun h => h h1) (fun h => h h2))]
theorem chkL_gap {p : Int} {s : SM} {l : List SM} (h1 : 0 ≤ s.t ∧ s.t ≤ 8589934592) (h2 : -900 ≤ s.o ∧ s.o ≤ 900) (h : s.t - p < 2880) : chkL (some p) (s :: l) = 12 := by
  rw [chkL, if_neg (fun h => h.elim (fun h => h h1) (fun h => h h2))]
  simp only [if_pos h]
theorem chkL_go {p : Int} {s : SM} {l : List SM} (h1 : 0 ≤ s.t ∧ s.t ≤ 8589934592) (h2 : -900 ≤ s.o ∧ s.o ≤ 900) (h : ¬ s.t - p < 2880) : chkL (some p) (s :: l) = chkL (some s.t) l := by
  rw [chkL, if_neg (fun h => h.elim (fun h => h h1) (fun h => h h2))]
  simp only [if_neg h]
/-- where the shift before number i lies -/
def prevZ (L : List SM) : Nat → Option Int
  | 0 => none
  | i + 1 => (L[i]?).map (·.t)
theorem prevZ_succ (L : List SM) (i : Nat) (h : i < L.length) : prevZ L (i + 1) = some L[i].t := by rw [prevZ, List.getElem?_eq_getElem h]; rfl
set_option maxRecDepth 100000 in
set_option maxHeartbeats 2000000 in
theorem zcheck_any {w : World} {D : Nat → Prop} {o : Int} {a : Option Addr} {n c : Nat} {L : List SM} (h : Ss D w a n c L) :
    Calls Tryd.prog 18 #[zV o a n c] w fun e w' => e = .returned (.int .i64 (chkZ o L)) ∧ Below w.heap.size w w' := by
  obtain ⟨W1, hW1⟩ : ∃ W1, W1 = w.alloc (.cells #[.int .i64 o, .slice a n c] 25) := ⟨_, rfl⟩
  obtain ⟨gz, hgz⟩ : ∃ gz, gz = w.heap.size := ⟨_, rfl⟩
  have hr1 : W1.heap[gz]? = some (.cells #[.int .i64 o, .slice a n c] 25 (0, 0)) := by rw [hW1, hgz]; exact heap_newZ
  have hb1 : Below w.heap.size w W1 := by rw [hW1]; exact (Below.refl _ w).alloc (Nat.le_refl _) _
  have hs1 := h.below hb1
  have c0 : W1.cell? ⟨gz, 0, none⟩ = some (.int .i64 o) := cell_of_row W1 gz 0 _ _ _ hr1
  have c1 : W1.cell? ⟨gz, 1, none⟩ = some (.slice a n c) := cell_of_row W1 gz 1 _ _ _ hr1
  have HS := Lib.hid hs1
  have HW1 := Lib.hid hb1
  have HL := Lib.hid hs1.1
  have HGZL := Lib.hid (heap_lt hr1)
  have HC1 := Lib.hid c1
  have hm1 : n ≤ c := h.2.2.1
  have hm2 : c ≤ 9223372036854775807 := h.2.2.2.1
  have hln := h.1
  have HA0 := Lib.hid (fun u => allowedZ_any o u)
  clear h hs1 hb1 hr1
  unfold zV
  by_cases hlim : 100 < n
  · have HRES : Hid (chkZ o L = 2) := Lib.hid (by unfold chkZ; rw [if_pos (by omega)])
    have hlim2 : 100 < (n : Int) := by omega
    clear HA0
    go_enter Tryd.func18, Tryd.ntmps18
    go_upto_region 1 with fail
    rw [← hW1]
    rw [← hgz]
    clear hW1 hgz hln
    go_wp2
    go_ret
    exact ⟨by rw [HRES.out]; rfl, HW1.out⟩
  · have hlim2 : (n : Int) ≤ 100 := by omega
    obtain ⟨ob0, hob0⟩ : ∃ ob0, ob0 = decide (-900 ≤ o ∧ o ≤ 900) := ⟨_, rfl⟩
    rw [← hob0] at HA0
    cases ob0 with
    | false =>
      have HRES : Hid (chkZ o L = 5) := Lib.hid (by unfold chkZ; rw [if_neg (by omega), if_pos (by have := of_decide_eq_false hob0.symm; omega)])
      clear hob0
      go_enter Tryd.func18, Tryd.ntmps18
      go_upto_region 1 with fail
      rw [← hW1]
      rw [← hgz]
      clear hW1 hgz hln hlim
      go_wp2_with (go_at_call 30; refine (HA0.out _).mono ?_; rintro e w2 ⟨rfl, rfl⟩)
      go_ret
      exact ⟨by rw [HRES.out]; rfl, HW1.out⟩
    | true =>
      have HRES : Hid (chkZ o L = chkL none L) := Lib.hid (by unfold chkZ; rw [if_neg (by omega), if_neg (by have := of_decide_eq_true hob0.symm; omega)])
      clear hob0
      go_enter Tryd.func18, Tryd.ntmps18
      go_upto_region 1 with fail
      rw [← hW1]
      rw [← hgz]
      clear hW1 hgz hln hlim
      go_wp2_with (go_at_call 30; refine (HA0.out _).mono ?_; rintro e w2 ⟨rfl, rfl⟩)
      clear c0
      go_loopw [16] (fun x wr => ∃ i : Nat, i ≤ n ∧ x = .int .i64 (i : Int) ∧ chkL (prevZ L i) (L.drop i) = chkL none L ∧ (∀ q, prevZ L i = some q → 0 ≤ q ∧ q ≤ 8589934592) ∧ Below W1.heap.size W1 wr) (fun x _ => n - (intOf x).toNat)
      case atStart => exact ⟨0, Nat.zero_le _, rfl, rfl, (fun q h => by cases h), Below.refl _ _⟩
      case round =>
        obtain ⟨i, hi, rfl, he, hp, hb⟩ := hrel
        have HE := Lib.hid he
        have HP := Lib.hid hp
        have HB := Lib.hid hb
        have HI := Lib.hid hi
        clear he hp hb hi HA0
        have c1 : wr.cell? ⟨gz, 1, none⟩ = some (.slice a n c) := (HB.out.cell (p := ⟨gz, 1, none⟩) HGZL.out).trans HC1.out
        by_cases hlt : i < n
        · have hil : i < L.length := by rw [HL.out]; exact hlt
          obtain ⟨b, off, -, hbl, rfl, hat⟩ := HS.out.at (by omega)
          have hr : wr.rangeAt b (off + i * 2) L[i].cells := fun j v hv => (HB.out.cell (p := ⟨b, off + i * 2 + j, none⟩) hbl).trans (hat i hil j v hv)
          have hds : L.drop i = L[i] :: L.drop (i + 1) := List.drop_eq_getElem_cons hil
          have hpv : prevZ L (i + 1) = some L[i].t := prevZ_succ L i hil
          have HAT : Hid (∀ i' : Nat, i' < n → ∃ s', L[i']? = some s' ∧ W1.rangeAt b (off + i' * 2) s'.cells) := Lib.hid (fun i' h' => ⟨L[i']'(by rw [HL.out]; exact h'), List.getElem?_eq_getElem _, hat i' (by rw [HL.out]; exact h')⟩)
          have HBL := Lib.hid hbl
          obtain ⟨s, hs⟩ : ∃ s, s = L[i] := ⟨_, rfl⟩
          rw [← hs] at hr hds hpv
          rw [hds] at HE
          have HDS := Lib.hid hpv
          obtain ⟨ob, hob⟩ : ∃ ob, ob = off + i * 2 := ⟨_, rfl⟩
          rw [← hob] at hr
          have hob2 : off + i * 2 = ob := hob.symm
          have hlt2 : (i : Int) < (n : Int) := by omega
          have j1 : IntKind.i64.wrap ((i : Int) + 1) = (i : Int) + 1 := i64_id _ (by omega) (by omega)
          have ld0 := run_loadShiftAt hr
          have p2 : ShiftB (wr.alloc (.cells #[.int .i64 0, .int .i64 0] 38)) wr.heap.size := ⟨_, _, heap_newZ⟩
          have HLT := Lib.hid hlt
          clear hat hr hob hs hpv hbl hds hil hlt
          go_upto_region 8 with fail
          obtain ⟨W2, hW2⟩ : ∃ W2, W2 = (wr.alloc (.cells #[.int .i64 0, .int .i64 0] 38)).setRow wr.heap.size #[.int .i64 s.t, .int .i64 s.o] := ⟨_, rfl⟩
          obtain ⟨gs, hgs⟩ : ∃ gs, gs = wr.heap.size := ⟨_, rfl⟩
          have hr2 : W2.heap[gs]? = some (.cells #[.int .i64 s.t, .int .i64 s.o] 38 (0, 0)) := by rw [hW2, hgs]; exact setRow_heap _ _ _ _ _ _ heap_newZ
          have hb2 : Below W1.heap.size W1 W2 := HB.out.trans (by rw [hW2]; exact ((((Kept.refl (fun _ => False) wr).alloc _).setRow (fun h => by omega) _).below (Nat.le_refl _) (fun _ _ h => h)).mono HB.out.size)
          rw [← hW2]
          rw [← hgs]
          have c4 : W2.cell? ⟨gs, 0, none⟩ = some (.int .i64 s.t) := cell_of_row W2 gs 0 _ _ _ hr2
          have c5 : W2.cell? ⟨gs, 1, none⟩ = some (.int .i64 s.o) := cell_of_row W2 gs 1 _ _ _ hr2
          have c6 : W2.cell? ⟨gz, 1, none⟩ = some (.slice (some ⟨b, off, none⟩) n c) := (hb2.cell (p := ⟨gz, 1, none⟩) HGZL.out).trans HC1.out
          have HBB := Lib.hid hb2
          clear hW2 hgs hr2 hb2 p2 ld0 c1
          obtain ⟨ob9, hobb⟩ : ∃ ob9, ob9 = decide (-900 ≤ s.o ∧ s.o ≤ 900) := ⟨_, rfl⟩
          have HB2 : Hid (∀ u, Calls Tryd.prog 30 #[.int .i64 s.o] u fun e w' => e = .returned (.bool ob9) ∧ u = w') := Lib.hid (fun u => by rw [hobb]; exact allowedZ_any s.o u)
          by_cases h0 : s.t < 0
          · have HE2 : Hid (chkL none L = 5) := Lib.hid (by rw [← HE.out, chkL_bad (.inl (by omega))])
            clear hobb
            go_wp2
            go_ret
            exact ⟨by rw [HRES.out, HE2.out]; rfl, HW1.out.trans (HBB.out.mono HW1.out.size)⟩
            
          by_cases h1 : 8589934592 < s.t
          · have HE2 : Hid (chkL none L = 5) := Lib.hid (by rw [← HE.out, chkL_bad (.inl (by omega))])
            clear hobb
            go_wp2
            go_ret
            exact ⟨by rw [HRES.out, HE2.out]; rfl, HW1.out.trans (HBB.out.mono HW1.out.size)⟩
            
          cases ob9 with
          | false =>
            have HE2 : Hid (chkL none L = 5) := Lib.hid (by rw [← HE.out, chkL_bad (.inr (of_decide_eq_false hobb.symm))])
            clear hobb
            go_wp2_with (go_at_call 30; refine (HB2.out _).mono ?_; rintro e w2 ⟨rfl, rfl⟩)
            go_ret
            exact ⟨by rw [HRES.out, HE2.out]; rfl, HW1.out.trans (HBB.out.mono HW1.out.size)⟩
            
          | true =>
            have HT : Hid (0 ≤ s.t ∧ s.t ≤ 8589934592) := Lib.hid (by omega)
            have HO := Lib.hid (of_decide_eq_true hobb.symm)
            clear hobb
            cases i with
            | zero =>
              have HE3 : Hid (chkL (prevZ L 1) (L.drop 1) = chkL none L) := Lib.hid (by
                have he := HE.out
                rw [show prevZ L 0 = none from rfl, chkL_go_none HT.out HO.out] at he
                rw [HDS.out]; exact he)
              go_upto_region 10 with (go_at_call 30; refine (HB2.out _).mono ?_; rintro e w2 ⟨rfl, rfl⟩)
              go_quiet (fail)
              go_wp2
              go_roundw
              case rel => exact ⟨1, by have := HLT.out; omega, by go_num, HE3.out, (fun q h => by rw [HDS.out] at h; cases h; exact HT.out), below_drewZ HBB.out _⟩
              case measure => simp [intOf]; have := HLT.out; omega
            | succ i' =>
              obtain ⟨s', hs', hr'⟩ := HAT.out i' (by have := HLT.out; omega)
              have hpv' : prevZ L (i' + 1) = some s'.t := by
                have hl' := (List.getElem?_eq_some_iff.1 hs')
                rw [prevZ_succ L i' hl'.1, hl'.2]
              have hq := HP.out s'.t hpv'
              have c7 : W2.cell? ⟨b, off + i' * 2, none⟩ = some (.int .i64 s'.t) := (HBB.out.cell (p := ⟨b, off + i' * 2, none⟩) HBL.out).trans (hr' 0 _ rfl)
              obtain ⟨oc, hoc⟩ : ∃ oc, oc = off + i' * 2 := ⟨_, rfl⟩
              rw [← hoc] at c7
              have hoc2 : off + i' * 2 = oc := hoc.symm
              have j3 : IntKind.i64.wrap (((i' + 1 : Nat) : Int) - 1) = (i' : Int) := by rw [i64_id _ (by omega) (by omega)]; omega
              have hp1 : (0 : Int) < ((i' + 1 : Nat) : Int) := by omega
              have hp2 : (i' : Int) < (n : Int) := by have := HLT.out; omega
              have j4 : IntKind.i64.wrap (s.t - s'.t) = s.t - s'.t := i64_id _ (by have := HT.out; omega) (by have := HT.out; omega)
              have HPV := Lib.hid hpv'
              have HQ := Lib.hid hq
              clear hs' hr' hpv' hq hoc
              by_cases hgap : s.t - s'.t < 2880
              · have HE2 : Hid (chkL none L = 12) := Lib.hid (by
                  have he := HE.out
                  rw [HPV.out, chkL_gap HT.out HO.out (by omega)] at he
                  exact he.symm)
                go_upto_region 10 with (go_at_call 30; refine (HB2.out _).mono ?_; rintro e w2 ⟨rfl, rfl⟩)
                go_quiet (fail)
                go_wp2
                go_ret
                exact ⟨by rw [HRES.out, HE2.out]; rfl, HW1.out.trans ((below_drewZ HBB.out _).mono HW1.out.size)⟩
              · have HE3 : Hid (chkL (prevZ L (i' + 1 + 1)) (L.drop (i' + 1 + 1)) = chkL none L) := Lib.hid (by
                  have he := HE.out
                  rw [HPV.out, chkL_go HT.out HO.out (by omega)] at he
                  rw [HDS.out]; exact he)
                go_upto_region 10 with (go_at_call 30; refine (HB2.out _).mono ?_; rintro e w2 ⟨rfl, rfl⟩)
                go_quiet (fail)
                go_wp2
                go_roundw
                case rel => exact ⟨i' + 1 + 1, by have := HLT.out; omega, by go_num, HE3.out, (fun q h => by rw [HDS.out] at h; cases h; exact HT.out), below_drewZ HBB.out _⟩
                case measure => simp [intOf]; have := HLT.out; omega
        · obtain rfl : i = n := by have := HI.out; omega
          have HE2 : Hid (chkL none L = 0) := Lib.hid (by rw [← HE.out, List.drop_of_length_le (by rw [HL.out]; exact Nat.le_refl _)]; rfl)
          go_wp2
          go_ret
          exact ⟨by rw [HRES.out, HE2.out]; rfl, HW1.out.trans (HB.out.mono HW1.out.size)⟩
end Go.Proofs.YtcdjilnlmihnhaaDoor

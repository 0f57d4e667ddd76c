/-
  The reference's Zone: a zone made from numbers (written by gen_ZA.py).
-/
import Derived.Test.YtcdjilnlmihnhaaDoorZ9
import Derived.Test.YtcdjilnlmihnhaaDoorR4
namespace Go.Proofs.YtcdjilnlmihnhaaDoor
open Go.RowKit
set_option linter.unusedSimpArgs false
set_option linter.unusedVariables false
attribute [local go_sem ↓] exec_loadShift exec_storeShift exec_loadSeg exec_storeSeg exec_loadZone exec_storeZone
attribute [local go_sem] run_storeShift run_storeSeg run_storeZone
/-- the shifts made from numbers -/
def mkL : Nat → Int → List Int → List SM
  | k + 1, t, x :: y :: r => ⟨t + aroundZ x 20000, aroundZ y 1801 - 900⟩ :: mkL k (t + aroundZ x 20000 + 2880) r
  | _, _, _ => []
theorem mkL_far : ∀ (k : Nat) (t : Int) (l : List Int), 0 ≤ t → t + (k : Int) * 22880 ≤ 8589934592 → Far t (mkL k t l)
  | 0, _, _, _, _ => trivial
  | k + 1, _, [], _, _ => trivial
  | k + 1, _, [_], _, _ => trivial
  | k + 1, t, x :: y :: r, h0, h1 => by
    have hx := aroundZ_bd x 20000 (by omega)
    have hy := aroundZ_bd y 1801 (by omega)
    exact ⟨⟨by show t ≤ t + aroundZ x 20000; omega, by show t + aroundZ x 20000 ≤ _; omega⟩, ⟨by show -900 ≤ aroundZ y 1801 - 900; omega, by show aroundZ y 1801 - 900 ≤ 900; omega⟩, (show Far (t + aroundZ x 20000 + 2880) _ from mkL_far k _ r (by omega) (by push_cast at h1; omega))⟩
theorem mkL_zero (t : Int) (l : List Int) : mkL 0 t l = [] := by
  unfold mkL
  rfl
theorem mkL_short (k : Nat) (t : Int) : ∀ l : List Int, l.length ≤ 1 → mkL k t l = []
  | [], _ => by cases k <;> rfl
  | [_], _ => by cases k <;> rfl
  | _ :: _ :: _, h => by simp at h
theorem mkL_len : ∀ (k : Nat) (t : Int) (l : List Int), (mkL k t l).length ≤ k
  | 0, _, _ => Nat.le_refl _
  | k + 1, _, [] => Nat.zero_le _
  | k + 1, _, [_] => Nat.zero_le _
  | k + 1, t, x :: y :: r => by
    show (mkL k _ r).length + 1 ≤ k + 1
    have := mkL_len k (t + aroundZ x 20000 + 2880) r
    omega
/-- the zone made from numbers -/
def zoneO (l : List Int) : Int := pickZ l 0 1801 - 900
def zoneL (l : List Int) : List SM := mkL 20 0 (l.drop 1)
theorem zoneO_bd (l : List Int) : -900 ≤ zoneO l ∧ zoneO l ≤ 900 := by
  have := pickZ_bd (l := l) (i := 0) (most := 1801) (by omega)
  unfold zoneO
  omega
theorem zoneL_far (l : List Int) : Far 0 (zoneL l) := mkL_far 20 0 _ (by omega) (by omega)
theorem zoneL_len (l : List Int) : (zoneL l).length ≤ 20 := mkL_len _ _ _
theorem infoSh : (Tryd.prog.info? 38).map (fun i => (i.zero, i.size, i.bytes)) = some (some (.agg #[.int .i64 0, .int .i64 0]), 2, 16) := by kernel_rfl
theorem run_bldShift (t o : Int) (W : World) : (Instr.build 38 #[(0, .int .i64 t), (1, .int .i64 o)]).run Tryd.prog W = .ok (.agg #[.int .i64 t, .int .i64 o]) W := by kernel_rfl
theorem run_bldShifts (t o : Int) (W : World) : (Instr.buildSlice 23 1 #[(0, .agg #[.int .i64 t, .int .i64 o])]).run Tryd.prog W = .ok (.slice (some ⟨W.heap.size, 0, none⟩) 1 1) (W.alloc (.cells #[.int .i64 t, .int .i64 o] 38)) := by kernel_rfl
theorem run_bldZone0 (o : Int) (W : World) : (Instr.build 25 #[(0, .int .i64 o)]).run Tryd.prog W = .ok (.agg #[.int .i64 o, .slice none 0 0]) W := by kernel_rfl
theorem src_shift {w : World} {g : Nat} {t o : Int} (hg : w.heap[g]? = some (.cells #[.int .i64 t, .int .i64 o] 38 (0, 0))) : Src Tryd.prog 2 23 (.slice (some ⟨g, 0, none⟩) 1 1) 1 (scells [⟨t, o⟩]) w :=
  Src.ofSlice w Tryd.underlying23 ⟨g, 0, none⟩ 1 1 (scells [⟨t, o⟩]) (scells_len _) (fun j u hu => by rw [Addr.add_mid, Nat.zero_add, cell_of_row w g j _ _ _ hg]; simpa [scells, SM.cells] using hu) (fun u hu => by
    simp [scells, SM.cells] at hu
    rcases hu with rfl | rfl <;> rfl)
def Dzo7 : List (Option Tmp) := [some 28, some 29, some 30, some 31, some 32, some 33, some 34, some 35, some 36, some 37, some 38, some 39, some 40, some 41, none]
def Lzo7 : List (List Nat) := [[], [0], [], [], [], [4], [3, 5], [6], [7], [8], [2, 9], [10], [1, 11], [], [13, 12]]
/-- what a round of the loop finds -/
def ZS (w : World) (l : List Int) (gr gz : Nat) (o : Int) (j : Nat) (t : Int) (W : World) : Prop :=
  ∃ (done : List SM) (v : Value) (k : Option Nat), (0 ≤ t ∧ t ≤ (j : Int) * 22880) ∧ zoneL l = done ++ mkL (20 - j) t ((l.drop 1).drop (2 * j)) ∧ done.length = j ∧ W.heap[gz]? = some (.cells #[.int .i64 o, v] 25 (0, 0)) ∧ Own W 38 2 k v j (scells done) ∧ (∀ b, k = some b → w.heap.size ≤ b ∧ b ≠ gz ∧ b ≠ gr) ∧ ZoneB W gr ∧ Below w.heap.size w W
set_option maxRecDepth 100000 in
set_option maxHeartbeats 4000000 in
theorem zone_any {w : World} {D : Nat → Prop} {a : Option Addr} {n c : Nat} {l : List Int} (h : Is D w a n c l) (hk : Ok64Z l) :
    Calls Tryd.prog 4 #[.slice a n c] w fun e w' => ∃ a' n' c', e = .returned (zV (zoneO l) a' n' c') ∧ Ss (fun b => w.heap.size ≤ b) w' a' n' c' (zoneL l) ∧ Below w.heap.size w w' := by
  obtain ⟨i0, hi0, hz0, hz1, hz2⟩ := info_parts infoSh
  have hm1 : n ≤ c := h.2.2.1
  have hm2 : c ≤ 9223372036854775807 := h.2.2.2.1
  have hll := h.1
  have hpb := pickZ_bd (l := l) (i := 0) (most := 1801) (by omega)
  have HP : Hid (∀ u, Below w.heap.size w u → Calls Tryd.prog 10 #[.slice a n c, .int .i64 0, .int .i64 1801] u fun e w' => e = .returned (.int .i64 (pickZ l 0 1801)) ∧ u = w') := Lib.hid (fun u hu => pickZ_any (h.kept (Kept.of_below (fun _ => False) hu) (fun _ _ _ h => h)) hk 0 (by omega) 1801 (by omega) (by omega))
  obtain ⟨p, hp⟩ : ∃ p, p = pickZ l 0 1801 := ⟨_, rfl⟩
  obtain ⟨o, ho⟩ : ∃ o, o = zoneO l := ⟨_, rfl⟩
  have hpo : p - 900 = o := by rw [ho, hp]; rfl
  rw [← hp] at HP hpb
  rw [← ho]
  have i1 : IntKind.i64.wrap (p - 900) = o := by rw [i64_id _ (by omega) (by omega), hpo]
  have b0 := run_bldZone0 o
  have p3 : ZoneB ((w.alloc (.cells #[.int .i64 0, .slice none 0 0] 25)).alloc (.cells #[.int .i64 0, .slice none 0 0] 25)) (w.heap.size + 1) := ⟨_, _, heap_new (by simp)⟩
  have HI := Lib.hid h
  have HK := Lib.hid hk
  have HL := Lib.hid hll
  have hbw : Below w.heap.size w (w.alloc (.cells #[.int .i64 0, .slice none 0 0] 25)) := (Below.refl _ w).alloc (Nat.le_refl _) _
  have HBW := Lib.hid hbw
  clear h hk hp ho hpo hpb hbw hll
  go_enter Tryd.func4, Tryd.ntmps4
  go_upto_region 2 with (go_at_call 10; refine (HP.out _ HBW.out).mono ?_; rintro e w3 ⟨rfl, rfl⟩)
  obtain ⟨W1, hW1⟩ : ∃ W1, W1 = ((w.alloc (.cells #[.int .i64 0, .slice none 0 0] 25)).alloc (.cells #[.int .i64 0, .slice none 0 0] 25)).setRow (w.heap.size + 1) #[.int .i64 o, .slice none 0 0] := ⟨_, rfl⟩
  obtain ⟨gr, hgr⟩ : ∃ gr, gr = w.heap.size := ⟨_, rfl⟩
  obtain ⟨gz, hgz⟩ : ∃ gz, gz = gr + 1 := ⟨_, rfl⟩
  have hzr : W1.heap[gz]? = some (.cells #[.int .i64 o, .slice none 0 0] 25 (0, 0)) := by rw [hW1, hgz, hgr]; exact setRow_heap _ _ _ _ _ _ (heap_new (by simp))
  have hb1 : Below w.heap.size w W1 := by rw [hW1]; exact ((((Kept.refl (fun _ => False) w).alloc _).alloc _).setRow (fun h => by omega) _).below (Nat.le_refl _) (fun _ _ h => h)
  have hrr : ZoneB W1 gr := ⟨_, _, by rw [hW1, hgr]; exact (setRow_other _ _ _ _ (by omega)).trans (heap_old heap_newZ)⟩
  rw [← hW1]
  rw [← hgr]
  rw [← hgz]
  have HGN : Hid (gr ≠ gz) := Lib.hid (by omega)
  have HGL : Hid (w.heap.size ≤ gr ∧ w.heap.size ≤ gz) := Lib.hid (by omega)
  have HZ0 : Hid (ZS w l gr gz o 0 0 W1) := Lib.hid ⟨[], .slice none 0 0, none, ⟨Int.le_refl _, by omega⟩, rfl, rfl, hzr, Own.nil _ _ _, (fun _ h => by cases h), hrr, hb1⟩
  clear hW1 hgr hgz hzr hb1 hrr p3 b0 i1 HP HBW
  go_wp2
  go_loopw [4, 5] (fun x y wr => ∃ (j i : Nat) (t : Int), i = 2 * j + 1 ∧ j ≤ 20 ∧ x = .int .i64 t ∧ y = .int .i64 (i : Int) ∧ ZS w l gr gz o j t wr) (fun _ y _ => 50 - (intOf y).toNat)
  case atStart => exact ⟨0, 1, 0, rfl, by omega, rfl, rfl, HZ0.out⟩
  case round =>
    obtain ⟨j, i, t, hij, hj, rfl, rfl, done, v, k, htb, hz, hdl, hgz, hown, hkb, hzr, hb⟩ := hrel
    obtain ⟨av, cv, rfl, hsl⟩ := hown.sl
    have j1 : IntKind.i64.wrap ((i : Int) + 1) = ((i + 1 : Nat) : Int) := by rw [i64_id _ (by omega) (by omega)]; omega
    obtain ⟨i1, hi1⟩ : ∃ i1, i1 = i + 1 := ⟨_, rfl⟩
    rw [← hi1] at j1
    have HZ := Lib.hid hz
    have HDL := Lib.hid hdl
    have HGZ := Lib.hid hgz
    have HOW := Lib.hid hown
    have HKB := Lib.hid hkb
    have HZR := Lib.hid hzr
    have HB := Lib.hid hb
    have HIJ := Lib.hid hij
    have HI1 := Lib.hid hi1
    have HJ := Lib.hid hj
    have HTB := Lib.hid htb
    clear hz hdl hgz hown hkb hzr hb hsl hj
    by_cases hc : i1 < n
    · by_cases hc2 : i < 41
      · have hil : i < l.length := by rw [HL.out]; omega
        have hil1 : i1 < l.length := by rw [HL.out]; omega
        obtain ⟨b, off, -, hbw, rfl, hcell0⟩ := HI.out.cellsZ (by omega)
        have hbl : b < wr.heap.size := Nat.lt_of_lt_of_le hbw HB.out.size
        have hcell : ∀ i (hi : i < l.length), wr.cell? ⟨b, off + i, none⟩ = some (.int .i64 l[i]) := fun i hi => (HB.out.cell (p := ⟨b, off + i, none⟩) hbw).trans (hcell0 i hi)
        have HBW := Lib.hid hbw
        have cx := hcell i hil
        have cy := hcell i1 hil1
        have hx0 := HK.out _ (List.getElem_mem hil)
        have hy0 := HK.out _ (List.getElem_mem hil1)
        have hdr : (l.drop 1).drop (2 * j) = l[i] :: l[i1] :: (l.drop 1).drop (2 * (j + 1)) := by
          have e1 : i = 1 + 2 * j := by omega
          rw [List.drop_drop, List.drop_drop, ← e1, List.drop_eq_getElem_cons hil]
          congr 1
          have e2 : 1 + 2 * (j + 1) = i1 + 1 := by omega
          rw [e2, ← hi1, List.drop_eq_getElem_cons hil1]
        generalize l[i] = x at *
        generalize l[i1] = y at *
        have hz2' : mkL (20 - j) t ((l.drop 1).drop (2 * j)) = ⟨t + aroundZ x 20000, aroundZ y 1801 - 900⟩ :: mkL (20 - (j + 1)) (t + aroundZ x 20000 + 2880) ((l.drop 1).drop (2 * (j + 1))) := by
          rw [hdr, show 20 - j = (20 - (j + 1)) + 1 by omega]
          rfl
        have HA1 := Lib.hid (fun u => aroundZ_any x 20000 u hx0.1 hx0.2 (by omega) (by omega))
        have HA2 : Hid (∀ u, Calls Tryd.prog 5 #[.int .i64 y, .int .i64 1801] u fun e w' => e = .returned (.int .i64 (aroundZ y 1801)) ∧ w' = u) := Lib.hid (fun u => (aroundZ_any y 1801 u hy0.1 hy0.2 (by omega) (by omega)).mono fun e w' h => ⟨h.1, h.2.symm⟩)
        have b1 := aroundZ_bd x 20000 (by omega)
        have b2 := aroundZ_bd y 1801 (by omega)
        obtain ⟨X, hX⟩ : ∃ X, X = aroundZ x 20000 := ⟨_, rfl⟩
        obtain ⟨Y, hY⟩ : ∃ Y, Y = aroundZ y 1801 := ⟨_, rfl⟩
        rw [← hX] at HA1 b1 hz2'
        rw [← hY] at HA2 b2 hz2'
        obtain ⟨T, hT⟩ : ∃ T, T = t + X := ⟨_, rfl⟩
        obtain ⟨O, hO⟩ : ∃ O, O = Y - 900 := ⟨_, rfl⟩
        rw [← hT, ← hO] at hz2'
        have j2 : IntKind.i64.wrap (t + X) = T := by rw [i64_id _ (by omega) (by omega), hT]
        have j3 : IntKind.i64.wrap (Y - 900) = O := by rw [i64_id _ (by omega) (by omega), hO]
        have j4 : IntKind.i64.wrap (T + 2880) = T + 2880 := i64_id _ (by omega) (by omega)
        have j5 : IntKind.i64.wrap ((i : Int) + 2) = ((i + 2 : Nat) : Int) := by rw [i64_id _ (by omega) (by omega)]; omega
        have hTb : 0 ≤ T + 2880 ∧ T + 2880 ≤ ((j + 1 : Nat) : Int) * 22880 := by omega
        have HTB2 := Lib.hid hTb
        have HZ2 := Lib.hid hz2'
        have hlt1 : (i1 : Int) < (n : Int) := by omega
        have hlt2 : (i : Int) < 41 := by omega
        have hlt3 : (i : Int) < (n : Int) := by omega
        have hj20 : j + 1 ≤ 20 := by omega
        have HJ20 := Lib.hid hj20
        have cz := cell_of_row wr gz 1 _ _ _ HGZ.out
        simp only [List.getElem?_toArray, List.getElem?_cons_succ, List.getElem?_cons_zero] at cz
        clear hcell hcell0 hbw hx0 hy0 hdr hz2' b1 b2 hX hY hT hO hTb hil hil1 hj20 hij hi1 htb
        go_upto_region 7 with (go_at_call 5; refine (HA1.out _).mono ?_; rintro e w3 ⟨rfl, rfl⟩)
        have J1 := Lib.hid j1
        have J3 := Lib.hid j3
        have CZ := Lib.hid cz
        have CY := Lib.hid cy
        have HBL := Lib.hid hbl
        have HLT1 := Lib.hid hlt1
        have HGZL := Lib.hid (heap_lt HGZ.out)
        have HGK : Hid (¬ k = some gz) := Lib.hid (fun e => (HKB.out gz e).2.1 rfl)
        have HBK : Hid (¬ k = some b) := Lib.hid (fun e => by have := (HKB.out b e).1; have := HBW.out; omega)
        have HKL : Hid (∀ x, k = some x → x < wr.heap.size) := Lib.hid HOW.out.lt
        have HK1 : Hid (j + 1 ≤ maxLen) := Lib.hid (by unfold maxLen; have := HJ.out; omega)
        have HK2 : Hid ((j + 1) * 16 ≤ 140737488355328) := Lib.hid (by have := HJ.out; omega)
        clear cx cy cz j3 hbl
        refine Roll.region_v 13 45 Dzo7 Lzo7 [(0, .slice (some ⟨b, off, none⟩) n c), (3, .pointer (some ⟨gz, 0, none⟩)), (4, .int .i64 T), (5, .int .i64 (i : Int))] 12 [true, true, true, true, true, true, true, true, true, true, true, false, false] (fun p => Below wr.heap.size wr p) (fun vv p => ∃ k', Own p 38 2 k' vv (j + 1) (scells done ++ scells [⟨T, O⟩]) ∧ (∀ j, k' = some j → k = some j ∨ wr.heap.size ≤ j) ∧ Kept (fun j => k = some j) wr p) (fun p => Kept (fun j => k = some j) wr p) (fun p p2 => Kept (fun j => k = some j) p p2) [fun vv p => (vv 0) = .pointer (some ⟨gz, 1, none⟩), fun vv p => (vv 1) = .slice av j cv, fun vv p => (vv 2) = .int .i64 T, fun vv p => (vv 3) = .slice (some ⟨b, off, none⟩) n c, fun vv p => (vv 4) = .int .i64 (i : Int), fun vv p => (vv 5) = .int .i64 (i1 : Int), fun vv p => (vv 6) = .pointer (some ⟨b, off + i1, none⟩), fun vv p => (vv 7) = .int .i64 y, fun vv p => (vv 8) = .int .i64 Y, fun vv p => (vv 9) = .int .i64 O, fun vv p => (vv 10) = .agg #[.int .i64 T, .int .i64 O], fun vv p => ∃ r, (vv 11) = .slice (some ⟨r, 0, none⟩) 1 1 ∧ wr.heap.size ≤ r ∧ p.heap[r]? = some (.cells #[.int .i64 T, .int .i64 O] 38 (0, 0)), fun vv p => True] (by kernel_rfl) (by kernel_rfl) rfl ⟨rfl, rfl, rfl, rfl, trivial⟩ ((Below.refl _ _).drew) (by decide) (by kernel_rfl) (fun _ h => Kept.of_below _ h) (fun _ _ h => by obtain ⟨_, _, _, h⟩ := h; exact h) (fun _ => Kept.refl _ _) ?_ ?_ ?_
        · exact ⟨fun _ _ _ _ h => h, fun _ _ _ _ h => h, fun _ _ _ _ h => h, fun _ _ _ _ h => h, fun _ _ _ _ h => h, fun _ _ _ _ h => h, fun _ _ _ _ h => h, fun _ _ _ _ h => h, fun _ _ _ _ h => h, fun _ _ _ _ h => h, fun _ _ _ _ h => h, fun _ _ _ hs h => by obtain ⟨x, e1, e2, e3⟩ := h; exact ⟨x, e1, e2, hs.heap e3 (fun e => by have := HKL.out x e; omega)⟩, fun _ _ _ _ h => h, trivial⟩
        · intro b0 hN hlv
          refine ⟨?_, ?_, ?_, ?_, ?_, ?_, ?_, ?_, ?_, ?_, ?_, ?_, ?_, trivial⟩
          · intro vs p hI0 hp
            have hI := Roll.inw_pure (by decide) rfl hI0
            clear hI0
            have e3 : (Roll.putD Dzo7 vs [] b0).eval (.tmp 3) = .pointer (some ⟨gz, 0, none⟩) := (Roll.eval_old rfl).trans (hlv.at 1 (3, .pointer (some ⟨gz, 0, none⟩)) rfl)
            clear hp hlv hN
            unfold Roll.Goes
            simp only [Lzo7, List.getD_cons_zero, List.getD_cons_succ]
            generalize Roll.putD Dzo7 vs [] b0 = a1 at *
            refine Roll.goes_val (w' := p) (.pointer (some ⟨gz, 1, none⟩)) rfl ?_ ⟨(Roll.outw_pure (by decide) rfl), rfl⟩
            (have ec : ∀ x, a1.eval (.const x) = x := fun _ => rfl); (have ef : ∀ x, a1.eval (.func x) = .func (.func x) #[] #[] := fun _ => rfl); generalize a1.eval = ρ at *
            skip
            go_simp <;> (intros; first | (exfalso; omega) | rfl | omega)
          · intro vs p hI0 hp
            have hI := Roll.inw_pure (by decide) rfl hI0
            clear hI0
            have h0 : (vs 0) = .pointer (some ⟨gz, 1, none⟩) := hp 0 (by simp [Lzo7])
            have e28 : (Roll.putD Dzo7 vs [0] b0).eval (.tmp 28) = .pointer (some ⟨gz, 1, none⟩) := (Roll.eval_new 0 rfl (by decide) (by decide) (by omega)).trans h0
            clear hp hlv hN
            unfold Roll.Goes
            simp only [Lzo7, List.getD_cons_zero, List.getD_cons_succ]
            generalize Roll.putD Dzo7 vs [0] b0 = a1 at *
            have cf : p.cell? ⟨gz, 1, none⟩ = some (.slice av j cv) := (hI.cell (p := ⟨gz, 1, none⟩) HGZL.out HGK.out).trans CZ.out
            refine Roll.goes_val (w' := p) (.slice av j cv) rfl ?_ ⟨(Roll.outw_pure (by decide) rfl), rfl⟩
            (have ec : ∀ x, a1.eval (.const x) = x := fun _ => rfl); (have ef : ∀ x, a1.eval (.func x) = .func (.func x) #[] #[] := fun _ => rfl); generalize a1.eval = ρ at *
            clear h0
            go_simp <;> (intros; first | (exfalso; omega) | rfl | omega)
          · intro vs p hI0 hp
            have hI := Roll.inw_pure (by decide) rfl hI0
            clear hI0
            have e4 : (Roll.putD Dzo7 vs [] b0).eval (.tmp 4) = .int .i64 T := (Roll.eval_old rfl).trans (hlv.at 2 (4, .int .i64 T) rfl)
            clear hp hlv hN
            unfold Roll.Goes
            simp only [Lzo7, List.getD_cons_zero, List.getD_cons_succ]
            generalize Roll.putD Dzo7 vs [] b0 = a1 at *
            refine Roll.goes_val (w' := p) (.int .i64 T) rfl ?_ ⟨(Roll.outw_pure (by decide) rfl), rfl⟩
            (have ec : ∀ x, a1.eval (.const x) = x := fun _ => rfl); (have ef : ∀ x, a1.eval (.func x) = .func (.func x) #[] #[] := fun _ => rfl); generalize a1.eval = ρ at *
            skip
            go_simp <;> (intros; first | (exfalso; omega) | rfl | omega)
          · intro vs p hI0 hp
            have hI := Roll.inw_pure (by decide) rfl hI0
            clear hI0
            have e0 : (Roll.putD Dzo7 vs [] b0).eval (.tmp 0) = .slice (some ⟨b, off, none⟩) n c := (Roll.eval_old rfl).trans (hlv.at 0 (0, .slice (some ⟨b, off, none⟩) n c) rfl)
            clear hp hlv hN
            unfold Roll.Goes
            simp only [Lzo7, List.getD_cons_zero, List.getD_cons_succ]
            generalize Roll.putD Dzo7 vs [] b0 = a1 at *
            refine Roll.goes_val (w' := p) (.slice (some ⟨b, off, none⟩) n c) rfl ?_ ⟨(Roll.outw_pure (by decide) rfl), rfl⟩
            (have ec : ∀ x, a1.eval (.const x) = x := fun _ => rfl); (have ef : ∀ x, a1.eval (.func x) = .func (.func x) #[] #[] := fun _ => rfl); generalize a1.eval = ρ at *
            skip
            go_simp <;> (intros; first | (exfalso; omega) | rfl | omega)
          · intro vs p hI0 hp
            have hI := Roll.inw_pure (by decide) rfl hI0
            clear hI0
            have e5 : (Roll.putD Dzo7 vs [] b0).eval (.tmp 5) = .int .i64 (i : Int) := (Roll.eval_old rfl).trans (hlv.at 3 (5, .int .i64 (i : Int)) rfl)
            clear hp hlv hN
            unfold Roll.Goes
            simp only [Lzo7, List.getD_cons_zero, List.getD_cons_succ]
            generalize Roll.putD Dzo7 vs [] b0 = a1 at *
            refine Roll.goes_val (w' := p) (.int .i64 (i : Int)) rfl ?_ ⟨(Roll.outw_pure (by decide) rfl), rfl⟩
            (have ec : ∀ x, a1.eval (.const x) = x := fun _ => rfl); (have ef : ∀ x, a1.eval (.func x) = .func (.func x) #[] #[] := fun _ => rfl); generalize a1.eval = ρ at *
            skip
            go_simp <;> (intros; first | (exfalso; omega) | rfl | omega)
          · intro vs p hI0 hp
            have hI := Roll.inw_pure (by decide) rfl hI0
            clear hI0
            have h4 : (vs 4) = .int .i64 (i : Int) := hp 4 (by simp [Lzo7])
            have e32 : (Roll.putD Dzo7 vs [4] b0).eval (.tmp 32) = .int .i64 (i : Int) := (Roll.eval_new 4 rfl (by decide) (by decide) (by omega)).trans h4
            clear hp hlv hN
            unfold Roll.Goes
            simp only [Lzo7, List.getD_cons_zero, List.getD_cons_succ]
            generalize Roll.putD Dzo7 vs [4] b0 = a1 at *
            have f0 := J1.out
            refine Roll.goes_val (w' := p) (.int .i64 (i1 : Int)) rfl ?_ ⟨(Roll.outw_pure (by decide) rfl), rfl⟩
            (have ec : ∀ x, a1.eval (.const x) = x := fun _ => rfl); (have ef : ∀ x, a1.eval (.func x) = .func (.func x) #[] #[] := fun _ => rfl); generalize a1.eval = ρ at *
            clear h4
            go_simp <;> (intros; first | (exfalso; omega) | rfl | omega)
          · intro vs p hI0 hp
            have hI := Roll.inw_pure (by decide) rfl hI0
            clear hI0
            have h3 : (vs 3) = .slice (some ⟨b, off, none⟩) n c := hp 3 (by simp [Lzo7])
            have h5 : (vs 5) = .int .i64 (i1 : Int) := hp 5 (by simp [Lzo7])
            have e31 : (Roll.putD Dzo7 vs [3, 5] b0).eval (.tmp 31) = .slice (some ⟨b, off, none⟩) n c := (Roll.eval_new 3 rfl (by decide) (by decide) (by omega)).trans h3
            have e33 : (Roll.putD Dzo7 vs [3, 5] b0).eval (.tmp 33) = .int .i64 (i1 : Int) := (Roll.eval_new 5 rfl (by decide) (by decide) (by omega)).trans h5
            clear hp hlv hN
            unfold Roll.Goes
            simp only [Lzo7, List.getD_cons_zero, List.getD_cons_succ]
            generalize Roll.putD Dzo7 vs [3, 5] b0 = a1 at *
            have f0 := HLT1.out
            refine Roll.goes_val (w' := p) (.pointer (some ⟨b, off + i1, none⟩)) rfl ?_ ⟨(Roll.outw_pure (by decide) rfl), rfl⟩
            (have ec : ∀ x, a1.eval (.const x) = x := fun _ => rfl); (have ef : ∀ x, a1.eval (.func x) = .func (.func x) #[] #[] := fun _ => rfl); generalize a1.eval = ρ at *
            clear h3 h5
            go_simp <;> (intros; first | (exfalso; omega) | rfl | omega)
          · intro vs p hI0 hp
            have hI := Roll.inw_pure (by decide) rfl hI0
            clear hI0
            have h6 : (vs 6) = .pointer (some ⟨b, off + i1, none⟩) := hp 6 (by simp [Lzo7])
            have e34 : (Roll.putD Dzo7 vs [6] b0).eval (.tmp 34) = .pointer (some ⟨b, off + i1, none⟩) := (Roll.eval_new 6 rfl (by decide) (by decide) (by omega)).trans h6
            clear hp hlv hN
            unfold Roll.Goes
            simp only [Lzo7, List.getD_cons_zero, List.getD_cons_succ]
            generalize Roll.putD Dzo7 vs [6] b0 = a1 at *
            have cf : p.cell? ⟨b, off + i1, none⟩ = some (.int .i64 y) := (hI.cell (p := ⟨b, off + i1, none⟩) HBL.out HBK.out).trans CY.out
            refine Roll.goes_val (w' := p) (.int .i64 y) rfl ?_ ⟨(Roll.outw_pure (by decide) rfl), rfl⟩
            (have ec : ∀ x, a1.eval (.const x) = x := fun _ => rfl); (have ef : ∀ x, a1.eval (.func x) = .func (.func x) #[] #[] := fun _ => rfl); generalize a1.eval = ρ at *
            clear h6
            go_simp <;> (intros; first | (exfalso; omega) | rfl | omega)
          · intro vs p hI0 hp
            have hI := Roll.inw_pure (by decide) rfl hI0
            clear hI0
            have h7 : (vs 7) = .int .i64 y := hp 7 (by simp [Lzo7])
            have e35 : (Roll.putD Dzo7 vs [7] b0).eval (.tmp 35) = .int .i64 y := (Roll.eval_new 7 rfl (by decide) (by decide) (by omega)).trans h7
            clear hp hlv hN
            unfold Roll.Goes
            simp only [Lzo7, List.getD_cons_zero, List.getD_cons_succ]
            generalize Roll.putD Dzo7 vs [7] b0 = a1 at *
            refine Roll.goes_call 5 #[.int .i64 y, .int .i64 1801] p rfl (by have ec : ∀ x, a1.eval (.const x) = x := fun _ => rfl; have ef : ∀ x, a1.eval (.func x) = .func (.func x) #[] #[] := fun _ => rfl; generalize a1.eval = ρ at *; go_simp) ?_
            refine (HA2.out p).mono ?_
            rintro q p2 ⟨rfl, rfl⟩
            exact ⟨_, rfl, (Roll.outw_pure (by decide) rfl), rfl⟩
          · intro vs p hI0 hp
            have hI := Roll.inw_pure (by decide) rfl hI0
            clear hI0
            have h8 : (vs 8) = .int .i64 Y := hp 8 (by simp [Lzo7])
            have e36 : (Roll.putD Dzo7 vs [8] b0).eval (.tmp 36) = .int .i64 Y := (Roll.eval_new 8 rfl (by decide) (by decide) (by omega)).trans h8
            clear hp hlv hN
            unfold Roll.Goes
            simp only [Lzo7, List.getD_cons_zero, List.getD_cons_succ]
            generalize Roll.putD Dzo7 vs [8] b0 = a1 at *
            have f0 := J3.out
            refine Roll.goes_val (w' := p) (.int .i64 O) rfl ?_ ⟨(Roll.outw_pure (by decide) rfl), rfl⟩
            (have ec : ∀ x, a1.eval (.const x) = x := fun _ => rfl); (have ef : ∀ x, a1.eval (.func x) = .func (.func x) #[] #[] := fun _ => rfl); generalize a1.eval = ρ at *
            clear h8
            go_simp <;> (intros; first | (exfalso; omega) | rfl | omega)
          · intro vs p hI0 hp
            have hI := Roll.inw_pure (by decide) rfl hI0
            clear hI0
            have h2 : (vs 2) = .int .i64 T := hp 2 (by simp [Lzo7])
            have h9 : (vs 9) = .int .i64 O := hp 9 (by simp [Lzo7])
            have e30 : (Roll.putD Dzo7 vs [2, 9] b0).eval (.tmp 30) = .int .i64 T := (Roll.eval_new 2 rfl (by decide) (by decide) (by omega)).trans h2
            have e37 : (Roll.putD Dzo7 vs [2, 9] b0).eval (.tmp 37) = .int .i64 O := (Roll.eval_new 9 rfl (by decide) (by decide) (by omega)).trans h9
            clear hp hlv hN
            unfold Roll.Goes
            simp only [Lzo7, List.getD_cons_zero, List.getD_cons_succ]
            generalize Roll.putD Dzo7 vs [2, 9] b0 = a1 at *
            have f0 := run_bldShift T O
            refine Roll.goes_val (w' := p) (.agg #[.int .i64 T, .int .i64 O]) rfl ?_ ⟨(Roll.outw_pure (by decide) rfl), rfl⟩
            (have ec : ∀ x, a1.eval (.const x) = x := fun _ => rfl); (have ef : ∀ x, a1.eval (.func x) = .func (.func x) #[] #[] := fun _ => rfl); generalize a1.eval = ρ at *
            clear h2 h9
            go_simp <;> (intros; first | (exfalso; omega) | rfl | omega)
          · intro vs p hI0 hp
            have hI := Roll.inw_pre (by decide) rfl hI0
            clear hI0
            have h10 : (vs 10) = .agg #[.int .i64 T, .int .i64 O] := hp 10 (by simp [Lzo7])
            have e38 : (Roll.putD Dzo7 vs [10] b0).eval (.tmp 38) = .agg #[.int .i64 T, .int .i64 O] := (Roll.eval_new 10 rfl (by decide) (by decide) (by omega)).trans h10
            clear hp hlv hN
            unfold Roll.Goes
            simp only [Lzo7, List.getD_cons_zero, List.getD_cons_succ]
            generalize Roll.putD Dzo7 vs [10] b0 = a1 at *
            have hal : Below p.heap.size p (p.alloc (.cells #[.int .i64 T, .int .i64 O] 38)) := (Below.refl _ p).alloc (Nat.le_refl _) _
            refine Roll.goes_val (w' := p.alloc (.cells #[.int .i64 T, .int .i64 O] 38)) (.slice (some ⟨p.heap.size, 0, none⟩) 1 1) rfl (by have ec : ∀ x, a1.eval (.const x) = x := fun _ => rfl; have ef : ∀ x, a1.eval (.func x) = .func (.func x) #[] #[] := fun _ => rfl; have hbs := run_bldShifts T O; generalize a1.eval = ρ at *; go_simp <;> (intros; first | (exfalso; omega) | rfl)) ⟨Roll.outw_pre (by decide) rfl (hI.trans (hal.mono hI.size)) (Kept.of_below _ hal), p.heap.size, rfl, hI.size, heap_newZ⟩
          · intro vs p hI0 hp
            have hI := Roll.inw_k0 rfl hI0
            clear hI0
            have h1 : (vs 1) = .slice av j cv := hp 1 (by simp [Lzo7])
            have h11 : ∃ r, (vs 11) = .slice (some ⟨r, 0, none⟩) 1 1 ∧ wr.heap.size ≤ r ∧ p.heap[r]? = some (.cells #[.int .i64 T, .int .i64 O] 38 (0, 0)) := hp 11 (by simp [Lzo7])
            have e29 : (Roll.putD Dzo7 vs [1, 11] b0).eval (.tmp 29) = .slice av j cv := (Roll.eval_new 1 rfl (by decide) (by decide) (by omega)).trans h1
            have e39 : (Roll.putD Dzo7 vs [1, 11] b0).eval (.tmp 39) = vs 11 := (Roll.eval_new 11 rfl (by decide) (by decide) (by omega))
            clear hp hlv hN
            unfold Roll.Goes
            simp only [Lzo7, List.getD_cons_zero, List.getD_cons_succ]
            generalize Roll.putD Dzo7 vs [1, 11] b0 = a1 at *
            obtain ⟨x, hv11, hx, hc⟩ := h11
            rw [hv11] at e39
            refine wpList_append_any _ rfl (.tmp 29) (.tmp 39) _ _ rfl 38 i0 _ 2 16 Tryd.underlying23 hi0 hz0 hz1 hz2 rfl k (.slice av j cv) j (scells done) e29 (HOW.out.kept (Kept.of_below (fun _ => False) hI) (fun _ _ h => h)) 1 (scells [⟨T, O⟩]) (by rw [e39]; exact src_shift hc) HK1.out HK2.out ?_
            intro k' v' w' ho' hf' hK' hn'
            exact ⟨v', rfl, Roll.outw_k0 rfl ⟨k', ho', fun j hj => (hf' j hj).imp id (fun e => Nat.le_trans hI.size e), (Kept.of_below (fun j => k = some j) hI).trans hK' (fun _ _ h => h)⟩ hK', trivial⟩
        · intro vs p hI hR
          have h0 : (vs 0) = .pointer (some ⟨gz, 1, none⟩) := hR 0 (by omega)
          have h1 : (vs 1) = .slice av j cv := hR 1 (by omega)
          have h2 : (vs 2) = .int .i64 T := hR 2 (by omega)
          have h3 : (vs 3) = .slice (some ⟨b, off, none⟩) n c := hR 3 (by omega)
          have h4 : (vs 4) = .int .i64 (i : Int) := hR 4 (by omega)
          have h5 : (vs 5) = .int .i64 (i1 : Int) := hR 5 (by omega)
          have h6 : (vs 6) = .pointer (some ⟨b, off + i1, none⟩) := hR 6 (by omega)
          have h7 : (vs 7) = .int .i64 y := hR 7 (by omega)
          have h8 : (vs 8) = .int .i64 Y := hR 8 (by omega)
          have h9 : (vs 9) = .int .i64 O := hR 9 (by omega)
          have h10 : (vs 10) = .agg #[.int .i64 T, .int .i64 O] := hR 10 (by omega)
          have h11 : ∃ r, (vs 11) = .slice (some ⟨r, 0, none⟩) 1 1 ∧ wr.heap.size ≤ r ∧ p.heap[r]? = some (.cells #[.int .i64 T, .int .i64 O] 38 (0, 0)) := hR 11 (by omega)
          have h12 : True := hR 12 (by omega)
          clear hR
          simp only [List.range_succ, List.range_zero, List.nil_append, List.cons_append, Roll.putD, Act.put, List.getD_cons_zero, List.getD_cons_succ, List.setIfInBounds_toArray, List.set_cons_zero, List.set_cons_succ, List.drop_succ_cons, List.drop_zero, Dzo7]
          simp only [h0, h1, h2, h3, h4, h5, h6, h7, h8, h9, h10]
          clear h0 h1 h2 h3 h4 h5 h6 h7 h8 h9 h10
          generalize vs 12 = v12 at *
          obtain ⟨k', ho', hf', hK'⟩ := hI
          clear h11 h12
          obtain ⟨a', c', rfl, -⟩ := ho'.sl
          have hgk' : ¬ k' = some gz := fun e => (hf' gz e).elim HGK.out (fun h => by have := HGZL.out; omega)
          have hzp : p.heap[gz]? = some (.cells #[.int .i64 o, .slice av j cv] 25 (0, 0)) := hK'.heap HGZ.out HGK.out
          have czp : p.cell? ⟨gz, 1, none⟩ = some (.slice av j cv) := cell_of_row p gz 1 _ _ _ hzp
          have fzp := frozen_of_row p gz 1 _ _ hzp
          have HO2 := Lib.hid ho'
          have HF2 := Lib.hid hf'
          have HK3 := Lib.hid hK'
          have HGK2 := Lib.hid hgk'
          have HZP := Lib.hid hzp
          clear ho' hf' hK' hgk' hzp
          go_wp2_with fail
          go_roundw
          case rel =>
            have hkz : Kept (fun j => k = some j ∨ j = gz) wr (p.setCell ⟨gz, 1, none⟩ (.slice a' (j + 1) c')) := (HK3.out.mono (fun _ _ h => .inl h)).setCell (fun _ => .inr rfl) _
            refine ⟨j + 1, i + 2, T + 2880, by have := HIJ.out; omega, HJ20.out, rfl, by go_num, done ++ [⟨T, O⟩], .slice a' (j + 1) c', k', HTB2.out, ?_, ?_, heap_setCell_same _ _ _ _ _ _ HZP.out, ?_, ?_, ?_, ?_⟩
            · rw [HZ.out, HZ2.out]; simp
            · rw [List.length_append, HDL.out]; rfl
            · rw [scells_app]; exact HO2.out.kept ((Kept.refl (fun j => j = gz) p).setCell (fun _ => rfl) _) (fun b hb e => HGK2.out (by rw [hb, e]))
            · intro b hb
              refine ⟨?_, fun e => HGK2.out (by rw [hb, e]), ?_⟩
              · rcases HF2.out b hb with e | e
                · exact (HKB.out b e).1
                · exact Nat.le_trans HB.out.size e
              · rcases HF2.out b hb with e | e
                · exact (HKB.out b e).2.2
                · have := heap_lt HZR.out.choose_spec.choose_spec; omega
            · obtain ⟨y0, y1, hyr⟩ := HZR.out
              exact ⟨y0, y1, hkz.heap hyr (fun h => h.elim (fun e => (HKB.out gr e).2.2 rfl) HGN.out)⟩
            · exact HB.out.trans (hkz.below HB.out.size (fun b hb h => h.elim (fun e => by have := (HKB.out b e).1; omega) (fun e => by have := HGL.out.2; omega)))
          case measure => simp [intOf]; omega
      · have hc3 : 41 ≤ (i : Int) := by omega
        have hlt1 : (i1 : Int) < (n : Int) := by omega
        have HZE : Hid (zoneL l = done) := Lib.hid (by
          have e : j = 20 := by have := HJ.out; omega
          rw [HZ.out, e]
          show done ++ mkL 0 t _ = done
          rw [mkL_zero, List.append_nil])
        clear hij hi1 htb
        have ldz := run_loadZone HGZ.out
        have p9 := HZR.out
        obtain ⟨y0, y1, hyr⟩ := HZR.out
        have HYR := Lib.hid hyr
        clear hyr
        go_wp2_with fail
        have hkr : Kept (fun b => b = gr) wr (wr.setRow gr #[.int .i64 o, .slice av j cv]) := (Kept.refl (fun b => b = gr) wr).setRow (fun _ => rfl) _
        obtain ⟨av', cv', hvv, hsl⟩ := HOW.out.sl
        cases hvv
        refine bodyPost_ret (results_cell_row rfl _ _ gr _ _ _ _ rfl (setRow_heap _ _ _ _ _ _ HYR.out) Tryd.underlying25 rfl infoZoneS) rfl ⟨av, j, cv, rfl, ⟨by rw [HZE.out]; exact HDL.out, ?_⟩, HB.out.trans (hkr.below HB.out.size (fun b hb e => by have := HGL.out.1; omega))⟩
        rw [HZE.out]
        exact (hsl.kept (by decide) hkr (fun b _ e h => (HKB.out b e).2.2 h)).dom (fun b e => (HKB.out b e).1)
    · have hlt1 : (n : Int) ≤ (i1 : Int) := by omega
      have HZE : Hid (zoneL l = done) := Lib.hid (by
        rw [HZ.out, mkL_short, List.append_nil]
        rw [List.length_drop, List.length_drop, HL.out]
        omega)
      clear hij hi1 htb
      have ldz := run_loadZone HGZ.out
      have p9 := HZR.out
      obtain ⟨y0, y1, hyr⟩ := HZR.out
      have HYR := Lib.hid hyr
      clear hyr
      go_wp2_with fail
      have hkr : Kept (fun b => b = gr) wr (wr.setRow gr #[.int .i64 o, .slice av j cv]) := (Kept.refl (fun b => b = gr) wr).setRow (fun _ => rfl) _
      obtain ⟨av', cv', hvv, hsl⟩ := HOW.out.sl
      cases hvv
      refine bodyPost_ret (results_cell_row rfl _ _ gr _ _ _ _ rfl (setRow_heap _ _ _ _ _ _ HYR.out) Tryd.underlying25 rfl infoZoneS) rfl ⟨av, j, cv, rfl, ⟨by rw [HZE.out]; exact HDL.out, ?_⟩, HB.out.trans (hkr.below HB.out.size (fun b hb e => by have := HGL.out.1; omega))⟩
      rw [HZE.out]
      exact (hsl.kept (by decide) hkr (fun b _ e h => (HKB.out b e).2.2 h)).dom (fun b e => (HKB.out b e).1)
end Go.Proofs.YtcdjilnlmihnhaaDoor

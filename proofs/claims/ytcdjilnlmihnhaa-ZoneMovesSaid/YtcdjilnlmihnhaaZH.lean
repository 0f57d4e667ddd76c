/-
  The law ZoneMoves (written by gen_ZH.py).
-/
import Derived.Test.YtcdjilnlmihnhaaZK
namespace Go.Proofs.Ytcdjilnlmihnhaa
open Go.RowKit
set_option linter.unusedSimpArgs false
set_option linter.unusedVariables false
attribute [local go_sem ↓] exec_loadShift exec_storeShift exec_loadSeg exec_storeSeg exec_loadZone exec_storeZone
attribute [local go_sem] run_storeShift run_storeSeg run_storeZone
def Dzm7 : List (Option Tmp) := [some 30, some 31, some 32, some 33, some 34, some 35, some 36, some 37, some 38, some 39, some 40, some 41, some 42, some 43, some 44, some 45, some 46, some 47, some 48, some 49, some 50, none]
def Lzm7 : List (List Nat) := [[], [0], [], [2], [], [3, 4], [5], [6], [], [8], [7, 9], [], [11], [], [12, 13], [14], [15], [10, 16], [17], [1, 18], [], [20, 19]]
theorem mkL_le : ∀ (k : Nat) (t : Int) (l : List Int), 0 ≤ t → ∀ s ∈ mkL k t l, s.t ≤ t + (k : Int) * 22880
  | 0, t, l, _, s, hs => by rw [mkL_zero] at hs; cases hs
  | k + 1, _, [], _, s, hs => by cases hs
  | k + 1, _, [_], _, s, hs => by cases hs
  | k + 1, t, x :: y :: r, h0, s, hs => by
    have hx := aroundZ_bd x 20000 (by omega)
    have e : mkL (k + 1) t (x :: y :: r) = ⟨t + aroundZ x 20000, aroundZ y 1801 - 900⟩ :: mkL k (t + aroundZ x 20000 + 2880) r := rfl
    rw [e] at hs
    push_cast
    rcases List.mem_cons.1 hs with rfl | hs
    · show t + aroundZ x 20000 ≤ _; omega
    · have := mkL_le k (t + aroundZ x 20000 + 2880) r (by omega) s hs
      omega
theorem zoneL_le (l : List Int) : ∀ s ∈ zoneL l, s.t ≤ 8589934592 := fun s hs => by have := mkL_le 20 0 _ (Int.le_refl _) s hs; omega
theorem far_move (d : Int) (h1 : d ≤ 1440000) : ∀ (l : List SM) (f : Int), Far f l → (∀ s ∈ l, s.t ≤ 8589934592) → Far (f + d) (moveL d l)
  | [], _, _, _ => trivial
  | s :: l, f, hF, hb => by
    have h2 := hb s List.mem_cons_self
    have h3 := hF.1.1
    have ih := far_move d h1 l (s.t + 2880) hF.2.2 (fun x hx => hb x (List.mem_cons_of_mem _ hx))
    exact ⟨⟨by show f + d ≤ s.t + d; omega, by show s.t + d ≤ _; omega⟩, hF.2.1, (show Far (s.t + d + 2880) (moveL d l) by rw [show s.t + d + 2880 = s.t + 2880 + d by omega]; exact ih)⟩
theorem moveL_app (d : Int) (l m : List SM) : moveL d (l ++ m) = moveL d l ++ moveL d m := by unfold moveL; rw [List.map_append]
theorem moveL_len (d : Int) (l : List SM) : (moveL d l).length = l.length := by unfold moveL; rw [List.length_map]
set_option maxRecDepth 100000 in
set_option maxHeartbeats 8000000 in
theorem moves_law {w : World} {a : Option Addr} {n c : Nat} {l : List Int} (hI : Is (fun b => b < w.heap.size) w a n c l) (hk : Ok64Z l) (x y : Int) (x1 : -9223372036854775808 ≤ x) (x2 : x ≤ 9223372036854775807) (y1 : -9223372036854775808 ≤ y) (y2 : y ≤ 9223372036854775807) : Calls Try.prog 9 #[.slice a n c, .int .i64 x, .int .i64 y] w fun e w' => e = .returned (.bool true) ∧ Below w.heap.size w w' := by
  obtain ⟨i0, hi0, hz0, hz1, hz2⟩ := info_parts infoSh
  have hle := zoneL_le l
  have HZO := Lib.hid (zone_any hI hk)
  have ho := zoneO_bd l
  have hf := zoneL_far l
  have hl := zoneL_len l
  obtain ⟨O, hO⟩ : ∃ O, O = zoneO l := ⟨_, rfl⟩
  obtain ⟨L, hL⟩ : ∃ L, L = zoneL l := ⟨_, rfl⟩
  rw [← hO, ← hL] at HZO
  rw [← hO] at ho
  rw [← hL] at hf hl hle
  have HO := Lib.hid ho
  have HF := Lib.hid hf
  have HLN := Lib.hid hl
  clear hI hk ho hf hl hO hL
  have HLV := Lib.hid (fun u => lives_any u)
  have HLE := Lib.hid hle
  have HIN := Lib.hid (fun u => instZ_any x false u x1 x2)
  have hib := instZ_bd x false
  have HAR := Lib.hid (fun u => aroundZ_any y 1001 u y1 y2 (by omega) (by omega))
  have hyb := aroundZ_bd y 1001 (by omega)
  obtain ⟨t, ht⟩ : ∃ t, t = instZ x false := ⟨_, rfl⟩
  obtain ⟨kk, hkk⟩ : ∃ kk, kk = aroundZ y 1001 := ⟨_, rfl⟩
  rw [← ht] at HIN hib
  rw [← hkk] at HAR hyb
  obtain ⟨dd, hdd⟩ : ∃ dd, dd = 1440 * kk := ⟨_, rfl⟩
  obtain ⟨t2, ht2⟩ : ∃ t2, t2 = t + dd := ⟨_, rfl⟩
  have j1 : IntKind.i64.wrap (1440 * kk) = dd := by rw [i64_id _ (by omega) (by omega), hdd]
  have j5 : IntKind.i64.wrap (t + dd) = t2 := by rw [i64_id _ (by omega) (by omega), ht2]
  have HDD : Hid ((0 ≤ kk ∧ kk ≤ 1000) ∧ dd = 1440 * kk ∧ t2 = t + dd ∧ -1099511627776 ≤ t ∧ t ≤ 1099511627776) := Lib.hid (by omega)
  have J1 := Lib.hid j1
  have b0 := run_bldZone0 O
  clear ht hkk hdd ht2 hib hyb hle
  go_enter Try.func9, Try.ntmps9
  go_upto_region 2 with (go_at_call 14; refine HZO.out.mono ?_; rintro e w1 ⟨az, nz, cz, rfl, hs, hb⟩; unfold zV; have HS0 := Lib.hid hs; have HB0 := Lib.hid hb; have p0 : ZoneB (w1.alloc (.cells #[.int .i64 0, .slice none 0 0] 24)) w1.heap.size := ⟨_, _, heap_newZ⟩; clear hs hb HZO)
  obtain ⟨W1, hW1⟩ : ∃ W1, W1 = (w1.alloc (.cells #[.int .i64 0, .slice none 0 0] 24)).setRow w1.heap.size #[.int .i64 O, .slice az nz cz] := ⟨_, rfl⟩
  obtain ⟨gz, hgz⟩ : ∃ gz, gz = w1.heap.size := ⟨_, rfl⟩
  have hr1 : W1.heap[gz]? = some (.cells #[.int .i64 O, .slice az nz cz] 24 (0, 0)) := by rw [hW1, hgz]; exact setRow_heap _ _ _ _ _ _ heap_newZ
  have hb1 : Below w1.heap.size w1 W1 := by rw [hW1]; exact (((Kept.refl (fun _ => False) w1).alloc _).setRow (fun h => by omega) _).below (Nat.le_refl _) (fun _ _ h => h)
  rw [← hW1]
  rw [← hgz]
  have HS := Lib.hid ((HS0.out.below hb1).dom (D' := fun _ => True) (fun _ _ => trivial))
  have HW := Lib.hid (HB0.out.trans (hb1.mono HB0.out.size))
  have HR := Lib.hid hr1
  have HGZL := Lib.hid (heap_lt hr1)
  have HN1 : Hid (nz ≤ 20) := Lib.hid (by have := HS.out.1; have := HLN.out; omega)
  have ldz := run_loadZone hr1
  have HBP : Hid (Below W1.heap.size W1 W1) := Lib.hid (Below.refl _ _)
  clear hW1 hgz hr1 hb1 HS0 HB0 p0
  have c0 : W1.cell? ⟨gz, 0, none⟩ = some (.int .i64 O) := cell_of_row W1 gz 0 _ _ _ HR.out
  have hm1 : nz ≤ cz := HS.out.2.2.1
  have hm2 : cz ≤ 9223372036854775807 := HS.out.2.2.2.1
  have hn20 := HN1.out
  have p0 : ZoneB (W1.alloc (.cells #[.int .i64 0, .slice none 0 0] 24)) W1.heap.size := ⟨_, _, heap_newZ⟩
  clear ldz
  go_upto_region 3 with (go_at_call 27; refine (HAR.out _).mono ?_; rintro e w2 ⟨rfl, rfl⟩)
  go_upto_region 4 with fail
  obtain ⟨W2, hW2⟩ : ∃ W2, W2 = (W1.alloc (.cells #[.int .i64 0, .slice none 0 0] 24)).setRow W1.heap.size #[.int .i64 O, .slice none 0 0] := ⟨_, rfl⟩
  obtain ⟨gm, hgm⟩ : ∃ gm, gm = W1.heap.size := ⟨_, rfl⟩
  have hr2 : W2.heap[gm]? = some (.cells #[.int .i64 O, .slice none 0 0] 24 (0, 0)) := by rw [hW2, hgm]; exact setRow_heap _ _ _ _ _ _ heap_newZ
  have hb2 : Below W1.heap.size W1 W2 := by rw [hW2]; exact (((Kept.refl (fun _ => False) W1).alloc _).setRow (fun h => by omega) _).below (Nat.le_refl _) (fun _ _ h => h)
  rw [← hW2]
  rw [← hgm]
  have HB2 := Lib.hid hb2
  have HGE : Hid (W1.heap.size ≤ gm ∧ gm < W2.heap.size) := Lib.hid ⟨by omega, heap_lt hr2⟩
  have HRZ := Lib.hid ((hb2.block gz HGZL.out).trans HR.out)
  have HS2 := Lib.hid ((HS.out.in.below hb2).dom (D' := fun b => b < gm) (fun b h => by have := h.2; omega))
  have HNE : Hid (gz ≠ gm) := Lib.hid (by have := HGZL.out; omega)
  have HM0 : Hid (∃ v k, W2.heap[gm]? = some (.cells #[.int .i64 O, v] 24 (0, 0)) ∧ Own W2 42 2 k v 0 (scells (moveL dd (L.take 0))) ∧ (∀ b, k = some b → W2.heap.size ≤ b) ∧ Kept (fun b => b = gm) W2 W2) := Lib.hid ⟨_, none, hr2, Own.nil _ _ _, (fun _ h => by cases h), Kept.refl _ _⟩
  clear c0 p0 b0 hW2 hgm hr2 hb2
  go_wp2_with fail
  go_loopw [10] (fun x wr => ∃ i : Nat, i ≤ nz ∧ x = .int .i64 (i : Int) ∧ ∃ v k, wr.heap[gm]? = some (.cells #[.int .i64 O, v] 24 (0, 0)) ∧ Own wr 42 2 k v i (scells (moveL dd (L.take i))) ∧ (∀ b, k = some b → W2.heap.size ≤ b) ∧ Kept (fun b => b = gm) W2 wr) (fun x _ => nz - (intOf x).toNat)
  case atStart => exact ⟨0, Nat.zero_le _, rfl, HM0.out⟩
  case round =>
    obtain ⟨i, hi, rfl, v, k, hgm, hown, hkb, hkp⟩ := hrel
    obtain ⟨av, cv, rfl, hsl⟩ := hown.sl
    have HGM := Lib.hid hgm
    have HOW := Lib.hid hown
    have HKB := Lib.hid hkb
    have HKP := Lib.hid hkp
    have HSL := Lib.hid hsl
    have czr := cell_of_row wr gz 1 _ _ _ (hkp.heap HRZ.out HNE.out)
    simp only [List.getElem?_toArray, List.getElem?_cons_succ, List.getElem?_cons_zero] at czr
    clear hgm hown hkb hkp hsl HM0
    by_cases hlt : i < nz
    · have hil : i < L.length := by rw [HS.out.1]; exact hlt
      have hlt2 : (i : Int) < (nz : Int) := by omega
      have k1 : IntKind.i64.wrap ((i : Int) + 1) = (i : Int) + 1 := i64_id _ (by omega) (by omega)
      obtain ⟨b, off, hbg, hbl, rfl, hc⟩ := HS2.out.cells (by omega)
      obtain ⟨hct0, hco0⟩ := hc i hil
      have hct := (HKP.out.cell (p := ⟨b, off + i * 2, none⟩) hbl (by show ¬ b = gm; omega)).trans hct0
      have hco := (HKP.out.cell (p := ⟨b, off + i * 2 + 1, none⟩) hbl (by show ¬ b = gm; omega)).trans hco0
      have hfd := far_drop L 0 i hil HF.out
      have hle2 := HLE.out _ (List.getElem_mem hil)
      have htk : L.take (i + 1) = L.take i ++ [⟨L[i].t, L[i].o⟩] := List.take_succ_eq_append_getElem hil
      obtain ⟨ob, hob⟩ : ∃ ob, ob = off + i * 2 := ⟨_, rfl⟩
      rw [← hob] at hct hco
      obtain ⟨st, hst⟩ : ∃ st, st = L[i].t := ⟨_, rfl⟩
      obtain ⟨so, hso⟩ : ∃ so, so = L[i].o := ⟨_, rfl⟩
      rw [← hst] at hct hfd htk hle2
      rw [← hso] at hco hfd htk
      obtain ⟨T, hT⟩ : ∃ T, T = st + dd := ⟨_, rfl⟩
      have J2 : Hid (IntKind.i64.wrap (st + dd) = T) := Lib.hid (by rw [i64_id _ (by have := hfd.1; have := HDD.out; omega) (by have := hfd.1; have := HDD.out; omega), hT])
      have HTK : Hid (moveL dd (L.take (i + 1)) = moveL dd (L.take i ++ [⟨st, so⟩])) := Lib.hid (by rw [htk])
      have hms : moveL dd [⟨st, so⟩] = [⟨T, so⟩] := by rw [hT]; rfl
      rw [moveL_app, hms] at HTK
      have HLT := Lib.hid hlt
      have HLT2 := Lib.hid hlt2
      have HOB := Lib.hid hob.symm
      have hbw : b < wr.heap.size := Nat.lt_of_lt_of_le hbl HKP.out.size
      have HBL := Lib.hid hbw
      have HGZL2 := Lib.hid (Nat.lt_of_lt_of_le HGZL.out (Nat.le_trans HB2.out.size HKP.out.size))
      clear HGZL
      have HGZL := HGZL2
      have HGML := Lib.hid (heap_lt HGM.out)
      have HNM : Hid (¬ k = some gm) := Lib.hid (fun e => by have := HKB.out gm e; have := HGE.out.2; omega)
      have HNZ : Hid (¬ k = some gz) := Lib.hid (fun e => by have := HKB.out gz e; have := heap_lt HRZ.out; omega)
      have HNB : Hid (¬ k = some b) := Lib.hid (fun e => by have := HKB.out b e; omega)
      have HKL : Hid (∀ x, k = some x → x < wr.heap.size) := Lib.hid HOW.out.lt
      have HK1 : Hid (i + 1 ≤ maxLen) := Lib.hid (by unfold maxLen; omega)
      have HK2 : Hid ((i + 1) * 16 ≤ 140737488355328) := Lib.hid (by omega)
      have CM : Hid (wr.cell? ⟨gm, 1, none⟩ = some (.slice av i cv)) := Lib.hid (cell_of_row wr gm 1 _ _ _ HGM.out)
      have CZ := Lib.hid czr
      have CT := Lib.hid hct
      have CS := Lib.hid hco
      clear hc hob hct hco hct0 hco0 hbl hbg hbw hfd hle2 htk hst hso hT hms hil HGZL2
      go_upto_region 7 with fail
      clear czr hlt hlt2
      refine Roll.region_v 20 81 Dzm7 Lzm7 [(7, .pointer (some ⟨gz, 0, none⟩)), (8, .int .i64 kk), (9, .pointer (some ⟨gm, 0, none⟩)), (10, .int .i64 (i : Int))] 19 [true, true, true, true, true, true, true, true, true, true, true, true, true, true, true, true, true, true, false, false] (fun p => Below wr.heap.size wr p) (fun vv p => ∃ k', Own p 42 2 k' vv (i + 1) (scells (moveL dd (L.take i)) ++ scells [⟨T, so⟩]) ∧ (∀ j, k' = some j → k = some j ∨ wr.heap.size ≤ j) ∧ Kept (fun j => k = some j) wr p) (fun p => Kept (fun j => k = some j) wr p) (fun p p2 => Kept (fun j => k = some j) p p2) [fun vv p => (vv 0) = .pointer (some ⟨gm, 1, none⟩), fun vv p => (vv 1) = .slice av i cv, fun vv p => (vv 2) = .pointer (some ⟨gz, 1, none⟩), fun vv p => (vv 3) = .slice (some ⟨b, off, none⟩) nz cz, fun vv p => (vv 4) = .int .i64 (i : Int), fun vv p => (vv 5) = .pointer (some ⟨b, ob, none⟩), fun vv p => (vv 6) = .pointer (some ⟨b, ob, none⟩), fun vv p => (vv 7) = .int .i64 st, fun vv p => (vv 8) = .int .i64 kk, fun vv p => (vv 9) = .int .i64 dd, fun vv p => (vv 10) = .int .i64 T, fun vv p => (vv 11) = .pointer (some ⟨gz, 1, none⟩), fun vv p => (vv 12) = .slice (some ⟨b, off, none⟩) nz cz, fun vv p => (vv 13) = .int .i64 (i : Int), fun vv p => (vv 14) = .pointer (some ⟨b, ob, none⟩), fun vv p => (vv 15) = .pointer (some ⟨b, ob + 1, none⟩), fun vv p => (vv 16) = .int .i64 so, fun vv p => (vv 17) = .agg #[.int .i64 T, .int .i64 so], fun vv p => ∃ r, (vv 18) = .slice (some ⟨r, 0, none⟩) 1 1 ∧ wr.heap.size ≤ r ∧ p.heap[r]? = some (.cells #[.int .i64 T, .int .i64 so] 42 (0, 0)), fun vv p => True] (by kernel_rfl) (by kernel_rfl) rfl ⟨rfl, rfl, rfl, rfl, trivial⟩ ((Below.refl _ _).drew) (by decide) (by kernel_rfl) (fun _ h => Kept.of_below _ h) (fun _ _ h => by obtain ⟨_, _, _, h⟩ := h; exact h) (fun _ => Kept.refl _ _) ?_ ?_ ?_
      · exact ⟨fun _ _ _ _ h => h, fun _ _ _ _ h => h, fun _ _ _ _ h => h, fun _ _ _ _ h => h, fun _ _ _ _ h => h, fun _ _ _ _ h => h, fun _ _ _ _ h => h, fun _ _ _ _ h => h, fun _ _ _ _ h => h, fun _ _ _ _ h => h, fun _ _ _ _ h => h, fun _ _ _ _ h => h, fun _ _ _ _ h => h, fun _ _ _ _ h => h, fun _ _ _ _ h => h, fun _ _ _ _ h => h, fun _ _ _ _ h => h, fun _ _ _ _ h => h, fun _ _ _ hs h => by obtain ⟨x, e1, e2, e3⟩ := h; exact ⟨x, e1, e2, hs.heap e3 (fun e => by have := HKL.out x e; omega)⟩, fun _ _ _ _ h => h, trivial⟩
      · intro b0 hN hlv
        refine ⟨?_, ?_, ?_, ?_, ?_, ?_, ?_, ?_, ?_, ?_, ?_, ?_, ?_, ?_, ?_, ?_, ?_, ?_, ?_, ?_, trivial⟩
        · intro vs p hI0 hp
          have hI := Roll.inw_pure (by decide) rfl hI0
          clear hI0
          have e9 : (Roll.putD Dzm7 vs [] b0).eval (.tmp 9) = .pointer (some ⟨gm, 0, none⟩) := (Roll.eval_old rfl).trans (hlv.at 2 (9, .pointer (some ⟨gm, 0, none⟩)) rfl)
          clear hp hlv hN
          unfold Roll.Goes
          simp only [Lzm7, List.getD_cons_zero, List.getD_cons_succ]
          generalize Roll.putD Dzm7 vs [] b0 = a1 at *
          refine Roll.goes_val (w' := p) (.pointer (some ⟨gm, 1, none⟩)) rfl ?_ ⟨(Roll.outw_pure (by decide) rfl), rfl⟩
          (have ec : ∀ x, a1.eval (.const x) = x := fun _ => rfl); (have ef : ∀ x, a1.eval (.func x) = .func (.func x) #[] #[] := fun _ => rfl); generalize a1.eval = ρ at *
          skip
          go_simp <;> (intros; first | (exfalso; omega) | rfl | omega)
        · intro vs p hI0 hp
          have hI := Roll.inw_pure (by decide) rfl hI0
          clear hI0
          have h0 : (vs 0) = .pointer (some ⟨gm, 1, none⟩) := hp 0 (by simp [Lzm7])
          have e30 : (Roll.putD Dzm7 vs [0] b0).eval (.tmp 30) = .pointer (some ⟨gm, 1, none⟩) := (Roll.eval_new 0 rfl (by decide) (by decide) (by omega)).trans h0
          clear hp hlv hN
          unfold Roll.Goes
          simp only [Lzm7, List.getD_cons_zero, List.getD_cons_succ]
          generalize Roll.putD Dzm7 vs [0] b0 = a1 at *
          have cf : p.cell? ⟨gm, 1, none⟩ = some (.slice av i cv) := (hI.cell (p := ⟨gm, 1, none⟩) HGML.out HNM.out).trans CM.out
          refine Roll.goes_val (w' := p) (.slice av i cv) rfl ?_ ⟨(Roll.outw_pure (by decide) rfl), rfl⟩
          (have ec : ∀ x, a1.eval (.const x) = x := fun _ => rfl); (have ef : ∀ x, a1.eval (.func x) = .func (.func x) #[] #[] := fun _ => rfl); generalize a1.eval = ρ at *
          clear h0
          go_simp <;> (intros; first | (exfalso; omega) | rfl | omega)
        · intro vs p hI0 hp
          have hI := Roll.inw_pure (by decide) rfl hI0
          clear hI0
          have e7 : (Roll.putD Dzm7 vs [] b0).eval (.tmp 7) = .pointer (some ⟨gz, 0, none⟩) := (Roll.eval_old rfl).trans (hlv.at 0 (7, .pointer (some ⟨gz, 0, none⟩)) rfl)
          clear hp hlv hN
          unfold Roll.Goes
          simp only [Lzm7, List.getD_cons_zero, List.getD_cons_succ]
          generalize Roll.putD Dzm7 vs [] b0 = a1 at *
          refine Roll.goes_val (w' := p) (.pointer (some ⟨gz, 1, none⟩)) rfl ?_ ⟨(Roll.outw_pure (by decide) rfl), rfl⟩
          (have ec : ∀ x, a1.eval (.const x) = x := fun _ => rfl); (have ef : ∀ x, a1.eval (.func x) = .func (.func x) #[] #[] := fun _ => rfl); generalize a1.eval = ρ at *
          skip
          go_simp <;> (intros; first | (exfalso; omega) | rfl | omega)
        · intro vs p hI0 hp
          have hI := Roll.inw_pure (by decide) rfl hI0
          clear hI0
          have h2 : (vs 2) = .pointer (some ⟨gz, 1, none⟩) := hp 2 (by simp [Lzm7])
          have e32 : (Roll.putD Dzm7 vs [2] b0).eval (.tmp 32) = .pointer (some ⟨gz, 1, none⟩) := (Roll.eval_new 2 rfl (by decide) (by decide) (by omega)).trans h2
          clear hp hlv hN
          unfold Roll.Goes
          simp only [Lzm7, List.getD_cons_zero, List.getD_cons_succ]
          generalize Roll.putD Dzm7 vs [2] b0 = a1 at *
          have cf : p.cell? ⟨gz, 1, none⟩ = some (.slice (some ⟨b, off, none⟩) nz cz) := (hI.cell (p := ⟨gz, 1, none⟩) HGZL.out HNZ.out).trans CZ.out
          refine Roll.goes_val (w' := p) (.slice (some ⟨b, off, none⟩) nz cz) rfl ?_ ⟨(Roll.outw_pure (by decide) rfl), rfl⟩
          (have ec : ∀ x, a1.eval (.const x) = x := fun _ => rfl); (have ef : ∀ x, a1.eval (.func x) = .func (.func x) #[] #[] := fun _ => rfl); generalize a1.eval = ρ at *
          clear h2
          go_simp <;> (intros; first | (exfalso; omega) | rfl | omega)
        · intro vs p hI0 hp
          have hI := Roll.inw_pure (by decide) rfl hI0
          clear hI0
          have e10 : (Roll.putD Dzm7 vs [] b0).eval (.tmp 10) = .int .i64 (i : Int) := (Roll.eval_old rfl).trans (hlv.at 3 (10, .int .i64 (i : Int)) rfl)
          clear hp hlv hN
          unfold Roll.Goes
          simp only [Lzm7, List.getD_cons_zero, List.getD_cons_succ]
          generalize Roll.putD Dzm7 vs [] b0 = a1 at *
          refine Roll.goes_val (w' := p) (.int .i64 (i : Int)) rfl ?_ ⟨(Roll.outw_pure (by decide) rfl), rfl⟩
          (have ec : ∀ x, a1.eval (.const x) = x := fun _ => rfl); (have ef : ∀ x, a1.eval (.func x) = .func (.func x) #[] #[] := fun _ => rfl); generalize a1.eval = ρ at *
          skip
          go_simp <;> (intros; first | (exfalso; omega) | rfl | omega)
        · intro vs p hI0 hp
          have hI := Roll.inw_pure (by decide) rfl hI0
          clear hI0
          have h3 : (vs 3) = .slice (some ⟨b, off, none⟩) nz cz := hp 3 (by simp [Lzm7])
          have h4 : (vs 4) = .int .i64 (i : Int) := hp 4 (by simp [Lzm7])
          have e33 : (Roll.putD Dzm7 vs [3, 4] b0).eval (.tmp 33) = .slice (some ⟨b, off, none⟩) nz cz := (Roll.eval_new 3 rfl (by decide) (by decide) (by omega)).trans h3
          have e34 : (Roll.putD Dzm7 vs [3, 4] b0).eval (.tmp 34) = .int .i64 (i : Int) := (Roll.eval_new 4 rfl (by decide) (by decide) (by omega)).trans h4
          clear hp hlv hN
          unfold Roll.Goes
          simp only [Lzm7, List.getD_cons_zero, List.getD_cons_succ]
          generalize Roll.putD Dzm7 vs [3, 4] b0 = a1 at *
          have f0 := HLT2.out
          have f1 := HOB.out
          refine Roll.goes_val (w' := p) (.pointer (some ⟨b, ob, none⟩)) rfl ?_ ⟨(Roll.outw_pure (by decide) rfl), rfl⟩
          (have ec : ∀ x, a1.eval (.const x) = x := fun _ => rfl); (have ef : ∀ x, a1.eval (.func x) = .func (.func x) #[] #[] := fun _ => rfl); generalize a1.eval = ρ at *
          clear h3 h4
          go_simp <;> (intros; first | (exfalso; omega) | rfl | omega)
        · intro vs p hI0 hp
          have hI := Roll.inw_pure (by decide) rfl hI0
          clear hI0
          have h5 : (vs 5) = .pointer (some ⟨b, ob, none⟩) := hp 5 (by simp [Lzm7])
          have e35 : (Roll.putD Dzm7 vs [5] b0).eval (.tmp 35) = .pointer (some ⟨b, ob, none⟩) := (Roll.eval_new 5 rfl (by decide) (by decide) (by omega)).trans h5
          clear hp hlv hN
          unfold Roll.Goes
          simp only [Lzm7, List.getD_cons_zero, List.getD_cons_succ]
          generalize Roll.putD Dzm7 vs [5] b0 = a1 at *
          refine Roll.goes_val (w' := p) (.pointer (some ⟨b, ob, none⟩)) rfl ?_ ⟨(Roll.outw_pure (by decide) rfl), rfl⟩
          (have ec : ∀ x, a1.eval (.const x) = x := fun _ => rfl); (have ef : ∀ x, a1.eval (.func x) = .func (.func x) #[] #[] := fun _ => rfl); generalize a1.eval = ρ at *
          clear h5
          go_simp <;> (intros; first | (exfalso; omega) | rfl | omega)
        · intro vs p hI0 hp
          have hI := Roll.inw_pure (by decide) rfl hI0
          clear hI0
          have h6 : (vs 6) = .pointer (some ⟨b, ob, none⟩) := hp 6 (by simp [Lzm7])
          have e36 : (Roll.putD Dzm7 vs [6] b0).eval (.tmp 36) = .pointer (some ⟨b, ob, none⟩) := (Roll.eval_new 6 rfl (by decide) (by decide) (by omega)).trans h6
          clear hp hlv hN
          unfold Roll.Goes
          simp only [Lzm7, List.getD_cons_zero, List.getD_cons_succ]
          generalize Roll.putD Dzm7 vs [6] b0 = a1 at *
          have cf : p.cell? ⟨b, ob, none⟩ = some (.int .i64 st) := (hI.cell (p := ⟨b, ob, none⟩) HBL.out HNB.out).trans CT.out
          refine Roll.goes_val (w' := p) (.int .i64 st) rfl ?_ ⟨(Roll.outw_pure (by decide) rfl), rfl⟩
          (have ec : ∀ x, a1.eval (.const x) = x := fun _ => rfl); (have ef : ∀ x, a1.eval (.func x) = .func (.func x) #[] #[] := fun _ => rfl); generalize a1.eval = ρ at *
          clear h6
          go_simp <;> (intros; first | (exfalso; omega) | rfl | omega)
        · intro vs p hI0 hp
          have hI := Roll.inw_pure (by decide) rfl hI0
          clear hI0
          have e8 : (Roll.putD Dzm7 vs [] b0).eval (.tmp 8) = .int .i64 kk := (Roll.eval_old rfl).trans (hlv.at 1 (8, .int .i64 kk) rfl)
          clear hp hlv hN
          unfold Roll.Goes
          simp only [Lzm7, List.getD_cons_zero, List.getD_cons_succ]
          generalize Roll.putD Dzm7 vs [] b0 = a1 at *
          refine Roll.goes_val (w' := p) (.int .i64 kk) rfl ?_ ⟨(Roll.outw_pure (by decide) rfl), rfl⟩
          (have ec : ∀ x, a1.eval (.const x) = x := fun _ => rfl); (have ef : ∀ x, a1.eval (.func x) = .func (.func x) #[] #[] := fun _ => rfl); generalize a1.eval = ρ at *
          skip
          go_simp <;> (intros; first | (exfalso; omega) | rfl | omega)
        · intro vs p hI0 hp
          have hI := Roll.inw_pure (by decide) rfl hI0
          clear hI0
          have h8 : (vs 8) = .int .i64 kk := hp 8 (by simp [Lzm7])
          have e38 : (Roll.putD Dzm7 vs [8] b0).eval (.tmp 38) = .int .i64 kk := (Roll.eval_new 8 rfl (by decide) (by decide) (by omega)).trans h8
          clear hp hlv hN
          unfold Roll.Goes
          simp only [Lzm7, List.getD_cons_zero, List.getD_cons_succ]
          generalize Roll.putD Dzm7 vs [8] b0 = a1 at *
          have f0 := J1.out
          refine Roll.goes_val (w' := p) (.int .i64 dd) rfl ?_ ⟨(Roll.outw_pure (by decide) rfl), rfl⟩
          (have ec : ∀ x, a1.eval (.const x) = x := fun _ => rfl); (have ef : ∀ x, a1.eval (.func x) = .func (.func x) #[] #[] := fun _ => rfl); generalize a1.eval = ρ at *
          clear h8
          go_simp <;> (intros; first | (exfalso; omega) | rfl | omega)
        · intro vs p hI0 hp
          have hI := Roll.inw_pure (by decide) rfl hI0
          clear hI0
          have h7 : (vs 7) = .int .i64 st := hp 7 (by simp [Lzm7])
          have h9 : (vs 9) = .int .i64 dd := hp 9 (by simp [Lzm7])
          have e37 : (Roll.putD Dzm7 vs [7, 9] b0).eval (.tmp 37) = .int .i64 st := (Roll.eval_new 7 rfl (by decide) (by decide) (by omega)).trans h7
          have e39 : (Roll.putD Dzm7 vs [7, 9] b0).eval (.tmp 39) = .int .i64 dd := (Roll.eval_new 9 rfl (by decide) (by decide) (by omega)).trans h9
          clear hp hlv hN
          unfold Roll.Goes
          simp only [Lzm7, List.getD_cons_zero, List.getD_cons_succ]
          generalize Roll.putD Dzm7 vs [7, 9] b0 = a1 at *
          have f0 := J2.out
          refine Roll.goes_val (w' := p) (.int .i64 T) rfl ?_ ⟨(Roll.outw_pure (by decide) rfl), rfl⟩
          (have ec : ∀ x, a1.eval (.const x) = x := fun _ => rfl); (have ef : ∀ x, a1.eval (.func x) = .func (.func x) #[] #[] := fun _ => rfl); generalize a1.eval = ρ at *
          clear h7 h9
          go_simp <;> (intros; first | (exfalso; omega) | rfl | omega)
        · intro vs p hI0 hp
          have hI := Roll.inw_pure (by decide) rfl hI0
          clear hI0
          have e7 : (Roll.putD Dzm7 vs [] b0).eval (.tmp 7) = .pointer (some ⟨gz, 0, none⟩) := (Roll.eval_old rfl).trans (hlv.at 0 (7, .pointer (some ⟨gz, 0, none⟩)) rfl)
          clear hp hlv hN
          unfold Roll.Goes
          simp only [Lzm7, List.getD_cons_zero, List.getD_cons_succ]
          generalize Roll.putD Dzm7 vs [] b0 = a1 at *
          refine Roll.goes_val (w' := p) (.pointer (some ⟨gz, 1, none⟩)) rfl ?_ ⟨(Roll.outw_pure (by decide) rfl), rfl⟩
          (have ec : ∀ x, a1.eval (.const x) = x := fun _ => rfl); (have ef : ∀ x, a1.eval (.func x) = .func (.func x) #[] #[] := fun _ => rfl); generalize a1.eval = ρ at *
          skip
          go_simp <;> (intros; first | (exfalso; omega) | rfl | omega)
        · intro vs p hI0 hp
          have hI := Roll.inw_pure (by decide) rfl hI0
          clear hI0
          have h11 : (vs 11) = .pointer (some ⟨gz, 1, none⟩) := hp 11 (by simp [Lzm7])
          have e41 : (Roll.putD Dzm7 vs [11] b0).eval (.tmp 41) = .pointer (some ⟨gz, 1, none⟩) := (Roll.eval_new 11 rfl (by decide) (by decide) (by omega)).trans h11
          clear hp hlv hN
          unfold Roll.Goes
          simp only [Lzm7, List.getD_cons_zero, List.getD_cons_succ]
          generalize Roll.putD Dzm7 vs [11] b0 = a1 at *
          have cf : p.cell? ⟨gz, 1, none⟩ = some (.slice (some ⟨b, off, none⟩) nz cz) := (hI.cell (p := ⟨gz, 1, none⟩) HGZL.out HNZ.out).trans CZ.out
          refine Roll.goes_val (w' := p) (.slice (some ⟨b, off, none⟩) nz cz) rfl ?_ ⟨(Roll.outw_pure (by decide) rfl), rfl⟩
          (have ec : ∀ x, a1.eval (.const x) = x := fun _ => rfl); (have ef : ∀ x, a1.eval (.func x) = .func (.func x) #[] #[] := fun _ => rfl); generalize a1.eval = ρ at *
          clear h11
          go_simp <;> (intros; first | (exfalso; omega) | rfl | omega)
        · intro vs p hI0 hp
          have hI := Roll.inw_pure (by decide) rfl hI0
          clear hI0
          have e10 : (Roll.putD Dzm7 vs [] b0).eval (.tmp 10) = .int .i64 (i : Int) := (Roll.eval_old rfl).trans (hlv.at 3 (10, .int .i64 (i : Int)) rfl)
          clear hp hlv hN
          unfold Roll.Goes
          simp only [Lzm7, List.getD_cons_zero, List.getD_cons_succ]
          generalize Roll.putD Dzm7 vs [] b0 = a1 at *
          refine Roll.goes_val (w' := p) (.int .i64 (i : Int)) rfl ?_ ⟨(Roll.outw_pure (by decide) rfl), rfl⟩
          (have ec : ∀ x, a1.eval (.const x) = x := fun _ => rfl); (have ef : ∀ x, a1.eval (.func x) = .func (.func x) #[] #[] := fun _ => rfl); generalize a1.eval = ρ at *
          skip
          go_simp <;> (intros; first | (exfalso; omega) | rfl | omega)
        · intro vs p hI0 hp
          have hI := Roll.inw_pure (by decide) rfl hI0
          clear hI0
          have h12 : (vs 12) = .slice (some ⟨b, off, none⟩) nz cz := hp 12 (by simp [Lzm7])
          have h13 : (vs 13) = .int .i64 (i : Int) := hp 13 (by simp [Lzm7])
          have e42 : (Roll.putD Dzm7 vs [12, 13] b0).eval (.tmp 42) = .slice (some ⟨b, off, none⟩) nz cz := (Roll.eval_new 12 rfl (by decide) (by decide) (by omega)).trans h12
          have e43 : (Roll.putD Dzm7 vs [12, 13] b0).eval (.tmp 43) = .int .i64 (i : Int) := (Roll.eval_new 13 rfl (by decide) (by decide) (by omega)).trans h13
          clear hp hlv hN
          unfold Roll.Goes
          simp only [Lzm7, List.getD_cons_zero, List.getD_cons_succ]
          generalize Roll.putD Dzm7 vs [12, 13] b0 = a1 at *
          have f0 := HLT2.out
          have f1 := HOB.out
          refine Roll.goes_val (w' := p) (.pointer (some ⟨b, ob, none⟩)) rfl ?_ ⟨(Roll.outw_pure (by decide) rfl), rfl⟩
          (have ec : ∀ x, a1.eval (.const x) = x := fun _ => rfl); (have ef : ∀ x, a1.eval (.func x) = .func (.func x) #[] #[] := fun _ => rfl); generalize a1.eval = ρ at *
          clear h12 h13
          go_simp <;> (intros; first | (exfalso; omega) | rfl | omega)
        · intro vs p hI0 hp
          have hI := Roll.inw_pure (by decide) rfl hI0
          clear hI0
          have h14 : (vs 14) = .pointer (some ⟨b, ob, none⟩) := hp 14 (by simp [Lzm7])
          have e44 : (Roll.putD Dzm7 vs [14] b0).eval (.tmp 44) = .pointer (some ⟨b, ob, none⟩) := (Roll.eval_new 14 rfl (by decide) (by decide) (by omega)).trans h14
          clear hp hlv hN
          unfold Roll.Goes
          simp only [Lzm7, List.getD_cons_zero, List.getD_cons_succ]
          generalize Roll.putD Dzm7 vs [14] b0 = a1 at *
          refine Roll.goes_val (w' := p) (.pointer (some ⟨b, ob + 1, none⟩)) rfl ?_ ⟨(Roll.outw_pure (by decide) rfl), rfl⟩
          (have ec : ∀ x, a1.eval (.const x) = x := fun _ => rfl); (have ef : ∀ x, a1.eval (.func x) = .func (.func x) #[] #[] := fun _ => rfl); generalize a1.eval = ρ at *
          clear h14
          go_simp <;> (intros; first | (exfalso; omega) | rfl | omega)
        · intro vs p hI0 hp
          have hI := Roll.inw_pure (by decide) rfl hI0
          clear hI0
          have h15 : (vs 15) = .pointer (some ⟨b, ob + 1, none⟩) := hp 15 (by simp [Lzm7])
          have e45 : (Roll.putD Dzm7 vs [15] b0).eval (.tmp 45) = .pointer (some ⟨b, ob + 1, none⟩) := (Roll.eval_new 15 rfl (by decide) (by decide) (by omega)).trans h15
          clear hp hlv hN
          unfold Roll.Goes
          simp only [Lzm7, List.getD_cons_zero, List.getD_cons_succ]
          generalize Roll.putD Dzm7 vs [15] b0 = a1 at *
          have cf : p.cell? ⟨b, ob + 1, none⟩ = some (.int .i64 so) := (hI.cell (p := ⟨b, ob + 1, none⟩) HBL.out HNB.out).trans CS.out
          refine Roll.goes_val (w' := p) (.int .i64 so) rfl ?_ ⟨(Roll.outw_pure (by decide) rfl), rfl⟩
          (have ec : ∀ x, a1.eval (.const x) = x := fun _ => rfl); (have ef : ∀ x, a1.eval (.func x) = .func (.func x) #[] #[] := fun _ => rfl); generalize a1.eval = ρ at *
          clear h15
          go_simp <;> (intros; first | (exfalso; omega) | rfl | omega)
        · intro vs p hI0 hp
          have hI := Roll.inw_pure (by decide) rfl hI0
          clear hI0
          have h10 : (vs 10) = .int .i64 T := hp 10 (by simp [Lzm7])
          have h16 : (vs 16) = .int .i64 so := hp 16 (by simp [Lzm7])
          have e40 : (Roll.putD Dzm7 vs [10, 16] b0).eval (.tmp 40) = .int .i64 T := (Roll.eval_new 10 rfl (by decide) (by decide) (by omega)).trans h10
          have e46 : (Roll.putD Dzm7 vs [10, 16] b0).eval (.tmp 46) = .int .i64 so := (Roll.eval_new 16 rfl (by decide) (by decide) (by omega)).trans h16
          clear hp hlv hN
          unfold Roll.Goes
          simp only [Lzm7, List.getD_cons_zero, List.getD_cons_succ]
          generalize Roll.putD Dzm7 vs [10, 16] b0 = a1 at *
          have f0 := run_bldShift T so
          refine Roll.goes_val (w' := p) (.agg #[.int .i64 T, .int .i64 so]) rfl ?_ ⟨(Roll.outw_pure (by decide) rfl), rfl⟩
          (have ec : ∀ x, a1.eval (.const x) = x := fun _ => rfl); (have ef : ∀ x, a1.eval (.func x) = .func (.func x) #[] #[] := fun _ => rfl); generalize a1.eval = ρ at *
          clear h10 h16
          go_simp <;> (intros; first | (exfalso; omega) | rfl | omega)
        · intro vs p hI0 hp
          have hI := Roll.inw_pre (by decide) rfl hI0
          clear hI0
          have h17 : (vs 17) = .agg #[.int .i64 T, .int .i64 so] := hp 17 (by simp [Lzm7])
          have e47 : (Roll.putD Dzm7 vs [17] b0).eval (.tmp 47) = .agg #[.int .i64 T, .int .i64 so] := (Roll.eval_new 17 rfl (by decide) (by decide) (by omega)).trans h17
          clear hp hlv hN
          unfold Roll.Goes
          simp only [Lzm7, List.getD_cons_zero, List.getD_cons_succ]
          generalize Roll.putD Dzm7 vs [17] b0 = a1 at *
          have hal : Below p.heap.size p (p.alloc (.cells #[.int .i64 T, .int .i64 so] 42)) := (Below.refl _ p).alloc (Nat.le_refl _) _
          refine Roll.goes_val (w' := p.alloc (.cells #[.int .i64 T, .int .i64 so] 42)) (.slice (some ⟨p.heap.size, 0, none⟩) 1 1) rfl (by have ec : ∀ x, a1.eval (.const x) = x := fun _ => rfl; have ef : ∀ x, a1.eval (.func x) = .func (.func x) #[] #[] := fun _ => rfl; have hbs := run_bldShifts T so; generalize a1.eval = ρ at *; go_simp <;> (intros; first | (exfalso; omega) | rfl)) ⟨Roll.outw_pre (by decide) rfl (hI.trans (hal.mono hI.size)) (Kept.of_below _ hal), p.heap.size, rfl, hI.size, heap_newZ⟩
        · intro vs p hI0 hp
          have hI := Roll.inw_k0 rfl hI0
          clear hI0
          have h1 : (vs 1) = .slice av i cv := hp 1 (by simp [Lzm7])
          have h18 : ∃ r, (vs 18) = .slice (some ⟨r, 0, none⟩) 1 1 ∧ wr.heap.size ≤ r ∧ p.heap[r]? = some (.cells #[.int .i64 T, .int .i64 so] 42 (0, 0)) := hp 18 (by simp [Lzm7])
          have e31 : (Roll.putD Dzm7 vs [1, 18] b0).eval (.tmp 31) = .slice av i cv := (Roll.eval_new 1 rfl (by decide) (by decide) (by omega)).trans h1
          have e48 : (Roll.putD Dzm7 vs [1, 18] b0).eval (.tmp 48) = vs 18 := (Roll.eval_new 18 rfl (by decide) (by decide) (by omega))
          clear hp hlv hN
          unfold Roll.Goes
          simp only [Lzm7, List.getD_cons_zero, List.getD_cons_succ]
          generalize Roll.putD Dzm7 vs [1, 18] b0 = a1 at *
          obtain ⟨x, hv18, hx, hc⟩ := h18
          rw [hv18] at e48
          refine wpList_append_any _ rfl (.tmp 31) (.tmp 48) _ _ rfl 42 i0 _ 2 16 Try.underlying22 hi0 hz0 hz1 hz2 rfl k (.slice av i cv) i (scells (moveL dd (L.take i))) e31 (HOW.out.kept (Kept.of_below (fun _ => False) hI) (fun _ _ h => h)) 1 (scells [⟨T, so⟩]) (by rw [e48]; exact src_shift hc) HK1.out HK2.out ?_
          intro k' v' w' ho' hf' hK' hn'
          exact ⟨v', rfl, Roll.outw_k0 rfl ⟨k', ho', fun j hj => (hf' j hj).imp id (fun e => Nat.le_trans hI.size e), (Kept.of_below (fun j => k = some j) hI).trans hK' (fun _ _ h => h)⟩ hK', trivial⟩
      · intro vs p hI hR
        have h0 : (vs 0) = .pointer (some ⟨gm, 1, none⟩) := hR 0 (by omega)
        have h1 : (vs 1) = .slice av i cv := hR 1 (by omega)
        have h2 : (vs 2) = .pointer (some ⟨gz, 1, none⟩) := hR 2 (by omega)
        have h3 : (vs 3) = .slice (some ⟨b, off, none⟩) nz cz := hR 3 (by omega)
        have h4 : (vs 4) = .int .i64 (i : Int) := hR 4 (by omega)
        have h5 : (vs 5) = .pointer (some ⟨b, ob, none⟩) := hR 5 (by omega)
        have h6 : (vs 6) = .pointer (some ⟨b, ob, none⟩) := hR 6 (by omega)
        have h7 : (vs 7) = .int .i64 st := hR 7 (by omega)
        have h8 : (vs 8) = .int .i64 kk := hR 8 (by omega)
        have h9 : (vs 9) = .int .i64 dd := hR 9 (by omega)
        have h10 : (vs 10) = .int .i64 T := hR 10 (by omega)
        have h11 : (vs 11) = .pointer (some ⟨gz, 1, none⟩) := hR 11 (by omega)
        have h12 : (vs 12) = .slice (some ⟨b, off, none⟩) nz cz := hR 12 (by omega)
        have h13 : (vs 13) = .int .i64 (i : Int) := hR 13 (by omega)
        have h14 : (vs 14) = .pointer (some ⟨b, ob, none⟩) := hR 14 (by omega)
        have h15 : (vs 15) = .pointer (some ⟨b, ob + 1, none⟩) := hR 15 (by omega)
        have h16 : (vs 16) = .int .i64 so := hR 16 (by omega)
        have h17 : (vs 17) = .agg #[.int .i64 T, .int .i64 so] := hR 17 (by omega)
        have h18 : ∃ r, (vs 18) = .slice (some ⟨r, 0, none⟩) 1 1 ∧ wr.heap.size ≤ r ∧ p.heap[r]? = some (.cells #[.int .i64 T, .int .i64 so] 42 (0, 0)) := hR 18 (by omega)
        have h19 : True := hR 19 (by omega)
        clear hR
        simp only [List.range_succ, List.range_zero, List.nil_append, List.cons_append, Roll.putD, Act.put, List.getD_cons_zero, List.getD_cons_succ, List.setIfInBounds_toArray, List.set_cons_zero, List.set_cons_succ, List.drop_succ_cons, List.drop_zero, Dzm7]
        simp only [h0, h1, h2, h3, h4, h5, h6, h7, h8, h9, h10, h11, h12, h13, h14, h15, h16, h17]
        clear h0 h1 h2 h3 h4 h5 h6 h7 h8 h9 h10 h11 h12 h13 h14 h15 h16 h17
        generalize vs 19 = v19 at *
        obtain ⟨k', ho', hf', hK'⟩ := hI
        clear h18 h19
        obtain ⟨a', c', rfl, -⟩ := ho'.sl
        have hgk' : ¬ k' = some gm := fun e => (hf' gm e).elim HNM.out (fun h => by have := HGML.out; omega)
        have hmp : p.heap[gm]? = some (.cells #[.int .i64 O, .slice av i cv] 24 (0, 0)) := hK'.heap HGM.out HNM.out
        have cmp : p.cell? ⟨gm, 1, none⟩ = some (.slice av i cv) := cell_of_row p gm 1 _ _ _ hmp
        have fmp := frozen_of_row p gm 1 _ _ hmp
        have HO2 := Lib.hid ho'
        have HF2 := Lib.hid hf'
        have HK3 := Lib.hid hK'
        have HGK2 := Lib.hid hgk'
        have HMP := Lib.hid hmp
        clear ho' hf' hK' hgk' hmp
        go_wp2_with fail
        go_roundw
        case rel =>
          have hkz : Kept (fun j => k = some j ∨ j = gm) wr (p.setCell ⟨gm, 1, none⟩ (.slice a' (i + 1) c')) := (HK3.out.mono (fun _ _ h => .inl h)).setCell (fun _ => .inr rfl) _
          refine ⟨i + 1, by have := HLT.out; omega, by go_num, .slice a' (i + 1) c', k', heap_setCell_same _ _ _ _ _ _ HMP.out, ?_, ?_, ?_⟩
          · rw [HTK.out, scells_app]; exact HO2.out.kept ((Kept.refl (fun j => j = gm) p).setCell (fun _ => rfl) _) (fun b hb e => HGK2.out (by rw [hb, e]))
          · intro b hb
            rcases HF2.out b hb with e | e
            · exact HKB.out b e
            · exact Nat.le_trans HKP.out.size e
          · exact HKP.out.trans hkz (fun b hb h => h.elim (fun e => by have := HKB.out b e; omega) id)
        case measure => simp [intOf]; have := HLT.out; omega
    · have hge : (nz : Int) ≤ (i : Int) := by omega
      obtain rfl : i = nz := by omega
      have htl : L.take i = L := List.take_of_length_le (by rw [HS.out.1]; exact Nat.le_refl _)
      have HSM : Hid (Ss (fun _ => True) wr av i cv (moveL dd L)) := Lib.hid ⟨by rw [moveL_len]; exact HS.out.1, by have := HSL.out; rw [htl] at this; exact this.dom (fun _ _ => trivial)⟩
      have HSZ : Hid (Ss (fun _ => True) wr az i cz L) := Lib.hid ((HS2.out.kept HKP.out (fun b _ h e => by omega)).dom (fun _ _ => trivial))
      have HRW : Hid (wr.heap[gz]? = some (.cells #[.int .i64 O, .slice az i cz] 24 (0, 0))) := Lib.hid (HKP.out.heap HRZ.out HNE.out)
      have HBW : Hid (Below W1.heap.size W1 wr) := Lib.hid (HB2.out.trans (HKP.out.below HB2.out.size (fun b hb e => by have := HGE.out.1; omega)))
      have hfm : Far 0 (moveL dd L) := (far_move dd (by have := HDD.out; omega) L 0 HF.out HLE.out).mono (by have := HDD.out; omega)
      have CL1 : Hid (∀ u, Below wr.heap.size wr u → Calls Try.prog 16 #[.agg #[.int .i64 O, .slice az i cz], .int .i64 t] u fun e w' => e = .returned (.tuple #[.int .i64 (lclZ t O L / 1440), .int .i64 (lclZ t O L % 1440)]) ∧ Below u.heap.size u w') := Lib.hid (fun u hu => local_any (HSZ.out.below hu) HO.out HF.out (by have := HDD.out; omega) (by have := HDD.out; omega))
      have CL2 : Hid (∀ u, Below wr.heap.size wr u → Calls Try.prog 16 #[.agg #[.int .i64 O, .slice av i cv], .int .i64 t2] u fun e w' => e = .returned (.tuple #[.int .i64 (lclZ t2 O (moveL dd L) / 1440), .int .i64 (lclZ t2 O (moveL dd L) % 1440)]) ∧ Below u.heap.size u w') := Lib.hid (fun u hu => local_any (HSM.out.below hu) HO.out hfm (by have := HDD.out; omega) (by have := HDD.out; omega))
      have hof := offZ_bd (t := t) L 0 O HF.out HO.out.1 HO.out.2
      have hl2 : lclZ t2 O (moveL dd L) = lclZ t O L + dd := by
        unfold lclZ
        rw [HDD.out.2.2.1, offZ_move]
        omega
      rw [hl2] at CL2
      have hl1 : lclZ t O L = t + offZ t O L := rfl
      obtain ⟨N0, hN⟩ : ∃ N0, N0 = lclZ t O L := ⟨_, rfl⟩
      rw [← hN] at CL1 CL2 hl1
      obtain ⟨da, hda⟩ : ∃ x, x = N0 / 1440 := ⟨_, rfl⟩
      obtain ⟨ma, hma⟩ : ∃ x, x = N0 % 1440 := ⟨_, rfl⟩
      have hd2 : (N0 + dd) / 1440 = da + kk := by rw [HDD.out.2.1]; omega
      have hm2' : (N0 + dd) % 1440 = ma := by rw [HDD.out.2.1]; omega
      rw [← hda, ← hma] at CL1
      rw [hd2, hm2'] at CL2
      have k1 : IntKind.i64.wrap (da + kk) = da + kk := i64_id _ (by have := HDD.out; omega) (by have := HDD.out; omega)
      have ldz := run_loadZone HRW.out
      have lm := run_loadZone HGM.out
      have HBP : Hid (Below wr.heap.size wr wr) := Lib.hid (Below.refl _ _)
      clear hl2 hl1 hN hda hma hd2 hm2' hof hfm htl hlt
      go_upto_region 9 with (go_at_call 15; refine (HIN.out _).mono ?_; rintro e w2 ⟨rfl, rfl⟩)
      clear czr lm
      go_upto_region 10 with (go_at_call 16; refine (CL1.out _ HBP.out).mono ?_; rintro e q1 ⟨rfl, hb⟩; have HBQ := Lib.hid hb; have lm := run_loadZone ((hb.block gm (heap_lt HGM.out)).trans HGM.out); clear hb ldz)
      go_upto_region 11 with (go_at_call 16; refine (CL2.out _ HBQ.out).mono ?_; rintro e q2 ⟨rfl, hb⟩; have HBR := Lib.hid (HBQ.out.trans (hb.mono HBQ.out.size)); clear hb lm)
      go_wp2_with (go_at_call 11; refine (HLV.out _).mono ?_; rintro e w9 ⟨rfl, hb⟩; have HBE := Lib.hid (HBR.out.trans (hb.mono HBR.out.size)); clear hb)
      go_ret
      exact ⟨rfl, HW.out.trans ((HBW.out.trans (HBE.out.mono HBW.out.size)).mono HW.out.size)⟩
end Go.Proofs.Ytcdjilnlmihnhaa

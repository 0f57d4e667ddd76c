/-
  The reference's Resolve (written by gen_ZM0.py).
-/
import Derived.Test.YtcdjilnlmihnhaaZL
namespace Go.Proofs.Ytcdjilnlmihnhaa
open Go.RowKit
set_option linter.unusedSimpArgs false
set_option linter.unusedVariables false
attribute [local go_sem ↓] exec_loadShift exec_storeShift exec_loadSeg exec_storeSeg exec_loadZone exec_storeZone
attribute [local go_sem] run_storeShift run_storeSeg run_storeZone
set_option maxRecDepth 100000 in
set_option maxHeartbeats 2000000 in
theorem refResolve_any {w : World} {D : Nat → Prop} {O day minute N : Int} {late : Bool} {az : Option Addr} {nz cz : Nat} {L : List SM} (h : Ss D w az nz cz L) (hnz : nz ≤ 1000) (ho : -900 ≤ O ∧ O ≤ 900) (hF : Far 0 L) (hd : -1000000 ≤ day ∧ day ≤ 1000000) (hm0 : 0 ≤ minute) (hm1 : minute < 1440) (hN : N = 1440 * day + minute) :
    Calls Try.prog 25 #[zV O az nz cz, .int .i64 day, .int .i64 minute, .bool late] w fun e w' => e = .returned (.int .i64 (resP late N 0 (segL minI O L))) ∧ Below w.heap.size w w' := by
  obtain ⟨W1, hW1⟩ : ∃ W1, W1 = w.alloc (.cells #[.int .i64 O, .slice az nz cz] 24) := ⟨_, rfl⟩
  obtain ⟨gz, hgz⟩ : ∃ gz, gz = w.heap.size := ⟨_, rfl⟩
  have hr1 : W1.heap[gz]? = some (.cells #[.int .i64 O, .slice az nz cz] 24 (0, 0)) := by rw [hW1, hgz]; exact heap_newZ
  have hb1 : Below w.heap.size w W1 := by rw [hW1]; exact (Below.refl _ w).alloc (Nat.le_refl _) _
  have hs1 := h.below hb1
  have HRI : Hid (Calls Try.prog 23 #[.agg #[.int .i64 O, .slice az nz cz], .int .i64 day, .int .i64 minute] W1 fun e w' => ∃ a n c, e = .returned (.slice a n c) ∧ Is (fun _ => True) w' a n c (insP N (segL minI O L)) ∧ Below W1.heap.size W1 w') := Lib.hid (refInstants_any hs1 hnz ho hF hd hm0 hm1 hN)
  have hmain := zmain (n := N) (by omega) L minI O (far_min hF) ho.1 ho.2 (by unfold minI; omega)
  have HMAIN := Lib.hid hmain
  have HS := Lib.hid hs1
  have HW := Lib.hid hb1
  have HR1 := Lib.hid hr1
  have HGZL := Lib.hid (heap_lt hr1)
  have HLEN := Lib.hid h.1
  have HN1 := Lib.hid hnz
  have HF := Lib.hid hF
  have HO := Lib.hid ho
  have hmz1 : nz ≤ cz := h.2.2.1
  have hmz2 : cz ≤ 9223372036854775807 := h.2.2.2.1
  have j1 : IntKind.i64.wrap (1440 * day) = 1440 * day := i64_id _ (by omega) (by omega)
  have j2 : IntKind.i64.wrap (1440 * day + minute) = N := by rw [i64_id _ (by omega) (by omega), hN]
  have ldz := run_loadZone hr1
  clear h hnz ho hF hd hm0 hm1 hN hr1 hb1 hs1 hmain
  unfold zV
  go_enter Try.func25, Try.ntmps25
  go_upto_region 1 with fail
  rw [← hW1]
  rw [← hgz]
  clear hW1 hgz
  obtain ⟨PP, hPP⟩ : ∃ PP, PP = insP N (segL minI O L) := ⟨_, rfl⟩
  rw [← hPP] at HRI HMAIN
  have HP2 : Hid (PP.length ≤ 2) := Lib.hid (by rw [hPP]; exact insP_two (n := N) L minI O (far_min HF.out) HO.out.1 HO.out.2)
  clear hPP
  go_upto_region 2 with (go_at_call 23; refine HRI.out.mono ?_; rintro e w2 ⟨a2, n2, c2, rfl, hi, hb⟩; have HIS := Lib.hid hi; have HB2 := Lib.hid hb; have hnc1 := hi.2.2.1; have hnc2 : c2 ≤ 9223372036854775807 := hi.2.2.2.1; clear hi hb HRI ldz)
  rcases HMAIN.out with ⟨he, X, hg, hr⟩ | ⟨hg, x, y, hx, hy, hr⟩
  · obtain rfl : n2 = 0 := by have := HIS.out.1; rw [he] at this; exact this.symm
    have HRES : Hid (resP late N 0 (segL minI O L) = X) := Lib.hid (hr _ _)
    have HGF := Lib.hid hg
    have HRW : Hid (w2.heap[gz]? = some (.cells #[.int .i64 O, .slice az nz cz] 24 (0, 0))) := Lib.hid ((HB2.out.block gz HGZL.out).trans HR1.out)
    have c0 : w2.cell? ⟨gz, 0, none⟩ = some (.int .i64 O) := cell_of_row w2 gz 0 _ _ _ HRW.out
    clear he hg hr
    go_wp2
    clear c0 j1 j2
    go_loopw [11, 12] (fun u v wr => ∃ (i : Nat) (bef : Int), i ≤ nz ∧ u = .int .i64 bef ∧ v = .int .i64 (i : Int) ∧ (-900 ≤ bef ∧ bef ≤ 900) ∧ gapF N bef (L.drop i) = some X ∧ Below W1.heap.size W1 wr) (fun _ v _ => nz - (intOf v).toNat)
    case atStart => exact ⟨0, O, Nat.zero_le _, rfl, rfl, HO.out, HGF.out, HB2.out⟩
    case round =>
      obtain ⟨i, bef, hi, rfl, rfl, hbf, hgf, hb⟩ := hrel
      have HB := Lib.hid hb
      have HG := Lib.hid hgf
      clear hb hgf
      have c1 : wr.cell? ⟨gz, 1, none⟩ = some (.slice az nz cz) := cell_of_row wr gz 1 _ _ _ ((HB.out.block gz HGZL.out).trans HR1.out)
      by_cases hlt : i < nz
      · have hil : i < L.length := by rw [HLEN.out]; exact hlt
        have hlt2 : (i : Int) < (nz : Int) := by omega
        have k1 : IntKind.i64.wrap ((i : Int) + 1) = (i : Int) + 1 := i64_id _ (by omega) (by omega)
        obtain ⟨b, off, -, hbl, rfl, hat⟩ := HS.out.at (by omega)
        have hr : wr.rangeAt b (off + i * 2) L[i].cells := fun j v hv => (HB.out.cell (p := ⟨b, off + i * 2 + j, none⟩) hbl).trans (hat i hil j v hv)
        have hfd := far_drop L 0 i hil HF.out
        have hgs := HG.out
        rw [List.drop_eq_getElem_cons hil, gapF] at hgs
        obtain ⟨ob, hob⟩ : ∃ ob, ob = off + i * 2 := ⟨_, rfl⟩
        rw [← hob] at hr
        have hob2 : off + i * 2 = ob := hob.symm
        obtain ⟨s, hs⟩ : ∃ s, s = L[i] := ⟨_, rfl⟩
        rw [← hs] at hr hfd hgs
        have ld0 := run_loadShiftAt hr
        have p2 : ShiftB (wr.alloc (.cells #[.int .i64 0, .int .i64 0] 42)) wr.heap.size := ⟨_, _, heap_newZ⟩
        have j3 : IntKind.i64.wrap (s.t + bef) = s.t + bef := i64_id _ (by have := hfd.1; omega) (by have := hfd.1; omega)
        have j4 : IntKind.i64.wrap (s.t + s.o) = s.t + s.o := i64_id _ (by have := hfd.1; have := hfd.2.1; omega) (by have := hfd.1; have := hfd.2.1; omega)
        have HGS := Lib.hid hgs
        have HSO := Lib.hid hfd.2.1
        have HLT := Lib.hid hlt
        clear hat hr hob hs hil hfd hgs hbl hlt hbf
        go_upto_region 12 with fail
        obtain ⟨W2, hW2⟩ : ∃ W2, W2 = (wr.alloc (.cells #[.int .i64 0, .int .i64 0] 42)).setRow wr.heap.size #[.int .i64 s.t, .int .i64 s.o] := ⟨_, rfl⟩
        obtain ⟨gs, hgs⟩ : ∃ gs, gs = wr.heap.size := ⟨_, rfl⟩
        have hr2 : W2.heap[gs]? = some (.cells #[.int .i64 s.t, .int .i64 s.o] 42 (0, 0)) := by rw [hW2, hgs]; exact setRow_heap _ _ _ _ _ _ heap_newZ
        have hb2 : Below W1.heap.size W1 W2 := HB.out.trans (by rw [hW2]; exact ((((Kept.refl (fun _ => False) wr).alloc _).setRow (fun h => by omega) _).below (Nat.le_refl _) (fun _ _ h => h)).mono HB.out.size)
        rw [← hW2]
        rw [← hgs]
        have c4 : W2.cell? ⟨gs, 0, none⟩ = some (.int .i64 s.t) := cell_of_row W2 gs 0 _ _ _ hr2
        have c5 : W2.cell? ⟨gs, 1, none⟩ = some (.int .i64 s.o) := cell_of_row W2 gs 1 _ _ _ hr2
        have HBB := Lib.hid hb2
        clear hW2 hgs hr2 hb2 p2 ld0 c1
        by_cases h1 : s.t + bef ≤ N
        · by_cases h2 : N < s.t + s.o
          · have HX : Hid (s.t = X) := Lib.hid (by have := HGS.out; rw [if_pos ⟨h1, h2⟩] at this; exact Option.some.inj this)
            go_wp2
            go_ret
            exact ⟨by rw [HRES.out, ← HX.out]; rfl, HW.out.trans (HBB.out.mono HW.out.size)⟩
          · have HX : Hid (gapF N s.o (L.drop (i + 1)) = some X) := Lib.hid (by have := HGS.out; rwa [if_neg (fun h => h2 h.2)] at this)
            go_wp2
            go_roundw
            case rel => exact ⟨i + 1, s.o, by have := HLT.out; omega, rfl, by go_num, HSO.out, HX.out, HBB.out⟩
            case measure => simp [intOf]; have := HLT.out; omega
        · have HX : Hid (gapF N s.o (L.drop (i + 1)) = some X) := Lib.hid (by have := HGS.out; rwa [if_neg (fun h => h1 h.1)] at this)
          go_wp2
          go_roundw
          case rel => exact ⟨i + 1, s.o, by have := HLT.out; omega, rfl, by go_num, HSO.out, HX.out, HBB.out⟩
          case measure => simp [intOf]; have := HLT.out; omega
      · exfalso
        have := HG.out
        rw [List.drop_of_length_le (by rw [HLEN.out]; omega)] at this
        cases this
  · have hn2 : 0 < n2 := by
      have := HIS.out.1
      cases hp : PP with
      | nil => rw [hp] at hx; cases hx
      | cons u v => rw [hp] at this; rw [← this]; exact Nat.succ_pos _
    have hn3 : n2 ≤ 2 := by
      have h1 := HP2.out
      have := HIS.out.1
      omega
    obtain ⟨b, off, -, hbl, rfl, hc⟩ := HIS.out.cellsZ hn2
    have hl0 : PP[0]'(by rw [HIS.out.1]; exact hn2) = x := by
      rw [List.head?_eq_getElem?, List.getElem?_eq_getElem (by rw [HIS.out.1]; exact hn2)] at hx
      exact Option.some.inj hx
    obtain ⟨m, hm⟩ : ∃ m, n2 = m + 1 := ⟨n2 - 1, by omega⟩
    subst hm
    have hl1 : PP[m]'(by rw [HIS.out.1]; omega) = y := by
      rw [List.getLast?_eq_getElem?, HIS.out.1, Nat.add_sub_cancel, List.getElem?_eq_getElem (by rw [HIS.out.1]; omega)] at hy
      exact Option.some.inj hy
    have e0 := hc 0 (by rw [HIS.out.1]; exact hn2)
    have e1 := hc m (by rw [HIS.out.1]; omega)
    rw [hl0] at e0
    rw [hl1] at e1
    have k1 : IntKind.i64.wrap (((m + 1 : Nat) : Int) - 1) = (m : Int) := by rw [i64_id _ (by omega) (by omega)]; omega
    have hp0 : (0 : Int) < ((m + 1 : Nat) : Int) := by omega
    have hp1 : (m : Int) < ((m + 1 : Nat) : Int) := by omega
    have HE := Lib.hid (hr 0).1
    have HLL := Lib.hid (hr 0).2
    clear hc hl0 hl1 hr hx hy hg hn2 hn3 hbl
    cases late with
    | true =>
      have HRES : Hid (resP true N 0 (segL minI O L) = y) := HLL
      go_wp2
      go_ret
      exact ⟨by rw [HRES.out]; rfl, HW.out.trans (HB2.out.mono HW.out.size)⟩
    | false =>
      have HRES : Hid (resP false N 0 (segL minI O L) = x) := HE
      have e2 : w2.cell? ⟨b, off, none⟩ = some (.int .i64 x) := e0
      go_wp2
      go_ret
      exact ⟨by rw [HRES.out]; rfl, HW.out.trans (HB2.out.mono HW.out.size)⟩
end Go.Proofs.Ytcdjilnlmihnhaa

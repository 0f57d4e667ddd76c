/-
  The law DiskWire.
-/
import Derived.Test.YtbnodhcgdgcebaaUA
namespace Go.Proofs.Ytbnodhcgdgcebaa
open Go.RowKit
set_option linter.unusedSimpArgs false
set_option linter.unusedVariables false
def Ddw19 : List (Option Tmp) := [some 77, some 78, some 79, some 80, some 81, some 82, some 83, some 84, some 85, some 86, some 87, some 88, some 89, some 90, some 91, some 92]
def Ldw19 : List (List Nat) := [[], [], [], [1, 2], [3], [4], [5], [6], [], [], [8, 9], [10], [11], [12], [0, 7, 13], [14]]
theorem bs_none (w : World) : Bs (fun _ => False) w none 0 0 [] := ⟨rfl, Sl.empty _ _ _ _ _ (Nat.zero_le _) (fun _ => rfl)⟩
theorem FreshI.is {w w' : World} {v : Value} {l : List Int} (h : FreshI w v l w') : ∃ a c, v = .slice a l.length c ∧ Is (fun j => w.heap.size ≤ j) w' a l.length c l := by
  obtain ⟨k, ho, hf⟩ := h
  obtain ⟨a, c, hv, hs⟩ := ho.sl
  exact ⟨a, c, hv, rfl, hs.dom (fun b hb => hf b hb)⟩
set_option maxRecDepth 100000 in
set_option maxHeartbeats 8000000 in
theorem diskwire_any (la : Option Addr) (ln lc : Nat) (l : List Int) (a : Option Addr) (n c : Nat) (ms : List OM) (ta : Option Addr) (tn tc : Nat) (ts : List TM) (w0 : World) (hI : Is (fun b => b < w0.heap.size) w0 la ln lc l) (h64 : Ok64 l) (hO : Ops (fun b => b < w0.heap.size) w0 a n c ms) (hT : Ts (fun b => b < w0.heap.size) w0 ta tn tc ts) :
    Calls Try.prog 11 #[.slice la ln lc, .slice a n c, .slice ta tn tc] w0 fun e w' => e = .returned (.bool true) ∧ Below w0.heap.size w0 w' := by
  have HO := Lib.hid hO
  have HI := Lib.hid hI
  have HL0 := Lib.hid (Lv.refl w0)
  have htc : tn ≤ tc := hT.2.1.2.1
  have htm : tc ≤ 9223372036854775807 := hT.2.1.2.2.1
  obtain ⟨M, hM⟩ : ∃ M, M = min tn 40 := ⟨_, rfl⟩
  have Hmin1 : Hid (min (tn : Int) 40 = (M : Int)) := Lib.hid (by omega)
  have hM2 : (M : Int) ≤ (tn : Int) := by omega
  have HT := Lib.hid (hT.upto M (by omega))
  obtain ⟨z, hz⟩ : ∃ z, z = l.take 30 := ⟨_, rfl⟩
  have HZ64 : Hid (Ok64 z) := Lib.hid (by rw [hz]; exact h64.take 30)
  have HZL : Hid (z.length ≤ 30) := Lib.hid (by rw [hz, List.length_take]; omega)
  obtain ⟨bs, hbs⟩ : ∃ bs, bs = encL z := ⟨_, rfl⟩
  have HBL : Hid (0 < bs.length ∧ bs.length ≤ 310) := Lib.hid (by rw [hbs]; exact ⟨encL_pos z, encL_le z HZ64.out HZL.out⟩)
  have HRI : Hid (rInts ⟨bs, 0⟩ 30 = (z, ⟨[], 0⟩)) := Lib.hid (by have := rInts_enc z [] 30 HZ64.out (by have := HZL.out; omega) (by have := HZL.out; omega); rw [List.append_nil] at this; rw [hbs]; exact this)
  have HZ := Lib.hid hz
  have HBS := Lib.hid hbs
  clear hO hI hT hM hz hbs
  go_enter Try.func11, Try.ntmps11
  go_upto_region 5 with (first | (have hL := HL0.out; go_at_call 19; refine (new_lv hL 16 (by omega) (by omega)).mono ?_; rintro e w1 ⟨g, rfl, hl⟩; have HL1 := Lib.hid hl; clear hl HL0 hL))
  -- CUT 1
  obtain ⟨w2, hw2⟩ : ∃ w2, w2 = w1.alloc (.cells #[.slice none 0 0] 77) := ⟨_, rfl⟩
  obtain ⟨g0, hg0⟩ : ∃ g0, g0 = w1.heap.size := ⟨_, rfl⟩
  have hb2 : Below w1.heap.size w1 w2 := by rw [hw2]; exact (Below.refl _ _).alloc (Nat.le_refl _) _
  have hz2 : w2.heap.size = w1.heap.size + 1 := by rw [hw2, size_alloc1]
  have HW2 : Hid (Wr w2 g0 none []) := Lib.hid (by rw [hw2, hg0]; exact Wr.new w1)
  have HI2 : Hid (Is (fun b => b < w0.heap.size) w2 la ln lc l) := Lib.hid (HI.out.kept (Kept.of_below (fun x => w0.heap.size ≤ x) (HL1.out.below hb2).args) (fun x hx _ h => by omega))
  rw [← hw2, ← hg0]
  have HB2 := Lib.hid hb2
  have HZ2 := Lib.hid hz2
  have HG0 := Lib.hid hg0
  clear hw2 hg0 hb2 hz2
  go_upto_region 6 with (first
    | (go_at_call 40; refine (copiedI_any _ la ln lc 30 l w2 HI2.out (by omega)).mono ?_; rintro e w3 ⟨v, rfl, hm⟩; rw [← HZ.out] at hm; obtain ⟨⟨kk, ho, hf⟩, hbl⟩ := hm; obtain ⟨a3, c3, rfl, hs⟩ := ho.sl; have HI3 : Hid (Is (fun b => kk = some b) w3 a3 z.length c3 z) := Lib.hid ⟨rfl, hs⟩; have HF3 := Lib.hid hf; have HB3 := Lib.hid hbl; clear ho hf hbl hs HI2)
    | (have hW := HW2.out; go_at_call 39; refine (wints_any g0 none [] _ a3 _ c3 z w3 (hW.kept (Kept.of_below (fun _ => False) HB3.out) (fun h => h) (fun _ _ h => h)) (by simp) HI3.out (fun b hb => ⟨fun e => by have := HF3.out b hb; have := HG0.out; have := HZ2.out; omega, by simp⟩) HZ64.out (by have := HZL.out; omega)).mono ?_; rintro e w4 ⟨rfl, k4, hw4, hlk⟩; rw [List.nil_append, ← HBS.out] at hw4; have HW4 := Lib.hid hw4; have HK4 := Lib.hid hlk; clear hw4 hlk HW2 hW))
  -- CUT 2
  have HB4 : Hid (Below w1.heap.size w1 w4) := Lib.hid ((HB2.out.trans (HB3.out.mono HB2.out.size)).trans (HK4.out.kept.below (Nat.le_trans HB2.out.size HB3.out.size) (fun j hj e => e.elim (fun e => by have := HG0.out; omega) (fun e => by cases e))))
  go_upto_region 7 with (first
    | (go_at_call 41; refine (done_any g0 k4 bs w4 HW4.out (by have := HBL.out; omega)).mono ?_; rintro e w5 ⟨v, rfl, hm⟩; have HLd : Hid (Lv w0 w5 (bytesO v bs :: [diskO g (DM.new 16)])) := Lib.hid ((HL1.out.below HB4.out).made hm); clear hm HW4))
  -- CUT 3
  obtain ⟨Zb, ba, cb, hv, hbb⟩ := HLd.out.bytes (i := 0) rfl
  obtain ⟨bb, bo, -, -, rfl, -⟩ := hbb.cells HBL.out.1
  subst hv
  obtain ⟨bn, hbn⟩ : ∃ bn, bn = bs.length := ⟨_, rfl⟩
  rw [← hbn] at HLd hbb HBL
  rw [← hbn]
  have hcb : bn ≤ cb := hbb.2.2.1
  have hcb2 : cb ≤ 9223372036854775807 := hbb.2.2.2.1
  have HBN := Lib.hid hbn
  have hbl1 := HBL.out.1
  have hbl2 := HBL.out.2
  clear hbb hbn HB4 HK4 HB3 HF3 HI3 HB2 HZ2 HG0 HL1
  go_upto_region 8 with fail
  go_loopw [11, 12] (fun u t wr => ∃ i : Nat, i ≤ 8 ∧ i * 64 < bn + 64 ∧ u = .int .i64 (i : Int) ∧ Lv w0 wr [bytesO (.slice (some ⟨bb, bo, none⟩) bn cb) bs, diskO g (wr0 bs i)]) (fun u _ _ => 8 - (intOf u).toNat)
  case atStart => exact ⟨0, by omega, by omega, rfl, HLd.out⟩
  case round =>
    obtain ⟨i, hi8, hib, rfl, hL⟩ := hrel
    have HL := Lib.hid hL
    clear hL HLd
    obtain ⟨qn, hq⟩ : ∃ qn, qn = i * 64 := ⟨_, rfl⟩
    have hw1 : IntKind.i64.wrap ((i : Int) * 64) = (qn : Int) := by rw [i64_id _ (by omega) (by omega)]; omega
    have HQ := Lib.hid hq
    by_cases hlt : qn < bn
    · -- DEV 1
      have hi7 : i < 8 := by omega
      have hn2 : (qn : Int) < (bn : Int) := by omega
      have hw2 : IntKind.i64.wrap ((qn : Int) + 64) = (qn : Int) + 64 := i64_id _ (by omega) (by omega)
      have hw3 : IntKind.i64.wrap ((i : Int) + 1) = (i : Int) + 1 := i64_id _ (by omega) (by omega)
      obtain ⟨E, hE⟩ : ∃ E, E = min (qn + 64) bn := ⟨_, rfl⟩
      have Hmin : Hid (min ((qn : Int) + 64) (bn : Int) = (E : Int)) := Lib.hid (by omega)
      have hE1 : qn ≤ E := by omega
      have hE2 : E ≤ bn := by omega
      have hE3 : E ≤ cb := by omega
      have hE4 : qn < cb := by omega
      have HE : Hid (E ≤ qn + 64) := Lib.hid (by omega)
      have HE5 : Hid (¬ cb = qn) := Lib.hid (by omega)
      have hmk := run_mk64
      obtain ⟨Zs, hsb⟩ := HL.out.bs (i := 0) rfl
      obtain ⟨_, _, -, hbw, e0, hcell⟩ := hsb.cells (by omega)
      cases e0
      obtain ⟨bi, hbi⟩ : ∃ bi, bi = (bs.drop (i * 64)).take 64 := ⟨_, rfl⟩
      have hbl : bi.length = E - qn := by rw [hbi, List.length_take, List.length_drop, ← HBN.out]; omega
      have HCN : Hid ((vals bi).length = Nat.min (E - qn) 64) := Lib.hid (by rw [vals_len, hbl]; exact (Nat.min_eq_left (by omega)).symm)
      have HFIT : Hid (0 + (vals bi).length ≤ (vals zeroB).length) := Lib.hid (by rw [vals_len, vals_len, zeroB_len, hbl]; omega)
      have HROW : Hid ((wr.alloc (.cells Z64 5)).heap[wr.heap.size]? = some (.cells (vals zeroB).toArray 5 (0, 0))) := Lib.hid (by rw [← Z64_vals]; exact heap_new rfl)
      have HSRC : Hid (∀ j v, (vals bi)[j]? = some v → (wr.alloc (.cells Z64 5)).cell? ((⟨bb, bo + qn, none⟩ : Addr).add j) = some v) := Lib.hid (fun j v hv => by
        have hj : j < bi.length := by
          have := (List.getElem?_eq_some_iff.1 hv).1
          rwa [vals_len] at this
        have hjb : qn + j < bs.length := by rw [← HBN.out]; omega
        have e1 : v = .int .u8 (bs[qn + j].toNat : Int) := by
          have e2 : (vals bi)[j]? = some (.int .u8 (bi[j].toNat : Int)) := by simp [vals, hj]
          rw [e2] at hv
          have e3 : bi[j] = bs[qn + j] := by simp only [hbi, List.getElem_take, List.getElem_drop, hq]
          rw [← e3]; exact (Option.some.inj hv).symm
        rw [e1]
        have e4 : ((⟨bb, bo + qn, none⟩ : Addr).add j) = ⟨bb, bo + (qn + j), none⟩ := by simp [Addr.add, Nat.add_assoc]
        rw [e4]
        exact (((Below.refl _ _).alloc (Nat.le_refl _) _).cell (p := ⟨bb, bo + (qn + j), none⟩) hbw).trans (hcell (qn + j) hjb))
      have HBA : Hid (Below wr.heap.size wr (wr.alloc (.cells Z64 5))) := Lib.hid ((Below.refl _ _).alloc (Nat.le_refl _) _)
      have HBB : Hid (∀ w' : World, w'.heap[wr.heap.size]? = some (.cells (splice (vals zeroB) 0 (vals bi)).toArray 5 (0, 0)) → Bs (fun b => b = wr.heap.size) w' (some ⟨wr.heap.size, 0, none⟩) 64 64 (blkB bs i)) := Lib.hid (fun w' h => by
        rw [splice_pad, show padB bi = blkB bs i by unfold blkB; rw [hbi]] at h
        have := bs_block h (by rw [blkB_len]; decide)
        rw [blkB_len] at this
        exact this)
      have HLEN : Hid (i < (wr0 bs i).S.length) := Lib.hid (by rw [wr0_len]; omega)
      clear hq hE hsb hbw hcell hbi hbl
      go_upto_region 12 with (first
        | (refine wpList_min2 rfl (.tmp 48) (.tmp 50) 3 3 rfl ((qn : Int) + 64) (bn : Int) (E : Int) rfl rfl Hmin.out ?_)
        | (refine wpList_copy_splice rfl (.tmp 42) (.tmp 52) 32 32 rfl 5 Try.underlying32 (by kernel_rfl) _ _ 64 64 (E - qn) (cb - qn) rfl rfl wr.heap.size 0 (vals zeroB) 5 HROW.out (vals bi) HCN.out (fun _ => ⟨rfl, ⟨bb, bo + qn, none⟩, if_neg HE5.out, HSRC.out⟩) HFIT.out (vals_one bi) wr.heap.size wr HBA.out (Nat.le_refl _) ?_; intro w7 hg7 hb7; have HL7 := Lib.hid (HL.out.below hb7); have HB7 := Lib.hid (HBB.out w7 hg7.out); clear hg7 hb7))
      -- CUT 5
      clear HROW HSRC HCN HFIT HBA HBB HL
      go_wp2_with (first
        | (have hL := HL7.out; go_at_call 31; refine (write_lv hL (i := 1) (d := wr0 bs i) rfl HB7.out i HLEN.out (wr0_on bs i) ((wr0_ok bs i).mono (by omega))).mono ?_; rintro e w8 ⟨rfl, hl⟩; have HL8 : Hid (Lv w0 w8 [bytesO (.slice (some ⟨bb, bo, none⟩) bn cb) bs, diskO g (wr0 bs (i + 1))]) := Lib.hid hl; clear hl HL7 hL))
      go_roundw
      -- CUT 6
      case rel => exact ⟨i + 1, by omega, by have := HQ.out; omega, by go_num, HL8.out⟩
      case measure => simp [intOf]; omega
    -- VED 1
    -- ELSE x
    · have hx : (bn : Int) ≤ (qn : Int) := by omega
      have hbn3 : (bn : Int) ≤ 310 := by omega
      have h8 := has8_flush bs i (by rw [← HBN.out]; omega)
      have h2ok : (wr0 bs i).flush.Ok 0 := DM.flush_ok (wr0_ok bs i)
      have h2on : (wr0 bs i).flush.on = true := (flush_on (wr0_fuse bs i)).trans (wr0_on bs i)
      have h2f : (wr0 bs i).flush.fuse = 0 := (flush_fuse (wr0_fuse bs i)).trans (wr0_fuse bs i)
      have h2s : (wr0 bs i).flush.S.length = 16 := (flush_len _).trans (wr0_len bs i)
      have HW1 : Hid ((wr0 bs i).on = true) := Lib.hid (wr0_on bs i)
      obtain ⟨D2, hD2⟩ : ∃ D2, D2 = (wr0 bs i).flush := ⟨_, rfl⟩
      rw [← hD2] at h8 h2ok h2on h2f h2s
      have HD2 := Lib.hid hD2
      have H8 := Lib.hid h8
      have H2OK := Lib.hid h2ok
      have H2ON := Lib.hid h2on
      have H2F := Lib.hid h2f
      have H2S := Lib.hid h2s
      clear hq hD2 h8 h2ok h2on h2f h2s
      -- CUT 7
      go_upto_region 17 with (first
        | (have hL := HL.out; go_at_call 30; refine (flush_lv hL (i := 1) (d := wr0 bs i) rfl HW1.out).mono ?_; rintro e w6 ⟨rfl, hl⟩; rw [← HD2.out] at hl; have HL6 : Hid (Lv w0 w6 [bytesO (.slice (some ⟨bb, bo, none⟩) bn cb) bs, diskO g D2]) := Lib.hid hl; clear hl HL hL))
      -- CUT 8
      go_loopw [13] (fun t wr => ∃ (j : Nat) (d : DM), j ≤ n ∧ j ≤ 20 ∧ t = .int .i64 (j : Int) ∧ Lv w0 wr [bytesO (.slice (some ⟨bb, bo, none⟩) bn cb) bs, diskO g d] ∧ d.on = true ∧ d.fuse = 0 ∧ d.S.length = 16 ∧ d.Ok j ∧ Has8 bs d) (fun t _ => 20 - (intOf t).toNat)
      case atStart => exact ⟨0, D2, Nat.zero_le _, by omega, rfl, HL6.out, H2ON.out, H2F.out, H2S.out, H2OK.out, H8.out⟩
      -- ELSE case
      case round =>
        obtain ⟨j, d, hj, hj20, rfl, hL, hon, hf0, hSL, hOK, hh8⟩ := hrel
        have HL := Lib.hid hL
        have HON := Lib.hid hon
        have HF0 := Lib.hid hf0
        have HSL := Lib.hid hSL
        have HOKi := Lib.hid hOK
        have HOK : Hid (d.Ok 100000) := Lib.hid (hOK.mono (by omega))
        have HH8 := Lib.hid hh8
        clear hL hon hf0 hSL hOK hh8 HL6
        by_cases hlt : j < n
        · by_cases hlt20 : j < 20
          · -- DEV 2
            have hn2 : (j : Int) < (n : Int) := by omega
            have hn3 : (j : Int) < 20 := by omega
            have hw1 : IntKind.i64.wrap ((j : Int) + 1) = (j : Int) + 1 := i64_id _ (by omega) (by omega)
            obtain ⟨b, off, hDb, hbw, rfl, hrb⟩ := HO.out.at (by omega)
            have hil : j < ms.length := by have := HO.out.1; omega
            have hr5 := hrb j hil
            obtain ⟨m, hm⟩ : ∃ m, m = ms[j] := ⟨_, rfl⟩
            have hmok : OOk (fun b => b < w0.heap.size) w0 m := by rw [hm]; exact HO.out.2.2 _ (List.getElem_mem hil)
            rw [← hm] at hr5
            obtain ⟨ob, hob⟩ : ∃ ob, off + j * 5 = ob := ⟨_, rfl⟩
            rw [hob] at hr5
            have hbq : b < wr.heap.size := Nat.lt_of_lt_of_le hbw HL.out.size
            have cK0 : wr.cell? ⟨b, ob + 0, none⟩ = some (.int .i64 m.kind) := (HL.out.args.cell (p := ⟨b, ob + 0, none⟩) hbw).trans (hr5 0 _ rfl)
            have c1 : wr.cell? ⟨b, ob + 1, none⟩ = some (.int .i64 m.k) := (HL.out.args.cell (p := ⟨b, ob + 1, none⟩) hbw).trans (hr5 1 _ rfl)
            have c2 : wr.cell? ⟨b, ob + 2, none⟩ = some (.int .i64 m.n) := (HL.out.args.cell (p := ⟨b, ob + 2, none⟩) hbw).trans (hr5 2 _ rfl)
            have c3 : wr.cell? ⟨b, ob + 3, none⟩ = some (.slice m.ba m.bn m.bc) := (HL.out.args.cell (p := ⟨b, ob + 3, none⟩) hbw).trans (hr5 3 _ rfl)
            have cK : wr.cell? ⟨b, ob, none⟩ = some (.int .i64 m.kind) := cK0
            have HM := Lib.hid hmok
            have HOB := Lib.hid hob
            have HC1 := Lib.hid c1
            have HC2 := Lib.hid c2
            have HC3 := Lib.hid c3
            have Hbw := Lib.hid hbw
            have Hbq := Lib.hid hbq
            clear hDb hrb hr5 hm hmok cK0 c1 c2 c3 hil hbw hbq
            go_upto_region 19 with fail
            rename World => q
            have C1 : Hid (q.cell? ⟨b, ob + 1, none⟩ = some (.int .i64 m.k)) := HC1
            have C2 : Hid (q.cell? ⟨b, ob + 2, none⟩ = some (.int .i64 m.n)) := HC2
            have C3 : Hid (q.cell? ⟨b, ob + 3, none⟩ = some (.slice m.ba m.bn m.bc)) := HC3
            obtain ⟨B, ⟨gd, gm, row, NN, hdq, hBB⟩, hlt, _, hset⟩ := HL.out.get (i := 1) rfl
            have hdq := hdq.bound HOK.out
            have HD := Lib.hid hdq
            have HBB := Lib.hid hBB
            have HLT := Lib.hid hlt
            have HSET := Lib.hid hset
            have HBQ : Hid (b < q.heap.size ∧ ¬ B b) := Lib.hid ⟨Hbq.out, fun hb => by have := (hlt b hb).1; have := Hbw.out; omega⟩
            obtain ⟨rr, hrr, hrb⟩ := around_nat m.k 8 (by omega)
            have HRR := Lib.hid hrr
            obtain ⟨kk, hkk⟩ : ∃ kk, kk = 8 + rr := ⟨_, rfl⟩
            have HKW : Hid (IntKind.i64.wrap (8 + (rr : Int)) = (kk : Int)) := Lib.hid (by rw [i64_id _ (by omega) (by omega)]; omega)
            have HK8 : Hid (8 ≤ kk) := Lib.hid (by omega)
            have HKS : Hid (kk < d.S.length) := Lib.hid (by have := HSL.out; omega)
            have HMK : Hid (-9223372036854775808 ≤ m.k ∧ m.k ≤ 9223372036854775807) := Lib.hid HM.out.2.1
            have HMN : Hid (-9223372036854775808 ≤ m.n ∧ m.n ≤ 9223372036854775807) := Lib.hid HM.out.2.2.1
            have HIN : Hid ((j : Int) < (n : Int)) := Lib.hid (by omega)
            have HNC : Hid (n ≤ c ∧ c ≤ 9223372036854775807) := Lib.hid ⟨HO.out.2.1.2.1, HO.out.2.1.2.2.1⟩
            clear hdq hBB hlt hset hrr hrb hkk
            refine Roll.region_w 16 143 Ddw19 Ldw19 [(1, .slice (some ⟨b, off, none⟩) n c), (7, .pointer (some ⟨g, 0, none⟩)), (13, .int .i64 (j : Int))] 14 [true, true, true, true, true, true, true, true, true, true, true, true, true, false, false, true] (fun p => Below q.heap.size q p) (fun vv p => (∃ l2 : List UInt8, l2.length = 64 ∧ Lv w0 p [bytesO (.slice (some ⟨bb, bo, none⟩) bn cb) bs, diskO g (d.write kk l2)]) ∧ Kept B q p) (fun p => Kept B q p) (fun p p2 => Kept B p p2) [fun vv p => (vv 0) = .pointer (some ⟨g, 0, none⟩), fun vv p => (vv 1) = .slice (some ⟨b, off, none⟩) n c, fun vv p => (vv 2) = .int .i64 (j : Int), fun vv p => (vv 3) = .pointer (some ⟨b, ob, none⟩), fun vv p => (vv 4) = .pointer (some ⟨b, ob + 1, none⟩), fun vv p => (vv 5) = .int .i64 m.k, fun vv p => (vv 6) = .int .i64 (rr : Int), fun vv p => (vv 7) = .int .i64 (kk : Int), fun vv p => (vv 8) = .slice (some ⟨b, off, none⟩) n c, fun vv p => (vv 9) = .int .i64 (j : Int), fun vv p => (vv 10) = .pointer (some ⟨b, ob, none⟩), fun vv p => (vv 11) = .pointer (some ⟨b, ob + 2, none⟩), fun vv p => (vv 12) = .int .i64 m.n, fun vv p => ∃ a2 c2 l2, (vv 13) = .slice a2 64 c2 ∧ l2.length = 64 ∧ Bs (fun x => q.heap.size ≤ x) p a2 64 c2 l2, fun vv p => (vv 14) = .int .i64 0, fun vv p => (vv 15) = .bool false] (by kernel_rfl) (by kernel_rfl) rfl ⟨rfl, rfl, rfl, trivial⟩ ((Below.refl _ _).drew) (by decide) (by kernel_rfl) (fun _ h => Kept.of_below B h) (fun _ _ h => h.2) (fun _ => Kept.refl _ _) ?_ ?_ ?_
            · exact ⟨fun _ _ _ _ h => h, fun _ _ _ _ h => h, fun _ _ _ _ h => h, fun _ _ _ _ h => h, fun _ _ _ _ h => h, fun _ _ _ _ h => h, fun _ _ _ _ h => h, fun _ _ _ _ h => h, fun _ _ _ _ h => h, fun _ _ _ _ h => h, fun _ _ _ _ h => h, fun _ _ _ _ h => h, fun _ _ _ _ h => h, fun _ _ _ hs h => by obtain ⟨a2, c2, l2, e1, e2, e3⟩ := h; exact ⟨a2, c2, l2, e1, e2, e3.kept hs (fun x _ hx hb => by have := (HLT.out x hb).2; omega)⟩, fun _ _ _ _ h => h, fun _ _ _ _ h => h, trivial⟩
            · intro b0 hN hlv
              refine ⟨?_, ?_, ?_, ?_, ?_, ?_, ?_, ?_, ?_, ?_, ?_, ?_, ?_, ?_, ?_, ?_, trivial⟩
              · intro vs p hI0 hp
                have hI := Roll.inw_pure (by decide) rfl hI0
                clear hI0
                have e7 : (Roll.putD Ddw19 vs [] b0).eval (.tmp 7) = .pointer (some ⟨g, 0, none⟩) := (Roll.eval_old rfl).trans (hlv.at 1 (7, .pointer (some ⟨g, 0, none⟩)) rfl)
                clear hp hlv hN
                unfold Roll.Goes
                simp only [Ldw19, List.getD_cons_zero, List.getD_cons_succ]
                generalize Roll.putD Ddw19 vs [] b0 = a1 at *
                refine Roll.goes_val (w' := p) (.pointer (some ⟨g, 0, none⟩)) rfl ?_ ⟨(Roll.outw_pure (by decide) rfl), rfl⟩
                (have ec : ∀ x, a1.eval (.const x) = x := fun _ => rfl); (have ef : ∀ x, a1.eval (.func x) = .func (.func x) #[] #[] := fun _ => rfl); generalize a1.eval = ρ at *
                skip
                go_simp <;> (intros; first | (exfalso; omega) | rfl)
              · intro vs p hI0 hp
                have hI := Roll.inw_pure (by decide) rfl hI0
                clear hI0
                have e1 : (Roll.putD Ddw19 vs [] b0).eval (.tmp 1) = .slice (some ⟨b, off, none⟩) n c := (Roll.eval_old rfl).trans (hlv.at 0 (1, .slice (some ⟨b, off, none⟩) n c) rfl)
                clear hp hlv hN
                unfold Roll.Goes
                simp only [Ldw19, List.getD_cons_zero, List.getD_cons_succ]
                generalize Roll.putD Ddw19 vs [] b0 = a1 at *
                refine Roll.goes_val (w' := p) (.slice (some ⟨b, off, none⟩) n c) rfl ?_ ⟨(Roll.outw_pure (by decide) rfl), rfl⟩
                (have ec : ∀ x, a1.eval (.const x) = x := fun _ => rfl); (have ef : ∀ x, a1.eval (.func x) = .func (.func x) #[] #[] := fun _ => rfl); generalize a1.eval = ρ at *
                skip
                go_simp <;> (intros; first | (exfalso; omega) | rfl)
              · intro vs p hI0 hp
                have hI := Roll.inw_pure (by decide) rfl hI0
                clear hI0
                have e13 : (Roll.putD Ddw19 vs [] b0).eval (.tmp 13) = .int .i64 (j : Int) := (Roll.eval_old rfl).trans (hlv.at 2 (13, .int .i64 (j : Int)) rfl)
                clear hp hlv hN
                unfold Roll.Goes
                simp only [Ldw19, List.getD_cons_zero, List.getD_cons_succ]
                generalize Roll.putD Ddw19 vs [] b0 = a1 at *
                refine Roll.goes_val (w' := p) (.int .i64 (j : Int)) rfl ?_ ⟨(Roll.outw_pure (by decide) rfl), rfl⟩
                (have ec : ∀ x, a1.eval (.const x) = x := fun _ => rfl); (have ef : ∀ x, a1.eval (.func x) = .func (.func x) #[] #[] := fun _ => rfl); generalize a1.eval = ρ at *
                skip
                go_simp <;> (intros; first | (exfalso; omega) | rfl)
              · intro vs p hI0 hp
                have hI := Roll.inw_pure (by decide) rfl hI0
                clear hI0
                have h1 : (vs 1) = .slice (some ⟨b, off, none⟩) n c := hp 1 (by simp [Ldw19])
                have h2 : (vs 2) = .int .i64 (j : Int) := hp 2 (by simp [Ldw19])
                have e78 : (Roll.putD Ddw19 vs [1, 2] b0).eval (.tmp 78) = .slice (some ⟨b, off, none⟩) n c := (Roll.eval_new 1 rfl (by decide) (by decide) (by omega)).trans h1
                have e79 : (Roll.putD Ddw19 vs [1, 2] b0).eval (.tmp 79) = .int .i64 (j : Int) := (Roll.eval_new 2 rfl (by decide) (by decide) (by omega)).trans h2
                clear hp hlv hN
                unfold Roll.Goes
                simp only [Ldw19, List.getD_cons_zero, List.getD_cons_succ]
                generalize Roll.putD Ddw19 vs [1, 2] b0 = a1 at *
                have hin := HIN.out
                have hnc := HNC.out
                have hob : off + j * 5 = ob := HOB.out
                
                refine Roll.goes_val (w' := p) (.pointer (some ⟨b, ob, none⟩)) rfl ?_ ⟨(Roll.outw_pure (by decide) rfl), rfl⟩
                (have ec : ∀ x, a1.eval (.const x) = x := fun _ => rfl); (have ef : ∀ x, a1.eval (.func x) = .func (.func x) #[] #[] := fun _ => rfl); generalize a1.eval = ρ at *
                clear h1 h2
                go_simp <;> (intros; first | (exfalso; omega) | rfl)
              · intro vs p hI0 hp
                have hI := Roll.inw_pure (by decide) rfl hI0
                clear hI0
                have h3 : (vs 3) = .pointer (some ⟨b, ob, none⟩) := hp 3 (by simp [Ldw19])
                have e80 : (Roll.putD Ddw19 vs [3] b0).eval (.tmp 80) = .pointer (some ⟨b, ob, none⟩) := (Roll.eval_new 3 rfl (by decide) (by decide) (by omega)).trans h3
                clear hp hlv hN
                unfold Roll.Goes
                simp only [Ldw19, List.getD_cons_zero, List.getD_cons_succ]
                generalize Roll.putD Ddw19 vs [3] b0 = a1 at *
                refine Roll.goes_val (w' := p) (.pointer (some ⟨b, ob + 1, none⟩)) rfl ?_ ⟨(Roll.outw_pure (by decide) rfl), rfl⟩
                (have ec : ∀ x, a1.eval (.const x) = x := fun _ => rfl); (have ef : ∀ x, a1.eval (.func x) = .func (.func x) #[] #[] := fun _ => rfl); generalize a1.eval = ρ at *
                clear h3
                go_simp <;> (intros; first | (exfalso; omega) | rfl)
              · intro vs p hI0 hp
                have hI := Roll.inw_pure (by decide) rfl hI0
                clear hI0
                have h4 : (vs 4) = .pointer (some ⟨b, ob + 1, none⟩) := hp 4 (by simp [Ldw19])
                have e81 : (Roll.putD Ddw19 vs [4] b0).eval (.tmp 81) = .pointer (some ⟨b, ob + 1, none⟩) := (Roll.eval_new 4 rfl (by decide) (by decide) (by omega)).trans h4
                clear hp hlv hN
                unfold Roll.Goes
                simp only [Ldw19, List.getD_cons_zero, List.getD_cons_succ]
                generalize Roll.putD Ddw19 vs [4] b0 = a1 at *
                have cf : p.cell? ⟨b, ob + 1, none⟩ = some (.int .i64 m.k) := (hI.cell (p := ⟨b, ob + 1, none⟩) HBQ.out.1 HBQ.out.2).trans C1.out
                refine Roll.goes_val (w' := p) (.int .i64 m.k) rfl ?_ ⟨(Roll.outw_pure (by decide) rfl), rfl⟩
                (have ec : ∀ x, a1.eval (.const x) = x := fun _ => rfl); (have ef : ∀ x, a1.eval (.func x) = .func (.func x) #[] #[] := fun _ => rfl); generalize a1.eval = ρ at *
                clear h4
                go_simp <;> (intros; first | (exfalso; omega) | rfl)
              · intro vs p hI0 hp
                have hI := Roll.inw_pure (by decide) rfl hI0
                clear hI0
                have h5 : (vs 5) = .int .i64 m.k := hp 5 (by simp [Ldw19])
                have e82 : (Roll.putD Ddw19 vs [5] b0).eval (.tmp 82) = .int .i64 m.k := (Roll.eval_new 5 rfl (by decide) (by decide) (by omega)).trans h5
                clear hp hlv hN
                unfold Roll.Goes
                simp only [Ldw19, List.getD_cons_zero, List.getD_cons_succ]
                generalize Roll.putD Ddw19 vs [5] b0 = a1 at *
                refine Roll.goes_call 14 #[.int .i64 m.k, .int .i64 8] p rfl (by have ec : ∀ x, a1.eval (.const x) = x := fun _ => rfl; have ef : ∀ x, a1.eval (.func x) = .func (.func x) #[] #[] := fun _ => rfl; generalize a1.eval = ρ at *; go_simp) ?_
                refine (around_any m.k 8 p HMK.out.1 HMK.out.2 (by omega) (by omega)).mono ?_
                rintro y p2 ⟨rfl, rfl⟩
                exact ⟨_, rfl, (Roll.outw_pure (by decide) rfl), by show Value.int .i64 _ = _; rw [HRR.out]⟩
              · intro vs p hI0 hp
                have hI := Roll.inw_pure (by decide) rfl hI0
                clear hI0
                have h6 : (vs 6) = .int .i64 (rr : Int) := hp 6 (by simp [Ldw19])
                have e83 : (Roll.putD Ddw19 vs [6] b0).eval (.tmp 83) = .int .i64 (rr : Int) := (Roll.eval_new 6 rfl (by decide) (by decide) (by omega)).trans h6
                clear hp hlv hN
                unfold Roll.Goes
                simp only [Ldw19, List.getD_cons_zero, List.getD_cons_succ]
                generalize Roll.putD Ddw19 vs [6] b0 = a1 at *
                have hkw : IntKind.i64.wrap (8 + (rr : Int)) = (kk : Int) := HKW.out
                
                refine Roll.goes_val (w' := p) (.int .i64 (kk : Int)) rfl ?_ ⟨(Roll.outw_pure (by decide) rfl), rfl⟩
                (have ec : ∀ x, a1.eval (.const x) = x := fun _ => rfl); (have ef : ∀ x, a1.eval (.func x) = .func (.func x) #[] #[] := fun _ => rfl); generalize a1.eval = ρ at *
                clear h6
                go_simp <;> (intros; first | (exfalso; omega) | rfl)
              · intro vs p hI0 hp
                have hI := Roll.inw_pure (by decide) rfl hI0
                clear hI0
                have e1 : (Roll.putD Ddw19 vs [] b0).eval (.tmp 1) = .slice (some ⟨b, off, none⟩) n c := (Roll.eval_old rfl).trans (hlv.at 0 (1, .slice (some ⟨b, off, none⟩) n c) rfl)
                clear hp hlv hN
                unfold Roll.Goes
                simp only [Ldw19, List.getD_cons_zero, List.getD_cons_succ]
                generalize Roll.putD Ddw19 vs [] b0 = a1 at *
                refine Roll.goes_val (w' := p) (.slice (some ⟨b, off, none⟩) n c) rfl ?_ ⟨(Roll.outw_pure (by decide) rfl), rfl⟩
                (have ec : ∀ x, a1.eval (.const x) = x := fun _ => rfl); (have ef : ∀ x, a1.eval (.func x) = .func (.func x) #[] #[] := fun _ => rfl); generalize a1.eval = ρ at *
                skip
                go_simp <;> (intros; first | (exfalso; omega) | rfl)
              · intro vs p hI0 hp
                have hI := Roll.inw_pure (by decide) rfl hI0
                clear hI0
                have e13 : (Roll.putD Ddw19 vs [] b0).eval (.tmp 13) = .int .i64 (j : Int) := (Roll.eval_old rfl).trans (hlv.at 2 (13, .int .i64 (j : Int)) rfl)
                clear hp hlv hN
                unfold Roll.Goes
                simp only [Ldw19, List.getD_cons_zero, List.getD_cons_succ]
                generalize Roll.putD Ddw19 vs [] b0 = a1 at *
                refine Roll.goes_val (w' := p) (.int .i64 (j : Int)) rfl ?_ ⟨(Roll.outw_pure (by decide) rfl), rfl⟩
                (have ec : ∀ x, a1.eval (.const x) = x := fun _ => rfl); (have ef : ∀ x, a1.eval (.func x) = .func (.func x) #[] #[] := fun _ => rfl); generalize a1.eval = ρ at *
                skip
                go_simp <;> (intros; first | (exfalso; omega) | rfl)
              · intro vs p hI0 hp
                have hI := Roll.inw_pure (by decide) rfl hI0
                clear hI0
                have h8 : (vs 8) = .slice (some ⟨b, off, none⟩) n c := hp 8 (by simp [Ldw19])
                have h9 : (vs 9) = .int .i64 (j : Int) := hp 9 (by simp [Ldw19])
                have e85 : (Roll.putD Ddw19 vs [8, 9] b0).eval (.tmp 85) = .slice (some ⟨b, off, none⟩) n c := (Roll.eval_new 8 rfl (by decide) (by decide) (by omega)).trans h8
                have e86 : (Roll.putD Ddw19 vs [8, 9] b0).eval (.tmp 86) = .int .i64 (j : Int) := (Roll.eval_new 9 rfl (by decide) (by decide) (by omega)).trans h9
                clear hp hlv hN
                unfold Roll.Goes
                simp only [Ldw19, List.getD_cons_zero, List.getD_cons_succ]
                generalize Roll.putD Ddw19 vs [8, 9] b0 = a1 at *
                have hin := HIN.out
                have hnc := HNC.out
                have hob : off + j * 5 = ob := HOB.out
                
                refine Roll.goes_val (w' := p) (.pointer (some ⟨b, ob, none⟩)) rfl ?_ ⟨(Roll.outw_pure (by decide) rfl), rfl⟩
                (have ec : ∀ x, a1.eval (.const x) = x := fun _ => rfl); (have ef : ∀ x, a1.eval (.func x) = .func (.func x) #[] #[] := fun _ => rfl); generalize a1.eval = ρ at *
                clear h8 h9
                go_simp <;> (intros; first | (exfalso; omega) | rfl)
              · intro vs p hI0 hp
                have hI := Roll.inw_pure (by decide) rfl hI0
                clear hI0
                have h10 : (vs 10) = .pointer (some ⟨b, ob, none⟩) := hp 10 (by simp [Ldw19])
                have e87 : (Roll.putD Ddw19 vs [10] b0).eval (.tmp 87) = .pointer (some ⟨b, ob, none⟩) := (Roll.eval_new 10 rfl (by decide) (by decide) (by omega)).trans h10
                clear hp hlv hN
                unfold Roll.Goes
                simp only [Ldw19, List.getD_cons_zero, List.getD_cons_succ]
                generalize Roll.putD Ddw19 vs [10] b0 = a1 at *
                refine Roll.goes_val (w' := p) (.pointer (some ⟨b, ob + 2, none⟩)) rfl ?_ ⟨(Roll.outw_pure (by decide) rfl), rfl⟩
                (have ec : ∀ x, a1.eval (.const x) = x := fun _ => rfl); (have ef : ∀ x, a1.eval (.func x) = .func (.func x) #[] #[] := fun _ => rfl); generalize a1.eval = ρ at *
                clear h10
                go_simp <;> (intros; first | (exfalso; omega) | rfl)
              · intro vs p hI0 hp
                have hI := Roll.inw_pure (by decide) rfl hI0
                clear hI0
                have h11 : (vs 11) = .pointer (some ⟨b, ob + 2, none⟩) := hp 11 (by simp [Ldw19])
                have e88 : (Roll.putD Ddw19 vs [11] b0).eval (.tmp 88) = .pointer (some ⟨b, ob + 2, none⟩) := (Roll.eval_new 11 rfl (by decide) (by decide) (by omega)).trans h11
                clear hp hlv hN
                unfold Roll.Goes
                simp only [Ldw19, List.getD_cons_zero, List.getD_cons_succ]
                generalize Roll.putD Ddw19 vs [11] b0 = a1 at *
                have cf : p.cell? ⟨b, ob + 2, none⟩ = some (.int .i64 m.n) := (hI.cell (p := ⟨b, ob + 2, none⟩) HBQ.out.1 HBQ.out.2).trans C2.out
                refine Roll.goes_val (w' := p) (.int .i64 m.n) rfl ?_ ⟨(Roll.outw_pure (by decide) rfl), rfl⟩
                (have ec : ∀ x, a1.eval (.const x) = x := fun _ => rfl); (have ef : ∀ x, a1.eval (.func x) = .func (.func x) #[] #[] := fun _ => rfl); generalize a1.eval = ρ at *
                clear h11
                go_simp <;> (intros; first | (exfalso; omega) | rfl)
              · intro vs p hI0 hp
                have hI := Roll.inw_pre (by decide) rfl hI0
                clear hI0
                have h12 : (vs 12) = .int .i64 m.n := hp 12 (by simp [Ldw19])
                have e89 : (Roll.putD Ddw19 vs [12] b0).eval (.tmp 89) = .int .i64 m.n := (Roll.eval_new 12 rfl (by decide) (by decide) (by omega)).trans h12
                clear hp hlv hN
                unfold Roll.Goes
                simp only [Ldw19, List.getD_cons_zero, List.getD_cons_succ]
                generalize Roll.putD Ddw19 vs [12] b0 = a1 at *
                refine Roll.goes_call 32 #[.slice none 0 0, .int .i64 m.n] p rfl (by have ec : ∀ x, a1.eval (.const x) = x := fun _ => rfl; have ef : ∀ x, a1.eval (.func x) = .func (.func x) #[] #[] := fun _ => rfl; generalize a1.eval = ρ at *; go_simp) ?_
                refine (fill_any m.n HMN.out.1 HMN.out.2 p (bs_none p)).mono ?_
                rintro y p2 ⟨v3, l3, rfl, hl3, hm3⟩
                obtain ⟨a3, c3, rfl, hb3⟩ := hm3.bs
                obtain ⟨_, _, _, hbl⟩ := hm3
                rw [hl3] at hb3 ⊢
                exact ⟨_, rfl, Roll.outw_pre (by decide) rfl (hI.trans (hbl.mono hI.size)) (Kept.of_below _ hbl), a3, c3, l3, rfl, hl3, hb3.dom (fun x hx => Nat.le_trans hI.size hx)⟩
              · intro vs p hI0 hp
                have hI := Roll.inw_k0 rfl hI0
                clear hI0
                have h0 : (vs 0) = .pointer (some ⟨g, 0, none⟩) := hp 0 (by simp [Ldw19])
                have h7 : (vs 7) = .int .i64 (kk : Int) := hp 7 (by simp [Ldw19])
                have h13 : ∃ a2 c2 l2, (vs 13) = .slice a2 64 c2 ∧ l2.length = 64 ∧ Bs (fun x => q.heap.size ≤ x) p a2 64 c2 l2 := hp 13 (by simp [Ldw19])
                have e77 : (Roll.putD Ddw19 vs [0, 7, 13] b0).eval (.tmp 77) = .pointer (some ⟨g, 0, none⟩) := (Roll.eval_new 0 rfl (by decide) (by decide) (by omega)).trans h0
                have e84 : (Roll.putD Ddw19 vs [0, 7, 13] b0).eval (.tmp 84) = .int .i64 (kk : Int) := (Roll.eval_new 7 rfl (by decide) (by decide) (by omega)).trans h7
                have e90 : (Roll.putD Ddw19 vs [0, 7, 13] b0).eval (.tmp 90) = vs 13 := (Roll.eval_new 13 rfl (by decide) (by decide) (by omega))
                clear hp hlv hN
                unfold Roll.Goes
                simp only [Ldw19, List.getD_cons_zero, List.getD_cons_succ]
                generalize Roll.putD Ddw19 vs [0, 7, 13] b0 = a1 at *
                obtain ⟨a3, c3, l3, hv3, hl3, hb3⟩ := h13
                rw [hv3] at e90
                refine Roll.goes_call 31 #[.pointer (some ⟨g, 0, none⟩), .int .i64 (kk : Int), .slice a3 64 c3] p rfl (by have ec : ∀ x, a1.eval (.const x) = x := fun _ => rfl; have ef : ∀ x, a1.eval (.func x) = .func (.func x) #[] #[] := fun _ => rfl; generalize a1.eval = ρ at *; go_simp) ?_
                have hdp := HD.out.kept (Kept.of_below (fun _ => False) hI) (fun _ _ h => h)
                refine (write_ok hdp hb3 kk HKS.out HON.out (Nat.le_refl _)).mono ?_
                rintro y p2 ⟨rfl, row', hd2, hk2, hf2⟩
                have KB : Kept B p p2 := hk2.mono (fun j _ hj => HBB.out j hj)
                have KQ : Kept B q p2 := (Kept.of_below B hI).trans KB (fun _ _ h => h)
                exact ⟨_, rfl, Roll.outw_k0 rfl ⟨⟨l3, hl3, HSET.out p2 _ (Blk g gd gm row') ⟨gd, gm, row', _, hd2, fun _ h => h⟩ KQ (fun j hj => (hf2 j hj).imp (HBB.out j) (fun e => Nat.le_trans hI.size e)) (fun j hj => hd2.lt j hj)⟩, KQ⟩ KB, rfl⟩
              · intro vs p hI0 hp
                have hI := Roll.inw_pure (by decide) rfl hI0
                clear hI0
                have h14 : (vs 14) = .int .i64 0 := hp 14 (by simp [Ldw19])
                have e91 : (Roll.putD Ddw19 vs [14] b0).eval (.tmp 91) = .int .i64 0 := (Roll.eval_new 14 rfl (by decide) (by decide) (by omega)).trans h14
                clear hp hlv hN
                unfold Roll.Goes
                simp only [Ldw19, List.getD_cons_zero, List.getD_cons_succ]
                generalize Roll.putD Ddw19 vs [14] b0 = a1 at *
                refine Roll.goes_val (w' := p) (.bool false) rfl ?_ ⟨(Roll.outw_pure (by decide) rfl), rfl⟩
                (have ec : ∀ x, a1.eval (.const x) = x := fun _ => rfl); (have ef : ∀ x, a1.eval (.func x) = .func (.func x) #[] #[] := fun _ => rfl); generalize a1.eval = ρ at *
                clear h14
                go_simp <;> (intros; first | (exfalso; omega) | rfl)
            · intro vs p hI hR
              have h0 : (vs 0) = .pointer (some ⟨g, 0, none⟩) := hR 0 (by omega)
              have h1 : (vs 1) = .slice (some ⟨b, off, none⟩) n c := hR 1 (by omega)
              have h2 : (vs 2) = .int .i64 (j : Int) := hR 2 (by omega)
              have h3 : (vs 3) = .pointer (some ⟨b, ob, none⟩) := hR 3 (by omega)
              have h4 : (vs 4) = .pointer (some ⟨b, ob + 1, none⟩) := hR 4 (by omega)
              have h5 : (vs 5) = .int .i64 m.k := hR 5 (by omega)
              have h6 : (vs 6) = .int .i64 (rr : Int) := hR 6 (by omega)
              have h7 : (vs 7) = .int .i64 (kk : Int) := hR 7 (by omega)
              have h8 : (vs 8) = .slice (some ⟨b, off, none⟩) n c := hR 8 (by omega)
              have h9 : (vs 9) = .int .i64 (j : Int) := hR 9 (by omega)
              have h10 : (vs 10) = .pointer (some ⟨b, ob, none⟩) := hR 10 (by omega)
              have h11 : (vs 11) = .pointer (some ⟨b, ob + 2, none⟩) := hR 11 (by omega)
              have h12 : (vs 12) = .int .i64 m.n := hR 12 (by omega)
              have h13 : ∃ a2 c2 l2, (vs 13) = .slice a2 64 c2 ∧ l2.length = 64 ∧ Bs (fun x => q.heap.size ≤ x) p a2 64 c2 l2 := hR 13 (by omega)
              have h14 : (vs 14) = .int .i64 0 := hR 14 (by omega)
              have h15 : (vs 15) = .bool false := hR 15 (by omega)
              clear hR
              simp only [List.range_succ, List.range_zero, List.nil_append, List.cons_append, Roll.putD, Act.put, List.getD_cons_zero, List.getD_cons_succ, List.setIfInBounds_toArray, List.set_cons_zero, List.set_cons_succ, List.drop_succ_cons, List.drop_zero, Ddw19]
              simp only [h0, h1, h2, h3, h4, h5, h6, h7, h8, h9, h10, h11, h12, h14, h15]
              clear h0 h1 h2 h3 h4 h5 h6 h7 h8 h9 h10 h11 h12 h14 h15
              obtain ⟨⟨l2, hl2, hl3⟩, hKB⟩ := hI
              have HL3 := Lib.hid hl3
              have Hl2 := Lib.hid hl2
              clear hl2 hl3 hKB h13
              go_wp2_with fail
              go_roundw
              case rel => exact ⟨j + 1, d.write kk l2, by omega, by omega, by go_num, HL3.out, (write_on HF0.out).trans HON.out, (write_fuse HF0.out).trans HF0.out, (write_len d kk l2).trans HSL.out, DM.write_ok HOKi.out Hl2.out, HH8.out.write HK8.out l2⟩
              case measure => simp [intOf]; omega
          -- VED 2
          · have hjx : (20 : Int) ≤ (j : Int) := by omega
            obtain ⟨D4, hD4⟩ : ∃ D4, D4 = (d.setFuse 0).restart (ts.take M) := ⟨_, rfl⟩
            obtain ⟨X1, hX1⟩ : ∃ X1, X1 = ts.take M := ⟨_, rfl⟩
            obtain ⟨D3, hD3⟩ : ∃ D3, D3 = d.setFuse 0 := ⟨_, rfl⟩
            have h38 : Has8 bs D3 := by rw [hD3]; intro k hk; rw [setFuse_S]; exact HH8.out k hk
            rw [← hD3, ← hX1] at hD4
            rw [← hX1] at HT
            have HD3 := Lib.hid hD3
            have HD4 := Lib.hid hD4
            have H4S : Hid (D4.S.length = 16) := Lib.hid (by rw [hD4, restart_len, hD3, setFuse_S]; exact HSL.out)
            have H4O : Hid (D4.on = true) := Lib.hid (by rw [hD4]; rfl)
            have H4G : Hid (∀ k (h1 : k < 8) (h2 : k < D4.S.length), lastB (D4.S[k]'h2) = blkB bs k) := Lib.hid (fun k h1 h2 => by subst hD4; exact h38.restart X1 k h1 h2)
            have HBT : Hid ((allB bs 8).take bn = bs) := Lib.hid (by have := HBN.out; rw [this]; exact allB_take bs 8 (by omega))
            have HG1 : Hid True := Lib.hid trivial
            clear hX1 hD3 hD4 h38 HH8 HSL HON HF0 HOKi HOK
            -- CUT 9
            go_upto_region 22 with (first
              | (have hL := HL.out; go_at_call 29; refine (fuse_lv hL (i := 1) (d := d) rfl 0 (by omega) (by omega)).mono ?_; rintro e w6 ⟨rfl, hl⟩; rw [← HD3.out] at hl; have HL6 : Hid (Lv w0 w6 [bytesO (.slice (some ⟨bb, bo, none⟩) bn cb) bs, diskO g D3]) := Lib.hid hl; clear hl HL hL))
            go_upto_region 23 with (first
              | (have x1 := HG1; refine wpList_min2 rfl (.tmp 98) (.const (.int .i64 40)) 3 3 rfl (tn : Int) 40 (M : Int) rfl rfl Hmin1.out ?_; clear HG1 x1)
              | (have hL := HL6.out; go_at_call 27; refine (restart_lv hL (i := 1) (d := D3) rfl (HT.out.kept (Kept.of_below (fun x => w0.heap.size ≤ x) hL.args) (fun x hx _ h => by omega)) (.inl (fun x hx => hx))).mono ?_; rintro e w7 ⟨rfl, hl⟩; rw [← HD4.out] at hl; have HL7 : Hid (Lv w0 w7 [bytesO (.slice (some ⟨bb, bo, none⟩) bn cb) bs, diskO g D4]) := Lib.hid hl; clear hl HL6 hL))
            -- CUT 10
            go_upto_region 25 with fail
            go_loopw [14, 15, 16, 17] (fun v t p f wr => ∃ (r : Nat) (va : Value), r ≤ 8 ∧ va = v ∧ t = .int .i64 (r : Int) ∧ Lv w0 wr [baccO va (allB bs r), bytesO (.slice (some ⟨bb, bo, none⟩) bn cb) bs, diskO g D4]) (fun _ t _ _ _ => 8 - (intOf t).toNat)
            case atStart => exact ⟨0, _, by omega, rfl, rfl, HL7.out.bacc0⟩
            -- ELSE case
            case round =>
              obtain ⟨r, va, hr8, hva, rfl, hL⟩ := hrel
              subst hva
              have HL8 := Lib.hid hL
              clear hL HL7
              by_cases hlr : r < 8
              · have hr1 : (r : Int) < 8 := by omega
                have hw4 : IntKind.i64.wrap ((r : Int) + 1) = (r : Int) + 1 := i64_id _ (by omega) (by omega)
                have HRK : Hid (r < D4.S.length) := Lib.hid (by rw [H4S.out]; omega)
                have HRD : Hid (lastB (D4.S[r]'HRK.out) = blkB bs r) := Lib.hid (H4G.out r hlr HRK.out)
                have HAL : Hid ((allB bs r).length + (blkB bs r).length ≤ 1000000) := Lib.hid (by rw [allB_len, blkB_len]; omega)
                -- CUT 11
                go_wp2_with (first
                  | (have hL := HL8.out; go_at_call 21; refine (read_w hL (i := 2) (d := D4) rfl r HRK.out H4O.out).mono ?_; rintro e w9 ⟨a2, c2, rfl, hl⟩; rw [HRD.out] at hl; obtain ⟨Z2, hb2⟩ := hl.bs (i := 0) rfl; have HSR : Hid (Src Try.prog 1 32 (.slice a2 64 c2) (blkB bs r).length (vals (blkB bs r)) w9) := Lib.hid (by rw [blkB_len]; exact hb2.src Try.underlying32); have HL9 := Lib.hid hl; clear hl HL8 hL hb2)
                  | (have hL := HL9.out; at_builtin; refine wpList_bacc hL (i := 1) (v := va) rfl rfl (.tmp 114) (.tmp 115) rfl rfl (blkB bs r) HSR.out HAL.out ?_; clear HL9 hL; intro v2 w2 hl2; have HLX : Hid (Lv w0 w2 [baccO v2 (allB bs r ++ blkB bs r), bytesO (.slice (some ⟨bb, bo, none⟩) bn cb) bs, diskO g D4]) := Lib.hid hl2.tail; clear hl2))
                go_roundw
                -- CUT 12
                case rel => exact ⟨r + 1, _, by omega, rfl, by go_num, by rw [allB_succ]; exact HLX.out⟩
                case measure => simp [intOf]; omega
              -- ELSE x
              · obtain rfl : r = 8 := by omega
                have hl9 := HL8.out.baccBytes (i := 0) rfl
                obtain ⟨Za, aa, ca, hva, hba⟩ := hl9.bytes (i := 0) rfl
                have e512 : (allB bs 8).length = 512 := by rw [allB_len]
                rw [e512] at hva hba
                subst hva
                have hca : 512 ≤ ca := hba.2.2.1
                have hca2 : ca ≤ 9223372036854775807 := hba.2.2.2.1
                have hbu := hba.upto bn (by omega)
                rw [HBT.out] at hbu
                have HBU := Lib.hid hbu
                have HL9 := Lib.hid hl9
                have hb5 : (bn : Int) ≤ 512 := by omega
                have hb6 : bn ≤ ca := by omega
                have hb7 : bn ≤ 100000000000000 := by omega
                clear hba hbu hl9 HL8
                have HG2 : Hid True := Lib.hid trivial
                -- CUT 13
                go_upto_region 34 with (first
                  | (have x1 := HG2; go_at_call 42; refine (newReader_any _ aa bn ca bs _ HBU.out hb7).mono ?_; rintro e w7 ⟨g2, rfl, kr, hR, hge, hk, hbl⟩; have HR7 := Lib.hid hR; have HK7 := Lib.hid hk; have HGE := Lib.hid hge; have HBL7 := Lib.hid hbl; clear hR hge hk hbl HBU HG2 x1))
                have HB7 : Hid (Below w0.heap.size w0 w7) := Lib.hid (HL9.out.args.trans (HBL7.out.mono HL9.out.size))
                have HG7 : Hid (w0.heap.size ≤ g2) := Lib.hid (Nat.le_trans HL9.out.size HGE.out)
                -- CUT 14
                go_upto_region 37 with (first
                  | (have hR := HR7.out; go_at_call 43; refine (rints_any g2 kr bs 0 30 w7 hR (fun j hj => (HK7.out j hj).2) (by rw [← HBN.out]; omega) (by omega) (by omega)).mono ?_; rintro e w8 ⟨v, rfl, hfr, hrd, hkp⟩; rw [HRI.out] at hfr hrd; obtain ⟨ag, cg, rfl, hig⟩ := hfr.is; have HIG := Lib.hid hig; have HR8 := Lib.hid hrd; have HB8 : Hid (Below w0.heap.size w0 w8) := Lib.hid (HB7.out.trans (hkp.below HB7.out.size (fun j hj e => by have := HG7.out; omega))); clear hfr hrd hkp hig HR7 hR))
                -- CUT 15
                have HI8 : Hid (Is (fun b => b < w0.heap.size) w8 la ln lc l) := Lib.hid (HI.out.kept (Kept.of_below (fun x => w0.heap.size ≤ x) HB8.out) (fun x hx _ h => by omega))
                have HZZ : Hid ((z == z) = true) := Lib.hid (by simp)
                go_wp2_with (first
                  | (have hR := HR8.out; go_at_call 44; refine (end_any g2 kr [] 0 w8 hR).mono ?_; rintro e w9 ⟨rfl, rfl⟩; rw [show ((endE 0 ([] : List UInt8).length : Nat) : Int) = 0 from rfl]; have HG3 : Hid True := Lib.hid trivial; clear HR8 hR)
                  | (have x1 := HG3; go_at_call 40; refine (copiedI_any _ la ln lc 30 l _ HI8.out (by omega)).mono ?_; rintro e w9 ⟨v, rfl, hm⟩; rw [← HZ.out] at hm; obtain ⟨hfr, hbl⟩ := hm; obtain ⟨a5, c5, rfl, hi5⟩ := hfr.is; have HI5 := Lib.hid hi5; have HIG9 := Lib.hid (HIG.out.kept (Kept.of_below (fun _ => False) hbl) (fun _ _ _ h => h)); have HB9 : Hid (Below w0.heap.size w0 w9) := Lib.hid (HB8.out.trans (hbl.mono HB8.out.size)); clear hfr hbl hi5 HI8 HG3 x1)
                  | (have hR := HI5.out; go_at_call 45; refine (sameInts_any _ _ ag _ cg z a5 _ c5 z w9 HIG9.out hR).mono ?_; rintro e w10 ⟨rfl, hb⟩; rw [HZZ.out]; have HB10 : Hid (Below w0.heap.size w0 w10) := Lib.hid (HB9.out.trans (hb.mono HB9.out.size)); clear hb HI5 hR)
                  | (have hR := HB10.out; go_at_call 17; refine (lives_any _).mono ?_; rintro e w11 ⟨rfl, hb⟩; have HB := Lib.hid (hR.trans (hb.mono hR.size)); clear hb hR))
                -- CUT 16
                go_ret
                exact ⟨rfl, HB.out⟩
                -- CUT 17
        · have hjx : (n : Int) ≤ (j : Int) := by omega
          obtain ⟨D4, hD4⟩ : ∃ D4, D4 = (d.setFuse 0).restart (ts.take M) := ⟨_, rfl⟩
          obtain ⟨X1, hX1⟩ : ∃ X1, X1 = ts.take M := ⟨_, rfl⟩
          obtain ⟨D3, hD3⟩ : ∃ D3, D3 = d.setFuse 0 := ⟨_, rfl⟩
          have h38 : Has8 bs D3 := by rw [hD3]; intro k hk; rw [setFuse_S]; exact HH8.out k hk
          rw [← hD3, ← hX1] at hD4
          rw [← hX1] at HT
          have HD3 := Lib.hid hD3
          have HD4 := Lib.hid hD4
          have H4S : Hid (D4.S.length = 16) := Lib.hid (by rw [hD4, restart_len, hD3, setFuse_S]; exact HSL.out)
          have H4O : Hid (D4.on = true) := Lib.hid (by rw [hD4]; rfl)
          have H4G : Hid (∀ k (h1 : k < 8) (h2 : k < D4.S.length), lastB (D4.S[k]'h2) = blkB bs k) := Lib.hid (fun k h1 h2 => by subst hD4; exact h38.restart X1 k h1 h2)
          have HBT : Hid ((allB bs 8).take bn = bs) := Lib.hid (by have := HBN.out; rw [this]; exact allB_take bs 8 (by omega))
          have HG1 : Hid True := Lib.hid trivial
          clear hX1 hD3 hD4 h38 HH8 HSL HON HF0 HOKi HOK
          -- CUT 9
          go_upto_region 22 with (first
            | (have hL := HL.out; go_at_call 29; refine (fuse_lv hL (i := 1) (d := d) rfl 0 (by omega) (by omega)).mono ?_; rintro e w6 ⟨rfl, hl⟩; rw [← HD3.out] at hl; have HL6 : Hid (Lv w0 w6 [bytesO (.slice (some ⟨bb, bo, none⟩) bn cb) bs, diskO g D3]) := Lib.hid hl; clear hl HL hL))
          go_upto_region 23 with (first
            | (have x1 := HG1; refine wpList_min2 rfl (.tmp 98) (.const (.int .i64 40)) 3 3 rfl (tn : Int) 40 (M : Int) rfl rfl Hmin1.out ?_; clear HG1 x1)
            | (have hL := HL6.out; go_at_call 27; refine (restart_lv hL (i := 1) (d := D3) rfl (HT.out.kept (Kept.of_below (fun x => w0.heap.size ≤ x) hL.args) (fun x hx _ h => by omega)) (.inl (fun x hx => hx))).mono ?_; rintro e w7 ⟨rfl, hl⟩; rw [← HD4.out] at hl; have HL7 : Hid (Lv w0 w7 [bytesO (.slice (some ⟨bb, bo, none⟩) bn cb) bs, diskO g D4]) := Lib.hid hl; clear hl HL6 hL))
          -- CUT 10
          go_upto_region 25 with fail
          go_loopw [14, 15, 16, 17] (fun v t p f wr => ∃ (r : Nat) (va : Value), r ≤ 8 ∧ va = v ∧ t = .int .i64 (r : Int) ∧ Lv w0 wr [baccO va (allB bs r), bytesO (.slice (some ⟨bb, bo, none⟩) bn cb) bs, diskO g D4]) (fun _ t _ _ _ => 8 - (intOf t).toNat)
          case atStart => exact ⟨0, _, by omega, rfl, rfl, HL7.out.bacc0⟩
          -- ELSE case
          case round =>
            obtain ⟨r, va, hr8, hva, rfl, hL⟩ := hrel
            subst hva
            have HL8 := Lib.hid hL
            clear hL HL7
            by_cases hlr : r < 8
            · have hr1 : (r : Int) < 8 := by omega
              have hw4 : IntKind.i64.wrap ((r : Int) + 1) = (r : Int) + 1 := i64_id _ (by omega) (by omega)
              have HRK : Hid (r < D4.S.length) := Lib.hid (by rw [H4S.out]; omega)
              have HRD : Hid (lastB (D4.S[r]'HRK.out) = blkB bs r) := Lib.hid (H4G.out r hlr HRK.out)
              have HAL : Hid ((allB bs r).length + (blkB bs r).length ≤ 1000000) := Lib.hid (by rw [allB_len, blkB_len]; omega)
              -- CUT 11
              go_wp2_with (first
                | (have hL := HL8.out; go_at_call 21; refine (read_w hL (i := 2) (d := D4) rfl r HRK.out H4O.out).mono ?_; rintro e w9 ⟨a2, c2, rfl, hl⟩; rw [HRD.out] at hl; obtain ⟨Z2, hb2⟩ := hl.bs (i := 0) rfl; have HSR : Hid (Src Try.prog 1 32 (.slice a2 64 c2) (blkB bs r).length (vals (blkB bs r)) w9) := Lib.hid (by rw [blkB_len]; exact hb2.src Try.underlying32); have HL9 := Lib.hid hl; clear hl HL8 hL hb2)
                | (have hL := HL9.out; at_builtin; refine wpList_bacc hL (i := 1) (v := va) rfl rfl (.tmp 114) (.tmp 115) rfl rfl (blkB bs r) HSR.out HAL.out ?_; clear HL9 hL; intro v2 w2 hl2; have HLX : Hid (Lv w0 w2 [baccO v2 (allB bs r ++ blkB bs r), bytesO (.slice (some ⟨bb, bo, none⟩) bn cb) bs, diskO g D4]) := Lib.hid hl2.tail; clear hl2))
              go_roundw
              -- CUT 12
              case rel => exact ⟨r + 1, _, by omega, rfl, by go_num, by rw [allB_succ]; exact HLX.out⟩
              case measure => simp [intOf]; omega
            -- ELSE x
            · obtain rfl : r = 8 := by omega
              have hl9 := HL8.out.baccBytes (i := 0) rfl
              obtain ⟨Za, aa, ca, hva, hba⟩ := hl9.bytes (i := 0) rfl
              have e512 : (allB bs 8).length = 512 := by rw [allB_len]
              rw [e512] at hva hba
              subst hva
              have hca : 512 ≤ ca := hba.2.2.1
              have hca2 : ca ≤ 9223372036854775807 := hba.2.2.2.1
              have hbu := hba.upto bn (by omega)
              rw [HBT.out] at hbu
              have HBU := Lib.hid hbu
              have HL9 := Lib.hid hl9
              have hb5 : (bn : Int) ≤ 512 := by omega
              have hb6 : bn ≤ ca := by omega
              have hb7 : bn ≤ 100000000000000 := by omega
              clear hba hbu hl9 HL8
              have HG2 : Hid True := Lib.hid trivial
              -- CUT 13
              go_upto_region 34 with (first
                | (have x1 := HG2; go_at_call 42; refine (newReader_any _ aa bn ca bs _ HBU.out hb7).mono ?_; rintro e w7 ⟨g2, rfl, kr, hR, hge, hk, hbl⟩; have HR7 := Lib.hid hR; have HK7 := Lib.hid hk; have HGE := Lib.hid hge; have HBL7 := Lib.hid hbl; clear hR hge hk hbl HBU HG2 x1))
              have HB7 : Hid (Below w0.heap.size w0 w7) := Lib.hid (HL9.out.args.trans (HBL7.out.mono HL9.out.size))
              have HG7 : Hid (w0.heap.size ≤ g2) := Lib.hid (Nat.le_trans HL9.out.size HGE.out)
              -- CUT 14
              go_upto_region 37 with (first
                | (have hR := HR7.out; go_at_call 43; refine (rints_any g2 kr bs 0 30 w7 hR (fun j hj => (HK7.out j hj).2) (by rw [← HBN.out]; omega) (by omega) (by omega)).mono ?_; rintro e w8 ⟨v, rfl, hfr, hrd, hkp⟩; rw [HRI.out] at hfr hrd; obtain ⟨ag, cg, rfl, hig⟩ := hfr.is; have HIG := Lib.hid hig; have HR8 := Lib.hid hrd; have HB8 : Hid (Below w0.heap.size w0 w8) := Lib.hid (HB7.out.trans (hkp.below HB7.out.size (fun j hj e => by have := HG7.out; omega))); clear hfr hrd hkp hig HR7 hR))
              -- CUT 15
              have HI8 : Hid (Is (fun b => b < w0.heap.size) w8 la ln lc l) := Lib.hid (HI.out.kept (Kept.of_below (fun x => w0.heap.size ≤ x) HB8.out) (fun x hx _ h => by omega))
              have HZZ : Hid ((z == z) = true) := Lib.hid (by simp)
              go_wp2_with (first
                | (have hR := HR8.out; go_at_call 44; refine (end_any g2 kr [] 0 w8 hR).mono ?_; rintro e w9 ⟨rfl, rfl⟩; rw [show ((endE 0 ([] : List UInt8).length : Nat) : Int) = 0 from rfl]; have HG3 : Hid True := Lib.hid trivial; clear HR8 hR)
                | (have x1 := HG3; go_at_call 40; refine (copiedI_any _ la ln lc 30 l _ HI8.out (by omega)).mono ?_; rintro e w9 ⟨v, rfl, hm⟩; rw [← HZ.out] at hm; obtain ⟨hfr, hbl⟩ := hm; obtain ⟨a5, c5, rfl, hi5⟩ := hfr.is; have HI5 := Lib.hid hi5; have HIG9 := Lib.hid (HIG.out.kept (Kept.of_below (fun _ => False) hbl) (fun _ _ _ h => h)); have HB9 : Hid (Below w0.heap.size w0 w9) := Lib.hid (HB8.out.trans (hbl.mono HB8.out.size)); clear hfr hbl hi5 HI8 HG3 x1)
                | (have hR := HI5.out; go_at_call 45; refine (sameInts_any _ _ ag _ cg z a5 _ c5 z w9 HIG9.out hR).mono ?_; rintro e w10 ⟨rfl, hb⟩; rw [HZZ.out]; have HB10 : Hid (Below w0.heap.size w0 w10) := Lib.hid (HB9.out.trans (hb.mono HB9.out.size)); clear hb HI5 hR)
                | (have hR := HB10.out; go_at_call 17; refine (lives_any _).mono ?_; rintro e w11 ⟨rfl, hb⟩; have HB := Lib.hid (hR.trans (hb.mono hR.size)); clear hb hR))
              -- CUT 16
              go_ret
              exact ⟨rfl, HB.out⟩
              -- CUT 17
end Go.Proofs.Ytbnodhcgdgcebaa

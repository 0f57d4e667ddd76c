/-
  The law DigestWrites: its walk.
-/
import Derived.Test.YtdfpjhpkkhdpoaaDoorG3
import Derived.Test.YtdfpjhpkkhdpoaaDoorD2
namespace Go.Proofs.YtdfpjhpkkhdpoaaDoor
open Go.RowKit
set_option linter.unusedSimpArgs false
set_option linter.unusedVariables false
theorem Ps.take {w : World} {a : Option Addr} {n : Nat} {ps : List Pc} (h : Ps w a n ps) (k : Nat) (hk : k ≤ n) : Ps w a k (ps.take k) := by
  obtain ⟨h1, h2, h3⟩ := h
  refine ⟨by rw [List.length_take]; omega, fun hp => ?_, fun p hp => h3 p (List.mem_of_mem_take hp)⟩
  obtain ⟨b, off, ha, hc⟩ := h2 (by omega)
  refine ⟨b, off, ha, fun i hi => ?_⟩
  rw [List.getElem_take]
  exact hc i (by rw [List.length_take] at hi; omega)
attribute [local go_sem ↓] exec_load33 exec_store33
attribute [local go_sem ↓] exec_at_zero exec_at_succ Go.wp_at_zero Go.wp_at_succ
attribute [local go_sem] run_store33 Blk33_drew absH_len
attribute [local go_sem] run_eq24 Hv_len eqg24
set_option maxRecDepth 100000 in
set_option maxHeartbeats 2000000 in
theorem writes_any (a : Option Addr) (n c : Nat) (ps : List Pc) (w : World) (hT : Tabs w) (hP : Ps w a n ps) (hn : n ≤ 1048576) (hb : (joined ps).length ≤ 1048576) (hc1 : n ≤ c) (hc2 : c ≤ 9223372036854775807) :
    Calls Tryd.prog 5 #[.slice a n c] w fun e w' => e = .returned (.bool true) ∧ Below w.heap.size w w' := by
  have HP := Lib.hid hP
  have HN := Lib.hid hb
  have HK := Lib.hid hP.1
  have Hz := Lib.hid hT.2.2
  have N0 := Lib.hid (Now.start hT)
  obtain ⟨l0, hl0⟩ : ∃ l0, l0 = joined (ps.take 0) := ⟨_, rfl⟩
  have HL0 := Lib.hid hl0
  clear hP hb hT hl0
  go_enter Tryd.func5, Tryd.ntmps5
  go_upto_region 2 with (first
    | (go_at_call 18; refine (new_at l0 (by rw [HL0.out]; rfl) _ N0.out.tabs).mono ?_; rintro e w1 ⟨v1, rfl, ⟨ua, uc, rfl, hu⟩, hb⟩; have N1 := Lib.hid (N0.out.step hb); have U1 := Lib.hid hu; clear hb hu)
    | (refine wpList_store_row rfl 33 (.tmp 3) (.tmp 6) rfl w1.heap.size _ rfl rfl 33 _ (heap_new rfl) (size33n _ _ _ _ _) (by rw [dcells_size _ _ _ _ _ (absH_len _)]; rfl) (dcells_one _ _ _ _ _) ?_; obtain ⟨w3, hw3, hN, hz3⟩ := N1.out.put33 U1.out; rw [hw3]; have N3 := Lib.hid hN; clear hw3 hN hz3))
  have HG : Hid (w.heap.size ≤ w1.heap.size) := Lib.hid N1.out.bel.size
  generalize w1.heap.size = g at *
  clear N1 U1
  go_wp2
  go_loopw [4] (fun i wr => ∃ k : Nat, k ≤ n ∧ i = .int .i64 k ∧ Now w wr [(g, joined (ps.take k))] []) (fun i _ => n - (intOf i).toNat)
  case atStart => exact ⟨0, Nat.zero_le _, rfl, by rw [← HL0.out]; exact N3.out⟩
  case round =>
    clear N3
    obtain ⟨k, hk, rfl, hNw⟩ := hrel
    have NK := Lib.hid hNw
    clear hNw
    by_cases hlk : k < n
    · have hkl : k < ps.length := by have := HK.out; omega
      obtain ⟨b, off, rfl, hcs⟩ := HP.out.2.1 (by omega)
      have hc : wr.cell? ⟨b, off + k, none⟩ = some (.slice ps[k].a ps[k].n ps[k].c) := (NK.out.bel.cell (p := ⟨b, off + k, none⟩) (block_lt_of_cell (hcs k hkl))).trans (hcs k hkl)
      have hBs : Bs wr ps[k].a ps[k].n ps[k].c ps[k].l := (HP.out.2.2 _ (List.getElem_mem hkl)).below NK.out.bel
      have hjj := joined_take ps k hkl
      have hbd := joined_len_le ps (k + 1)
      have HBd1 := Lib.hid hbd
      rw [hjj, List.length_append] at hbd
      clear hcs
      generalize ps[k] = p at *
      have hblk := NK.out.blk (g := g) (l := joined (ps.take k)) (by simp)
      obtain ⟨v, LL, S⟩ := (NK.out.sb (g, joined (ps.take k)) (by simp)).stB
      have ld := LL _ (Below.refl _ _)
      have ldd := LL _ (Below.refl _ _).drew
      simp only at ld ldd
      have HBs := Lib.hid hBs
      have Hjj := Lib.hid hjj
      have Hbd := Lib.hid hbd
      have HS := Lib.hid S
      clear hBs hjj hbd S LL
      go_upto_region 5 with (fail)
      go_cut [18] (fun _ wx => Now w wx [(g, joined (ps.take (k + 1)))] [])
      case first =>
        go_region_with (first | (go_at_call 17; refine (write_any v (joined (ps.take k)) p.a p.n p.c p.l wr.drew NK.out.drew.tabs HS.out HBs.out (by have := Hbd.out; have := HN.out; omega)).mono ?_; rintro e w6 ⟨v6, rfl, ⟨ub, uc6, rfl, hu⟩, hb⟩; rw [← Hjj.out] at hu ⊢; have N6 := Lib.hid (NK.out.drew.step hb); have U6 := Lib.hid hu; have blk6 := N6.out.blk (g := g) (l := joined (ps.take k)) (by simp); clear hb hu))
        all_goals
          go_wp2_with fail
          go_meet
          exact N6.out.set33 HG.out Hz.out U6.out
      case rest =>
        clear hblk ld ldd hc NK HS HBs Hjj Hbd
        have N7 := Lib.hid hcut
        clear hcut
        obtain ⟨w7, hw7⟩ : ∃ w7, w7 = wc := ⟨_, rfl⟩
        rw [← hw7] at N7 ⊢
        clear hw7
        have HPk := Lib.hid (HP.out.take (k + 1) (by omega))
        obtain ⟨qs, hqs⟩ : ∃ qs, qs = ps.take (k + 1) := ⟨_, rfl⟩
        rw [← hqs] at N7 HPk HBd1
        have HQS := Lib.hid hqs
        clear hqs
        obtain ⟨l, hl⟩ : ∃ l, l = joined qs := ⟨_, rfl⟩
        rw [← hl] at N7 HBd1
        have HL := Lib.hid hl
        clear hl
        obtain ⟨m, hm⟩ : ∃ m, m = l.length := ⟨_, rfl⟩
        have HM := Lib.hid hm
        have Hm2 : Hid (m ≤ 1048576) := Lib.hid (by have := HBd1.out; have := HN.out; omega)
        clear hm
        obtain ⟨k1, hk1⟩ : ∃ k1 : Nat, k1 = k + 1 := ⟨_, rfl⟩
        have hk2 : (k : Int) + 1 = (k1 : Int) := by omega
        have hk3 : (k1 : Int) ≤ (c : Int) := by omega
        have hk4 : (0 : Int) ≤ (k1 : Int) := by omega
        have hk5 : IntKind.i64.wrap (k1 : Int) = (k1 : Int) := i64_id _ (by omega) (by omega)
        have hk6 : IntKind.i64.wrap ((k : Int) + 1) = (k1 : Int) := by rw [hk2]; exact hk5
        have hk7 : k1 ≤ 1048576 := by omega
        rw [← hk1] at HPk
        have HK1 := Lib.hid hk1
        clear hk1
        go_upto_region 7 with (go_at_call 21; refine (all_any _ k1 c qs _ (HPk.out.below N7.out.bel) hk7 (by rw [← HL.out, ← HM.out]; exact Hm2.out)).mono ?_; rw [← HL.out, ← HM.out]; rintro e w8 ⟨a', c', rfl, hBs, hb⟩; have N8 := Lib.hid (N7.out.step hb); have B8 := Lib.hid hBs; clear hb hBs)
        clear hk2 hk3 hk4 hk5 hk6
        obtain ⟨v8, L8, S8⟩ := (N8.out.sb (g, l) (by simp)).stB
        have LD := Lib.hid L8
        have HS8 := Lib.hid S8
        have ld8d := L8 _ (Below.refl _ _).drew
        simp only at ld8d
        clear L8 S8
        go_region_with (first
          | (go_at_call 20; refine (state_any a' m c' l _ (Bs_drew B8.out) (by have := Hm2.out; omega)).mono ?_; rintro e w9 ⟨v9, rfl, S9, hb⟩; have N9 := Lib.hid (N8.out.drew.step hb); have HS9 := Lib.hid S9; have HS89 := Lib.hid (HS8.out.below ((Below.refl _ _).drew.trans hb)); have bel9 := (Below.refl w8.heap.size w8).drew.trans hb; have Bel9 := Lib.hid bel9; have ld9 := LD.out _ bel9; (try simp only at ld9); clear hb S9 bel9)
          | (go_at_call 19; refine (same_any v8 v9 l _ HS89.out HS9.out).mono ?_; rintro e w10 ⟨rfl, hb⟩; have N10 := Lib.hid (N9.out.step hb); have HS10 := Lib.hid (HS89.out.below hb); have bel10 := Bel9.out.trans (hb.mono Bel9.out.size); have Bel10 := Lib.hid bel10; have ld10 := LD.out _ bel10; (try simp only at ld10); clear hb bel10)
          | (go_at_call 22; refine (close_any v8 l _ N10.out.tabs HS10.out (by have := HM.out; have := Hm2.out; omega)).mono ?_; rintro e w11 ⟨rfl, hb⟩; have N11 := Lib.hid (N10.out.step hb); have B11 := Lib.hid (B8.out.below (Bel10.out.trans (hb.mono Bel10.out.size))); clear hb)
          | (go_at_call 13; refine (rsum_any a' m c' l _ B11.out (by have := Hm2.out; omega)).mono ?_; rintro e w12 ⟨rfl, hb⟩; have N12 := Lib.hid (N11.out.step hb); clear hb))
        all_goals
          go_wp2_with fail
          go_roundw
          case rel => exact ⟨k + 1, by omega, by go_num, by rw [← HQS.out, ← HL.out]; exact N12.out⟩
          case measure => simp [intOf]; omega
    · obtain rfl : k = n := by omega
      go_wp2_with (go_at_call 14; refine (lives_any _ NK.out.tabs).mono ?_; rintro e w9 ⟨rfl, hb⟩; have N9 := Lib.hid (NK.out.step hb); clear hb)
      go_ret
      exact ⟨rfl, N9.out.bel⟩
end Go.Proofs.YtdfpjhpkkhdpoaaDoor

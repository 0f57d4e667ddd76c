/-
  The law DigestTails: its walk.
-/
import Derived.Test.YtdfpjhpkkhdpoaaDoorD1
import Derived.StillTailTactics
namespace Go.Proofs.YtdfpjhpkkhdpoaaDoor
open Go.RowKit
attribute [local go_sem ↓] exec_load33 exec_store33 exec_sliceF
attribute [local go_sem ↓] exec_at_zero exec_at_succ Go.wp_at_zero Go.wp_at_succ
theorem new_at (l : List UInt8) (hl : l = []) (w : World) (hT : Tabs w) :
    Calls Tryd.prog 18 #[] w fun e w' => ∃ v, e = .returned v ∧ St w' v l ∧ Below w.heap.size w w' := by subst hl; exact new_any w hT
/-- a state written over another in its block -/
theorem Now.set33 {w p : World} {g : Nat} {l l' : List UInt8} (N : Now w p [(g, l)] []) (hg : w.heap.size ≤ g) (h2 : 2 ≤ w.heap.size) {a : Option Addr} {c : Nat} (h : Bs p a (absR l').length c (absR l')) :
    Now w (p.setRow g (dcells (absH H8 l') a (absR l').length c l'.length)) [(g, l')] [] := by
  obtain ⟨a0, c0, hg0, hB0⟩ := N.sb (g, l) (by simp)
  have hb : Below w.heap.size p (p.setRow g (dcells (absH H8 l') a (absR l').length c l'.length)) := Below_setRow (Below.refl _ _) hg _
  refine ⟨N.tabs.below hb h2, N.bel.trans hb, fun x hx => ?_, by simp⟩
  obtain rfl : x = (g, l') := by simpa using hx
  exact ⟨a, c, setRow_heap _ _ _ _ _ _ hg0, Bs_setRow33 h ⟨_, _, _, _, _, absH_len l, hg0⟩ _⟩
theorem Now.blk {w p : World} {g : Nat} {l : List UInt8} {L H : List (Nat × List UInt8)} (N : Now w p L H) (h : (g, l) ∈ L) : Blk33 p g := by
  obtain ⟨a, c, hg, _⟩ := N.sb (g, l) h
  exact ⟨_, _, _, _, _, absH_len l, hg⟩
attribute [local go_sem] run_store33 Blk33_drew absH_len
set_option maxRecDepth 100000 in
set_option maxHeartbeats 2000000 in
theorem tails_any (a : Option Addr) (n c : Nat) (ps : List Pc) (w : World) (hT : Tabs w) (hP : Ps w a n ps) (hn : n ≤ 1048576) (hb : (joined ps).length ≤ 1048576) :
    Calls Tryd.prog 8 #[.slice a n c] w fun e w' => e = .returned (.bool true) ∧ Below w.heap.size w w' := by
  have HP := Lib.hid hP
  have HN := Lib.hid hb
  have HK := Lib.hid hP.1
  have Hz := Lib.hid hT.2.2
  have N0 := Lib.hid (Now.start hT)
  obtain ⟨l0, hl0⟩ : ∃ l0, l0 = joined (ps.take 0) := ⟨_, rfl⟩
  have HL0 := Lib.hid hl0
  clear hP hb hT hl0
  go_enter Tryd.func8, Tryd.ntmps8
  go_upto_region 2 with (first
    | (go_at_call 18; refine (new_at l0 (by rw [HL0.out]; rfl) _ N0.out.tabs).mono ?_; rintro e w1 ⟨v1, rfl, ⟨ua, uc, rfl, hu⟩, hb⟩; have N1 := Lib.hid (N0.out.step hb); have U1 := Lib.hid hu; clear hb hu)
    | (refine wpList_store_row rfl 33 (.tmp 3) (.tmp 7) rfl w1.heap.size _ rfl rfl 33 _ (heap_new rfl) (size33n _ _ _ _ _) (by rw [dcells_size _ _ _ _ _ (absH_len _)]; rfl) (dcells_one _ _ _ _ _) ?_; obtain ⟨w3, hw3, hN, hz3⟩ := N1.out.put33 U1.out; rw [hw3]; have N3 := Lib.hid hN; clear hw3 hN hz3))
  have HG : Hid (w.heap.size ≤ w1.heap.size) := Lib.hid N1.out.bel.size
  generalize w1.heap.size = g at *
  clear N1 U1
  obtain ⟨M, hM⟩ : ∃ M, M = (joined ps).length := ⟨_, rfl⟩
  obtain ⟨l, hl⟩ : ∃ l, l = joined ps := ⟨_, rfl⟩
  have HM := Lib.hid hM
  have HL := Lib.hid hl
  clear hM hl
  go_wp2
  go_loopw [4] (fun i wr => ∃ k : Nat, k ≤ n ∧ i = .int .i64 k ∧ Now w wr [(g, joined (ps.take k))] []) (fun i _ => n - (intOf i).toNat)
  case atStart => exact ⟨0, Nat.zero_le _, rfl, by rw [← HL0.out]; exact N3.out⟩
  case round =>
    clear N3
    obtain ⟨k, hk, rfl, hNw⟩ := hrel
    have NK := Lib.hid hNw
    clear hNw
    by_cases hlk : k < n
    · have hkl : k < ps.length := by have := HK.out; omega
      obtain ⟨b, off, rfl, hcs⟩ := HP.out.2.1 (by omega)
      have hc : wr.cell? ⟨b, off + k, none⟩ = some (.slice ps[k].a ps[k].n ps[k].c) := (NK.out.bel.cell (p := ⟨b, off + k, none⟩) (block_lt_of_cell (hcs k hkl))).trans (hcs k hkl)
      have hBs : Bs wr ps[k].a ps[k].n ps[k].c ps[k].l := (HP.out.2.2 _ (List.getElem_mem hkl)).below NK.out.bel
      have hjj := joined_take ps k hkl
      have hbd := joined_len_le ps (k + 1)
      rw [hjj, List.length_append] at hbd
      clear hcs
      generalize ps[k] = p at *
      have hblk := NK.out.blk (g := g) (l := joined (ps.take k)) (by simp)
      obtain ⟨v, ld, S⟩ := (NK.out.sb (g, joined (ps.take k)) (by simp)).st
      simp only at ld
      have ldd : (load33A (.pointer (some ⟨g, 0, none⟩))).run Tryd.prog wr.drew = .ok (.value v) wr.drew := by
        obtain ⟨a, c, hg, hB⟩ := NK.out.sb (g, joined (ps.take k)) (by simp)
        have e := run_load33 (absH_len _) hg
        have e2 := e.symm.trans ld
        simp only [Result.ok.injEq, Next.value.injEq, and_true] at e2
        rw [← e2]
        exact run_load33 (w := wr.drew) (absH_len _) hg
      have HBs := Lib.hid hBs
      have Hjj := Lib.hid hjj
      have Hbd := Lib.hid hbd
      have HS := Lib.hid S
      clear hBs hjj hbd S
      go_upto_region 5 with (fail)
      go_region_with (first | (go_at_call 17; refine (write_any v (joined (ps.take k)) p.a p.n p.c p.l wr.drew NK.out.drew.tabs HS.out HBs.out (by have := Hbd.out; have := HN.out; omega)).mono ?_; rintro e w6 ⟨v6, rfl, ⟨ub, uc6, rfl, hu⟩, hb⟩; rw [← Hjj.out] at hu ⊢; have N6 := Lib.hid (NK.out.drew.step hb); have U6 := Lib.hid hu; have blk6 := N6.out.blk (g := g) (l := joined (ps.take k)) (by simp); clear hb hu))
      all_goals
        go_wp2_with fail
        go_roundw
        case rel => exact ⟨k + 1, by omega, by go_num, N6.out.set33 HG.out Hz.out U6.out⟩
        case measure => simp [intOf]; omega
    · obtain rfl : k = n := by omega
      have e1 : joined (ps.take k) = l := by rw [← HK.out, List.take_length, HL.out]
      have NE : Hid (Now w wr [(g, l)] []) := Lib.hid (by rw [← e1]; exact NK.out)
      clear NK e1
      obtain ⟨r, hr⟩ : ∃ r : Nat, (M : Int) % 64 = (r : Int) := ⟨M % 64, by omega⟩
      go_upto_region 8 with (go_at_call 21; refine (all_any a _ c ps _ (HP.out.below NE.out.bel) hn HN.out).mono ?_; rw [← HM.out, ← HL.out]; rintro e w7 ⟨a', c', rfl, hBs, hb⟩; have N7 := Lib.hid (NE.out.step hb); have B7 := Lib.hid hBs; clear hb hBs)
      obtain ⟨F, hF⟩ : ∃ F : Nat, F = M - r := ⟨_, rfl⟩
      have hF2 : F ≤ M := by omega
      have hsub : (M : Int) - (r : Int) = (F : Int) := by omega
      obtain ⟨ta, tc, hg7, htB⟩ := N7.out.sb (g, l) (by simp)
      have hMl : l.length = M := by rw [HL.out, HM.out]
      obtain ⟨r8, e8, c8, c9⟩ := dblock hg7 (absH_len l)
      clear r8 e8
      rw [hMl] at c9
      obtain ⟨a2, c2, hsl, hB2⟩ := run_sliceF B7.out F hF2
      have hdrop : l.drop F = absR l := by unfold absR; congr 1; rw [hMl]; omega
      rw [hdrop] at hB2
      obtain ⟨q, hq⟩ : ∃ q, q = M - F := ⟨_, rfl⟩
      obtain ⟨tn, htn⟩ : ∃ tn, tn = (absR l).length := ⟨_, rfl⟩
      rw [← hq] at hsl hB2
      rw [← htn] at htB c8
      have hwF : IntKind.i64.wrap (F : Int) = (F : Int) := by have := HN.out; have := HM.out; exact i64_id _ (by omega) (by omega)
      simp only at c8 c9 htB
      have HtB := Lib.hid htB
      have HB2 := Lib.hid hB2
      clear htB hB2 hg7 hdrop hMl hq htn hF hF2
      go_still_tail 17, (by kernel_rfl)
      still_call ((same_bytes ta tn tc a2 q c2 (absR l) w7.drew (Bs_drew HtB.out) (Bs_drew HB2.out)).mono (fun e w' h => ⟨h.1, h.2.symm⟩))
      repeat still_step
      refine wpStill_nil ?_
      change wpList _ _ _ _ _ w7.drew
      go_wp2_with (go_at_call 14; refine (lives_any w7.drew N7.out.drew.tabs).mono ?_; rintro e w9 ⟨rfl, hb⟩; have N9 := Lib.hid (N7.out.drew.step hb); clear hb)
      go_ret
      exact ⟨rfl, N9.out.bel⟩
end Go.Proofs.YtdfpjhpkkhdpoaaDoor

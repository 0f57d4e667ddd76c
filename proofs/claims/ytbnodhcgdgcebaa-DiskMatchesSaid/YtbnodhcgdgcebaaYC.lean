/-
  The reference's Write.
-/
import Derived.Test.YtbnodhcgdgcebaaYB
namespace Go.Proofs.Ytbnodhcgdgcebaa
open Go.RowKit
set_option linter.unusedSimpArgs false
set_option linter.unusedVariables false
def Drw7 : List (Option Tmp) := [some 25, some 26, some 27, some 28, some 29, some 30, some 31, some 32, some 33, some 34, some 35, some 36, some 37, some 38, some 39, some 40, some 41, none]
def Lrw7 : List (List Nat) := [[], [0], [1], [2], [], [], [5], [6], [7], [], [8, 9], [10], [], [12], [13], [11, 14], [3, 4], [16, 15]]
theorem rwrite_arg (p : Option Addr) (k : Int) (a : Option Addr) (n c : Nat) (w : World) (hn : n ≠ 64) (hn2 : n ≤ 9223372036854775807) :
    Calls Try.prog 46 #[.pointer p, .int .i64 k, .slice a n c] w fun e w' => e = .returned (.int .i64 1) ∧ w = w' := by
  have hne : ((n : Int) != 64) = true := by rw [bne_iff_ne]; omega
  go_enter Try.func46, Try.ntmps46
  go_wp2
  go_ret
  exact ⟨rfl, rfl⟩
theorem rwrite_no {w : World} {g : Nat} {gso : Option Nat} {vo : Value} {row : Nat → Nat} {Bf : Nat → Prop} {d : DM} (h : Trk w 87 (refX d) g gso vo row Bf d.S) (k : Int) (a : Option Addr) (c : Nat) (hk : hasB d k = false) (hp : 0 < d.S.length) :
    Calls Try.prog 46 #[.pointer (some ⟨g, 0, none⟩), .int .i64 k, .slice a 64 c] w fun e w' => e = .returned (.int .i64 5) ∧ w = w' := by
  unfold hasB at hk
  have hk := of_decide_eq_false hk
  obtain ⟨gs, so, co, rfl, rfl, e1, e2⟩ := h.vo_at hp
  obtain ⟨g1, c0, c1, c2, f0⟩ := h.cells3
  obtain ⟨SN, hSN⟩ : ∃ SN, d.S.length = SN := ⟨_, rfl⟩
  rw [hSN] at c0 e1 hk
  by_cases hk1 : k < 0
  · clear h f0 c2 hSN hk c1
    go_enter Try.func46, Try.ntmps46
    go_wp2
    go_ret
    exact ⟨rfl, rfl⟩
  · have hk2 : (SN : Int) ≤ k := by omega
    have hk3 : 0 ≤ k := by omega
    clear h f0 c2 hSN hk c1
    go_enter Try.func46, Try.ntmps46
    go_wp2
    go_ret
    exact ⟨rfl, rfl⟩
theorem rwrite_off {w : World} {g : Nat} {gso : Option Nat} {vo : Value} {row : Nat → Nat} {Bf : Nat → Prop} {d : DM} (h : Trk w 87 (refX d) g gso vo row Bf d.S) (k : Int) (a : Option Addr) (c : Nat) (hk : hasB d k = true) (hon : d.on = false) :
    Calls Try.prog 46 #[.pointer (some ⟨g, 0, none⟩), .int .i64 k, .slice a 64 c] w fun e w' => e = .returned (.int .i64 10) ∧ w = w' := by
  unfold hasB at hk
  have hk := of_decide_eq_true hk
  obtain ⟨gs, so, co, rfl, rfl, e1, e2⟩ := h.vo_at (by omega)
  obtain ⟨g1, c0, c1, c2, f0⟩ := h.cells3
  rw [hon] at c1
  obtain ⟨SN, hSN⟩ : ∃ SN, d.S.length = SN := ⟨_, rfl⟩
  rw [hSN] at c0 e1 hk
  obtain ⟨hk1, hk2⟩ := hk
  clear h hon f0 c2 hSN
  go_enter Try.func46, Try.ntmps46
  go_wp2
  go_ret
  exact ⟨rfl, rfl⟩
set_option maxRecDepth 100000 in
set_option maxHeartbeats 4000000 in
theorem rwrite_lv {w0 u : World} {L : List Obj} {i g : Nat} {d : DM} (h : Lv w0 u L) (hi : L[i]? = some (refO g d)) {Z : Nat → Prop} {a : Option Addr} {c : Nat} {l : List UInt8} (hB : Bs Z u a 64 c l) (k : Nat) (hk : k < d.S.length) (hon : d.on = true) (hok : d.Ok 100000) :
    Calls Try.prog 46 #[.pointer (some ⟨g, 0, none⟩), .int .i64 (k : Int), .slice a 64 c] u fun e w' => e = .returned (.int .i64 0) ∧ Lv w0 w' (L.set i (refO g (d.write k l))) := by
  obtain ⟨d2, hd2⟩ : ∃ d2 : DM, d2 = ⟨d.S.modify k (· ++ [l]), d.on, d.fuse⟩ := ⟨_, rfl⟩
  have HBU : Hid (d2.burn = d.write k l) := Lib.hid (by rw [hd2]; rfl)
  have HD2 : Hid (refX d = refX d2) := Lib.hid (by rw [hd2]; rfl)
  have HON2 : Hid (d2.on = true) := Lib.hid (by rw [hd2]; exact hon)
  have HP2 : Hid (0 < d2.S.length) := Lib.hid (by rw [hd2]; simp; omega)
  have HFU2 : Hid (d2.fuse ≤ 9223372036854775807) := Lib.hid (by rw [hd2]; exact hok.2.2.1)
  have HIX : Hid ((L.set i (refO g d2))[i]? = some (refO g d2)) := Lib.hid (by rw [List.getElem?_set_self]; exact (List.getElem?_eq_some_iff.1 hi).1)
  have HBD := Lib.hid hB
  have HLL := Lib.hid hB.1
  have HTK : Hid (l.take 64 = l) := Lib.hid (List.take_of_length_le (by rw [hB.1]; exact Nat.le_refl _))
  obtain ⟨B, ⟨gso, vo, row, Bf, hT, hTB⟩, hblt, _, hset⟩ := h.get hi
  have hsp : 0 < d.S[k].length := List.length_pos_iff.2 (hok.2.2.2 _ (List.getElem_mem hk)).1
  have hsb : d.S[k].length ≤ 100001 := (hok.2.2.2 _ (List.getElem_mem hk)).2.1
  obtain ⟨gs, so, co, ro, rc, rfl, rfl, f1, f2, f3, f4, f5, f6, f7, f8, f9⟩ := hT.look hk hsp
  obtain ⟨sk, hsk⟩ : ∃ sk, sk = d.S[k] := ⟨_, rfl⟩
  clear f9
  rw [← hsk] at f2 f7 f8 hsp hsb
  obtain ⟨rk, hrk⟩ : ∃ rk, row k = rk := ⟨_, rfl⟩
  obtain ⟨sl, hsl⟩ : ∃ sl, sk.length = sl := ⟨_, rfl⟩
  obtain ⟨SN, hSN⟩ : ∃ SN, d.S.length = SN := ⟨_, rfl⟩
  obtain ⟨ys, hys, hyj⟩ := f8
  rw [hrk, hsl] at f7
  rw [hSN] at f6 f1
  rw [hsl] at f2 hsp hsb
  rw [hrk] at f5 hys
  rw [hsl] at hys
  have HT := Lib.hid hT
  have HTB := Lib.hid hTB
  have HSET := Lib.hid hset
  have HRR := Lib.hid hrk
  have HSL8 := Lib.hid hsl
  have HSN := Lib.hid hSN
  have HYS := Lib.hid hys
  have HYJ := Lib.hid hyj
  have HCO := Lib.hid f1
  have HRC := Lib.hid f2
  have HSLB := Lib.hid hsb
  have HSP := Lib.hid hsp
  have HKS := Lib.hid hk
  have HKN : Hid (k < SN) := Lib.hid (by rw [← hSN]; exact hk)
  have hkn2 : (k : Int) < (SN : Int) := by rw [← hSN]; omega
  have hkn3 : (0 : Int) ≤ (k : Int) := by omega
  have HRK := Lib.hid f5
  have UV := Lib.hid f6
  have UK := Lib.hid f7
  have cV0 := f6
  have UGT : Hid (g < u.heap.size ∧ ¬ g = rk) := Lib.hid ⟨f3, fun e => (hT.ap2 k hk).1 (hrk.trans e.symm)⟩
  have UGS : Hid (gs < u.heap.size ∧ ¬ gs = rk) := Lib.hid ⟨f4, fun e => (hT.ap2 k hk).2 (by rw [e, hrk])⟩
  have HBR : Hid (¬ Bf rk) := Lib.hid (by rw [← hrk]; exact hT.bf.2.2 k hk)
  have UF : Hid (u.frozen? ⟨gs, so + k, none⟩ = false) := Lib.hid (by obtain ⟨xs, hx, _⟩ := hT.outer; exact hx.frozen _)
  obtain ⟨_, _, c1, _, _⟩ := hT.cells3
  rw [hon] at c1
  have HSE : Hid (d.S.set k (sk ++ [l]) = d2.S) := Lib.hid (by rw [hd2, hsk]; exact set_modify d.S k hk l)
  clear h hi hB hk hon hok hd2 hT hTB hblt hset hsp hsb f1 f2 f3 f4 f5 f6 f7 hsk hrk hsl hSN hys hyj
  go_enter Try.func46, Try.ntmps46
  go_upto_region 7 with fail
  -- CUT 1
  clear cV0 c1
  refine Roll.region_v 16 44 Drw7 Lrw7 [(0, .pointer (some ⟨g, 0, none⟩)), (1, .int .i64 (k : Int)), (2, .slice a 64 c)] 15 [true, true, true, true, true, true, true, true, true, true, true, true, true, false, false, false] (fun p => Below u.heap.size u p) (fun vv p => ∃ r8 o8 c8 a2 c2, vv = .slice (some ⟨r8, o8, none⟩) (sl + 1) c8 ∧ Rw p 32 (some r8) (.slice (some ⟨r8, o8, none⟩) (sl + 1) c8) (sl + 1) (ys ++ [.slice a2 64 c2]) ∧ (r8 = rk ∨ u.heap.size ≤ r8) ∧ Bs (fun x => u.heap.size ≤ x ∧ x ≠ r8) p a2 64 c2 l ∧ Kept (fun j => j = rk) u p) (fun p => Kept (fun j => j = rk) u p) (fun p p2 => Kept (fun j => j = rk) p p2) [fun vv p => (vv 0) = .pointer (some ⟨g, 0, none⟩), fun vv p => (vv 1) = .pointer (some ⟨g, 0, none⟩), fun vv p => (vv 2) = .pointer (some ⟨g, 0, none⟩), fun vv p => (vv 3) = .slice (some ⟨gs, so, none⟩) SN co, fun vv p => (vv 4) = .int .i64 (k : Int), fun vv p => (vv 5) = .pointer (some ⟨g, 0, none⟩), fun vv p => (vv 6) = .pointer (some ⟨g, 0, none⟩), fun vv p => (vv 7) = .pointer (some ⟨g, 0, none⟩), fun vv p => (vv 8) = .slice (some ⟨gs, so, none⟩) SN co, fun vv p => (vv 9) = .int .i64 (k : Int), fun vv p => (vv 10) = .pointer (some ⟨gs, so + k, none⟩), fun vv p => (vv 11) = .slice (some ⟨rk, ro, none⟩) sl rc, fun vv p => (vv 12) = .slice a 64 c, fun vv p => ∃ a2 c2, (vv 13) = .slice a2 64 c2 ∧ Bs (fun x => u.heap.size ≤ x) p a2 64 c2 l, fun vv p => ∃ s a2 c2, (vv 14) = .slice (some ⟨s, 0, none⟩) 1 1 ∧ u.heap.size ≤ s ∧ p.heap[s]? = some (.cells #[.slice a2 64 c2] 32 (0, 0)) ∧ Bs (fun x => u.heap.size ≤ x ∧ x < s) p a2 64 c2 l, fun vv p => True] (by kernel_rfl) (by kernel_rfl) rfl ⟨rfl, rfl, rfl, trivial⟩ ((Below.refl _ _).drew) (by decide) (by kernel_rfl) (fun _ h => Kept.of_below _ h) (fun _ _ h => by obtain ⟨_, _, _, _, _, _, _, _, _, h⟩ := h; exact h) (fun _ => Kept.refl _ _) ?_ ?_ ?_
  · exact ⟨fun _ _ _ _ h => h, fun _ _ _ _ h => h, fun _ _ _ _ h => h, fun _ _ _ _ h => h, fun _ _ _ _ h => h, fun _ _ _ _ h => h, fun _ _ _ _ h => h, fun _ _ _ _ h => h, fun _ _ _ _ h => h, fun _ _ _ _ h => h, fun _ _ _ _ h => h, fun _ _ _ _ h => h, fun _ _ _ _ h => h, fun _ _ _ hs h => by obtain ⟨a, c, e1, e2⟩ := h; exact ⟨a, c, e1, e2.kept hs (fun x _ hx e => by have := HRK.out; omega)⟩, fun _ _ _ hs h => by obtain ⟨s, a, c, e1, e2, e3, e4⟩ := h; exact ⟨s, a, c, e1, e2, hs.heap e3 (fun e => by have := HRK.out; omega), e4.kept hs (fun x _ hx e => by have := HRK.out; omega)⟩, fun _ _ _ _ h => h, trivial⟩
  · intro b0 hN hlv
    refine ⟨?_, ?_, ?_, ?_, ?_, ?_, ?_, ?_, ?_, ?_, ?_, ?_, ?_, ?_, ?_, ?_, trivial⟩
    · intro vs p hI0 hp
      have hI := Roll.inw_pure (by decide) rfl hI0
      clear hI0
      have e0 : (Roll.putD Drw7 vs [] b0).eval (.tmp 0) = .pointer (some ⟨g, 0, none⟩) := (Roll.eval_old rfl).trans (hlv.at 0 (0, .pointer (some ⟨g, 0, none⟩)) rfl)
      clear hp hlv hN
      unfold Roll.Goes
      simp only [Lrw7, List.getD_cons_zero, List.getD_cons_succ]
      generalize Roll.putD Drw7 vs [] b0 = a1 at *
      refine Roll.goes_val (w' := p) (.pointer (some ⟨g, 0, none⟩)) rfl ?_ ⟨(Roll.outw_pure (by decide) rfl), rfl⟩
      (have ec : ∀ x, a1.eval (.const x) = x := fun _ => rfl); (have ef : ∀ x, a1.eval (.func x) = .func (.func x) #[] #[] := fun _ => rfl); generalize a1.eval = ρ at *
      skip
      go_simp <;> (intros; first | (exfalso; omega) | rfl)
    · intro vs p hI0 hp
      have hI := Roll.inw_pure (by decide) rfl hI0
      clear hI0
      have h0 : (vs 0) = .pointer (some ⟨g, 0, none⟩) := hp 0 (by simp [Lrw7])
      have e25 : (Roll.putD Drw7 vs [0] b0).eval (.tmp 25) = .pointer (some ⟨g, 0, none⟩) := (Roll.eval_new 0 rfl (by decide) (by decide) (by omega)).trans h0
      clear hp hlv hN
      unfold Roll.Goes
      simp only [Lrw7, List.getD_cons_zero, List.getD_cons_succ]
      generalize Roll.putD Drw7 vs [0] b0 = a1 at *
      refine Roll.goes_val (w' := p) (.pointer (some ⟨g, 0, none⟩)) rfl ?_ ⟨(Roll.outw_pure (by decide) rfl), rfl⟩
      (have ec : ∀ x, a1.eval (.const x) = x := fun _ => rfl); (have ef : ∀ x, a1.eval (.func x) = .func (.func x) #[] #[] := fun _ => rfl); generalize a1.eval = ρ at *
      clear h0
      go_simp <;> (intros; first | (exfalso; omega) | rfl)
    · intro vs p hI0 hp
      have hI := Roll.inw_pure (by decide) rfl hI0
      clear hI0
      have h1 : (vs 1) = .pointer (some ⟨g, 0, none⟩) := hp 1 (by simp [Lrw7])
      have e26 : (Roll.putD Drw7 vs [1] b0).eval (.tmp 26) = .pointer (some ⟨g, 0, none⟩) := (Roll.eval_new 1 rfl (by decide) (by decide) (by omega)).trans h1
      clear hp hlv hN
      unfold Roll.Goes
      simp only [Lrw7, List.getD_cons_zero, List.getD_cons_succ]
      generalize Roll.putD Drw7 vs [1] b0 = a1 at *
      refine Roll.goes_val (w' := p) (.pointer (some ⟨g, 0, none⟩)) rfl ?_ ⟨(Roll.outw_pure (by decide) rfl), rfl⟩
      (have ec : ∀ x, a1.eval (.const x) = x := fun _ => rfl); (have ef : ∀ x, a1.eval (.func x) = .func (.func x) #[] #[] := fun _ => rfl); generalize a1.eval = ρ at *
      clear h1
      go_simp <;> (intros; first | (exfalso; omega) | rfl)
    · intro vs p hI0 hp
      have hI := Roll.inw_pure (by decide) rfl hI0
      clear hI0
      have h2 : (vs 2) = .pointer (some ⟨g, 0, none⟩) := hp 2 (by simp [Lrw7])
      have e27 : (Roll.putD Drw7 vs [2] b0).eval (.tmp 27) = .pointer (some ⟨g, 0, none⟩) := (Roll.eval_new 2 rfl (by decide) (by decide) (by omega)).trans h2
      clear hp hlv hN
      unfold Roll.Goes
      simp only [Lrw7, List.getD_cons_zero, List.getD_cons_succ]
      generalize Roll.putD Drw7 vs [2] b0 = a1 at *
      have cf : p.cell? ⟨g, 0, none⟩ = some (.slice (some ⟨gs, so, none⟩) SN co) := (hI.cell (p := ⟨g, 0, none⟩) UGT.out.1 UGT.out.2).trans UV.out
      refine Roll.goes_val (w' := p) (.slice (some ⟨gs, so, none⟩) SN co) rfl ?_ ⟨(Roll.outw_pure (by decide) rfl), rfl⟩
      (have ec : ∀ x, a1.eval (.const x) = x := fun _ => rfl); (have ef : ∀ x, a1.eval (.func x) = .func (.func x) #[] #[] := fun _ => rfl); generalize a1.eval = ρ at *
      clear h2
      go_simp <;> (intros; first | (exfalso; omega) | rfl)
    · intro vs p hI0 hp
      have hI := Roll.inw_pure (by decide) rfl hI0
      clear hI0
      have e1 : (Roll.putD Drw7 vs [] b0).eval (.tmp 1) = .int .i64 (k : Int) := (Roll.eval_old rfl).trans (hlv.at 1 (1, .int .i64 (k : Int)) rfl)
      clear hp hlv hN
      unfold Roll.Goes
      simp only [Lrw7, List.getD_cons_zero, List.getD_cons_succ]
      generalize Roll.putD Drw7 vs [] b0 = a1 at *
      refine Roll.goes_val (w' := p) (.int .i64 (k : Int)) rfl ?_ ⟨(Roll.outw_pure (by decide) rfl), rfl⟩
      (have ec : ∀ x, a1.eval (.const x) = x := fun _ => rfl); (have ef : ∀ x, a1.eval (.func x) = .func (.func x) #[] #[] := fun _ => rfl); generalize a1.eval = ρ at *
      skip
      go_simp <;> (intros; first | (exfalso; omega) | rfl)
    · intro vs p hI0 hp
      have hI := Roll.inw_pure (by decide) rfl hI0
      clear hI0
      have e0 : (Roll.putD Drw7 vs [] b0).eval (.tmp 0) = .pointer (some ⟨g, 0, none⟩) := (Roll.eval_old rfl).trans (hlv.at 0 (0, .pointer (some ⟨g, 0, none⟩)) rfl)
      clear hp hlv hN
      unfold Roll.Goes
      simp only [Lrw7, List.getD_cons_zero, List.getD_cons_succ]
      generalize Roll.putD Drw7 vs [] b0 = a1 at *
      refine Roll.goes_val (w' := p) (.pointer (some ⟨g, 0, none⟩)) rfl ?_ ⟨(Roll.outw_pure (by decide) rfl), rfl⟩
      (have ec : ∀ x, a1.eval (.const x) = x := fun _ => rfl); (have ef : ∀ x, a1.eval (.func x) = .func (.func x) #[] #[] := fun _ => rfl); generalize a1.eval = ρ at *
      skip
      go_simp <;> (intros; first | (exfalso; omega) | rfl)
    · intro vs p hI0 hp
      have hI := Roll.inw_pure (by decide) rfl hI0
      clear hI0
      have h5 : (vs 5) = .pointer (some ⟨g, 0, none⟩) := hp 5 (by simp [Lrw7])
      have e30 : (Roll.putD Drw7 vs [5] b0).eval (.tmp 30) = .pointer (some ⟨g, 0, none⟩) := (Roll.eval_new 5 rfl (by decide) (by decide) (by omega)).trans h5
      clear hp hlv hN
      unfold Roll.Goes
      simp only [Lrw7, List.getD_cons_zero, List.getD_cons_succ]
      generalize Roll.putD Drw7 vs [5] b0 = a1 at *
      refine Roll.goes_val (w' := p) (.pointer (some ⟨g, 0, none⟩)) rfl ?_ ⟨(Roll.outw_pure (by decide) rfl), rfl⟩
      (have ec : ∀ x, a1.eval (.const x) = x := fun _ => rfl); (have ef : ∀ x, a1.eval (.func x) = .func (.func x) #[] #[] := fun _ => rfl); generalize a1.eval = ρ at *
      clear h5
      go_simp <;> (intros; first | (exfalso; omega) | rfl)
    · intro vs p hI0 hp
      have hI := Roll.inw_pure (by decide) rfl hI0
      clear hI0
      have h6 : (vs 6) = .pointer (some ⟨g, 0, none⟩) := hp 6 (by simp [Lrw7])
      have e31 : (Roll.putD Drw7 vs [6] b0).eval (.tmp 31) = .pointer (some ⟨g, 0, none⟩) := (Roll.eval_new 6 rfl (by decide) (by decide) (by omega)).trans h6
      clear hp hlv hN
      unfold Roll.Goes
      simp only [Lrw7, List.getD_cons_zero, List.getD_cons_succ]
      generalize Roll.putD Drw7 vs [6] b0 = a1 at *
      refine Roll.goes_val (w' := p) (.pointer (some ⟨g, 0, none⟩)) rfl ?_ ⟨(Roll.outw_pure (by decide) rfl), rfl⟩
      (have ec : ∀ x, a1.eval (.const x) = x := fun _ => rfl); (have ef : ∀ x, a1.eval (.func x) = .func (.func x) #[] #[] := fun _ => rfl); generalize a1.eval = ρ at *
      clear h6
      go_simp <;> (intros; first | (exfalso; omega) | rfl)
    · intro vs p hI0 hp
      have hI := Roll.inw_pure (by decide) rfl hI0
      clear hI0
      have h7 : (vs 7) = .pointer (some ⟨g, 0, none⟩) := hp 7 (by simp [Lrw7])
      have e32 : (Roll.putD Drw7 vs [7] b0).eval (.tmp 32) = .pointer (some ⟨g, 0, none⟩) := (Roll.eval_new 7 rfl (by decide) (by decide) (by omega)).trans h7
      clear hp hlv hN
      unfold Roll.Goes
      simp only [Lrw7, List.getD_cons_zero, List.getD_cons_succ]
      generalize Roll.putD Drw7 vs [7] b0 = a1 at *
      have cf : p.cell? ⟨g, 0, none⟩ = some (.slice (some ⟨gs, so, none⟩) SN co) := (hI.cell (p := ⟨g, 0, none⟩) UGT.out.1 UGT.out.2).trans UV.out
      refine Roll.goes_val (w' := p) (.slice (some ⟨gs, so, none⟩) SN co) rfl ?_ ⟨(Roll.outw_pure (by decide) rfl), rfl⟩
      (have ec : ∀ x, a1.eval (.const x) = x := fun _ => rfl); (have ef : ∀ x, a1.eval (.func x) = .func (.func x) #[] #[] := fun _ => rfl); generalize a1.eval = ρ at *
      clear h7
      go_simp <;> (intros; first | (exfalso; omega) | rfl)
    · intro vs p hI0 hp
      have hI := Roll.inw_pure (by decide) rfl hI0
      clear hI0
      have e1 : (Roll.putD Drw7 vs [] b0).eval (.tmp 1) = .int .i64 (k : Int) := (Roll.eval_old rfl).trans (hlv.at 1 (1, .int .i64 (k : Int)) rfl)
      clear hp hlv hN
      unfold Roll.Goes
      simp only [Lrw7, List.getD_cons_zero, List.getD_cons_succ]
      generalize Roll.putD Drw7 vs [] b0 = a1 at *
      refine Roll.goes_val (w' := p) (.int .i64 (k : Int)) rfl ?_ ⟨(Roll.outw_pure (by decide) rfl), rfl⟩
      (have ec : ∀ x, a1.eval (.const x) = x := fun _ => rfl); (have ef : ∀ x, a1.eval (.func x) = .func (.func x) #[] #[] := fun _ => rfl); generalize a1.eval = ρ at *
      skip
      go_simp <;> (intros; first | (exfalso; omega) | rfl)
    · intro vs p hI0 hp
      have hI := Roll.inw_pure (by decide) rfl hI0
      clear hI0
      have h8 : (vs 8) = .slice (some ⟨gs, so, none⟩) SN co := hp 8 (by simp [Lrw7])
      have h9 : (vs 9) = .int .i64 (k : Int) := hp 9 (by simp [Lrw7])
      have e33 : (Roll.putD Drw7 vs [8, 9] b0).eval (.tmp 33) = .slice (some ⟨gs, so, none⟩) SN co := (Roll.eval_new 8 rfl (by decide) (by decide) (by omega)).trans h8
      have e34 : (Roll.putD Drw7 vs [8, 9] b0).eval (.tmp 34) = .int .i64 (k : Int) := (Roll.eval_new 9 rfl (by decide) (by decide) (by omega)).trans h9
      clear hp hlv hN
      unfold Roll.Goes
      simp only [Lrw7, List.getD_cons_zero, List.getD_cons_succ]
      generalize Roll.putD Drw7 vs [8, 9] b0 = a1 at *
      have hkn := HKN.out
      have hkn2 : (k : Int) < (SN : Int) := by omega
      have hco := HCO.out
      refine Roll.goes_val (w' := p) (.pointer (some ⟨gs, so + k, none⟩)) rfl ?_ ⟨(Roll.outw_pure (by decide) rfl), rfl⟩
      (have ec : ∀ x, a1.eval (.const x) = x := fun _ => rfl); (have ef : ∀ x, a1.eval (.func x) = .func (.func x) #[] #[] := fun _ => rfl); generalize a1.eval = ρ at *
      clear h8 h9
      go_simp <;> (intros; first | (exfalso; omega) | rfl)
    · intro vs p hI0 hp
      have hI := Roll.inw_pure (by decide) rfl hI0
      clear hI0
      have h10 : (vs 10) = .pointer (some ⟨gs, so + k, none⟩) := hp 10 (by simp [Lrw7])
      have e35 : (Roll.putD Drw7 vs [10] b0).eval (.tmp 35) = .pointer (some ⟨gs, so + k, none⟩) := (Roll.eval_new 10 rfl (by decide) (by decide) (by omega)).trans h10
      clear hp hlv hN
      unfold Roll.Goes
      simp only [Lrw7, List.getD_cons_zero, List.getD_cons_succ]
      generalize Roll.putD Drw7 vs [10] b0 = a1 at *
      have cf : p.cell? ⟨gs, so + k, none⟩ = some (.slice (some ⟨rk, ro, none⟩) sl rc) := (hI.cell (p := ⟨gs, so + k, none⟩) UGS.out.1 UGS.out.2).trans UK.out
      refine Roll.goes_val (w' := p) (.slice (some ⟨rk, ro, none⟩) sl rc) rfl ?_ ⟨(Roll.outw_pure (by decide) rfl), rfl⟩
      (have ec : ∀ x, a1.eval (.const x) = x := fun _ => rfl); (have ef : ∀ x, a1.eval (.func x) = .func (.func x) #[] #[] := fun _ => rfl); generalize a1.eval = ρ at *
      clear h10
      go_simp <;> (intros; first | (exfalso; omega) | rfl)
    · intro vs p hI0 hp
      have hI := Roll.inw_pure (by decide) rfl hI0
      clear hI0
      have e2 : (Roll.putD Drw7 vs [] b0).eval (.tmp 2) = .slice a 64 c := (Roll.eval_old rfl).trans (hlv.at 2 (2, .slice a 64 c) rfl)
      clear hp hlv hN
      unfold Roll.Goes
      simp only [Lrw7, List.getD_cons_zero, List.getD_cons_succ]
      generalize Roll.putD Drw7 vs [] b0 = a1 at *
      refine Roll.goes_val (w' := p) (.slice a 64 c) rfl ?_ ⟨(Roll.outw_pure (by decide) rfl), rfl⟩
      (have ec : ∀ x, a1.eval (.const x) = x := fun _ => rfl); (have ef : ∀ x, a1.eval (.func x) = .func (.func x) #[] #[] := fun _ => rfl); generalize a1.eval = ρ at *
      skip
      go_simp <;> (intros; first | (exfalso; omega) | rfl)
    · intro vs p hI0 hp
      have hI := Roll.inw_pre (by decide) rfl hI0
      clear hI0
      have h12 : (vs 12) = .slice a 64 c := hp 12 (by simp [Lrw7])
      have e37 : (Roll.putD Drw7 vs [12] b0).eval (.tmp 37) = .slice a 64 c := (Roll.eval_new 12 rfl (by decide) (by decide) (by omega)).trans h12
      clear hp hlv hN
      unfold Roll.Goes
      simp only [Lrw7, List.getD_cons_zero, List.getD_cons_succ]
      generalize Roll.putD Drw7 vs [12] b0 = a1 at *
      refine Roll.goes_call 33 #[.slice a 64 c, .int .i64 64] p rfl (by have ec : ∀ x, a1.eval (.const x) = x := fun _ => rfl; have ef : ∀ x, a1.eval (.func x) = .func (.func x) #[] #[] := fun _ => rfl; generalize a1.eval = ρ at *; go_simp) ?_
      refine (few_any _ a 64 c 64 l p (HBD.out.kept (Kept.of_below (fun _ => False) hI) (fun _ _ _ h => h)) (by omega)).mono ?_
      rintro y p2 ⟨v2, rfl, hm2⟩
      rw [HTK.out] at hm2
      obtain ⟨a2, c2, rfl, hb2⟩ := hm2.bs
      obtain ⟨_, _, _, hbl⟩ := hm2
      rw [HLL.out] at hb2 ⊢
      exact ⟨_, rfl, Roll.outw_pre (by decide) rfl (hI.trans (hbl.mono hI.size)) (Kept.of_below _ hbl), a2, c2, rfl, hb2.dom (fun x hx => Nat.le_trans hI.size hx)⟩
    · intro vs p hI0 hp
      have hI := Roll.inw_pre (by decide) rfl hI0
      clear hI0
      have h13 : ∃ a2 c2, (vs 13) = .slice a2 64 c2 ∧ Bs (fun x => u.heap.size ≤ x) p a2 64 c2 l := hp 13 (by simp [Lrw7])
      have e38 : (Roll.putD Drw7 vs [13] b0).eval (.tmp 38) = vs 13 := (Roll.eval_new 13 rfl (by decide) (by decide) (by omega))
      clear hp hlv hN
      unfold Roll.Goes
      simp only [Lrw7, List.getD_cons_zero, List.getD_cons_succ]
      generalize Roll.putD Drw7 vs [13] b0 = a1 at *
      obtain ⟨a2, c2, hv2, hb2⟩ := h13
      rw [hv2] at e38
      have hal : Below p.heap.size p (p.alloc (.cells #[.slice a2 64 c2] 32)) := (Below.refl _ _).alloc (Nat.le_refl _) _
      refine Roll.goes_val (w' := p.alloc (.cells #[.slice a2 64 c2] 32)) (.slice (some ⟨p.heap.size, 0, none⟩) 1 1) rfl (by have ec : ∀ x, a1.eval (.const x) = x := fun _ => rfl; have ef : ∀ x, a1.eval (.func x) = .func (.func x) #[] #[] := fun _ => rfl; have hbs := run_bs56; generalize a1.eval = ρ at *; go_simp) ⟨Roll.outw_pre (by decide) rfl (hI.trans (hal.mono hI.size)) (Kept.of_below _ hal), p.heap.size, a2, c2, rfl, hI.size, heap_new rfl, hb2.small.kept (Kept.of_below (fun _ => False) hal) (fun _ _ _ h => h)⟩
    · intro vs p hI0 hp
      have hI := Roll.inw_k0 rfl hI0
      clear hI0
      have h11 : (vs 11) = .slice (some ⟨rk, ro, none⟩) sl rc := hp 11 (by simp [Lrw7])
      have h14 : ∃ s a2 c2, (vs 14) = .slice (some ⟨s, 0, none⟩) 1 1 ∧ u.heap.size ≤ s ∧ p.heap[s]? = some (.cells #[.slice a2 64 c2] 32 (0, 0)) ∧ Bs (fun x => u.heap.size ≤ x ∧ x < s) p a2 64 c2 l := hp 14 (by simp [Lrw7])
      have e36 : (Roll.putD Drw7 vs [11, 14] b0).eval (.tmp 36) = .slice (some ⟨rk, ro, none⟩) sl rc := (Roll.eval_new 11 rfl (by decide) (by decide) (by omega)).trans h11
      have e39 : (Roll.putD Drw7 vs [11, 14] b0).eval (.tmp 39) = vs 14 := (Roll.eval_new 14 rfl (by decide) (by decide) (by omega))
      clear hp hlv hN
      unfold Roll.Goes
      simp only [Lrw7, List.getD_cons_zero, List.getD_cons_succ]
      generalize Roll.putD Drw7 vs [11, 14] b0 = a1 at *
      obtain ⟨s3, a2, c2, hv3, hsq, hhs, hb3⟩ := h14
      rw [hv3] at e39
      obtain ⟨i0, ji, jz0, jz1, jz2⟩ := info_parts info32
      have hsl3 := heap_lt hhs
      refine goes_append_rw rfl (.tmp 36) (.tmp 39) 56 56 rfl 32 i0 (.slice none 0 0) 24 Try.underlying56 ji jz0 jz1 jz2 rfl (some rk) _ sl ys e36 (HYS.out.kept (Kept.of_below (fun _ => False) hI) (fun _ _ h => h)) _ e39 1 [.slice a2 64 c2] (src_one Try.underlying56 hhs) (by have := HSLB.out; unfold maxLen; omega) (by have := HSLB.out; omega) ?_
      intro k' v' w' g1 g2 g3
      obtain ⟨r8, o8, c8, rfl, rfl, _, _, _, _⟩ := g1.at (by omega)
      have hru : rk < u.heap.size := HRK.out
      have h8 : r8 = rk ∨ p.heap.size ≤ r8 := (g2 r8 rfl).imp (fun e => (Option.some.inj e).symm) id
      exact ⟨Roll.outw_k0 rfl ⟨r8, o8, c8, a2, c2, rfl, g1, h8.imp id (fun e => Nat.le_trans hI.size e), (hb3.dom (D' := fun x => u.heap.size ≤ x ∧ x ≠ r8 ∧ x < p.heap.size) (fun x hx => ⟨hx.1, by rcases h8 with e | e <;> omega, by omega⟩)).kept g3 (fun x _ hx e => by have := Option.some.inj e; omega) |>.dom (fun x hx => ⟨hx.1, hx.2.1⟩), (Kept.of_below (fun j => j = rk) hI).trans (g3.mono (fun j _ h => (Option.some.inj h).symm)) (fun _ _ h => h)⟩ (g3.mono (fun j _ h => (Option.some.inj h).symm)), trivial⟩
  · intro vs p hI hR
    have h0 : (vs 0) = .pointer (some ⟨g, 0, none⟩) := hR 0 (by omega)
    have h1 : (vs 1) = .pointer (some ⟨g, 0, none⟩) := hR 1 (by omega)
    have h2 : (vs 2) = .pointer (some ⟨g, 0, none⟩) := hR 2 (by omega)
    have h3 : (vs 3) = .slice (some ⟨gs, so, none⟩) SN co := hR 3 (by omega)
    have h4 : (vs 4) = .int .i64 (k : Int) := hR 4 (by omega)
    have h5 : (vs 5) = .pointer (some ⟨g, 0, none⟩) := hR 5 (by omega)
    have h6 : (vs 6) = .pointer (some ⟨g, 0, none⟩) := hR 6 (by omega)
    have h7 : (vs 7) = .pointer (some ⟨g, 0, none⟩) := hR 7 (by omega)
    have h8 : (vs 8) = .slice (some ⟨gs, so, none⟩) SN co := hR 8 (by omega)
    have h9 : (vs 9) = .int .i64 (k : Int) := hR 9 (by omega)
    have h10 : (vs 10) = .pointer (some ⟨gs, so + k, none⟩) := hR 10 (by omega)
    have h11 : (vs 11) = .slice (some ⟨rk, ro, none⟩) sl rc := hR 11 (by omega)
    have h12 : (vs 12) = .slice a 64 c := hR 12 (by omega)
    have h13 : ∃ a2 c2, (vs 13) = .slice a2 64 c2 ∧ Bs (fun x => u.heap.size ≤ x) p a2 64 c2 l := hR 13 (by omega)
    have h14 : ∃ s a2 c2, (vs 14) = .slice (some ⟨s, 0, none⟩) 1 1 ∧ u.heap.size ≤ s ∧ p.heap[s]? = some (.cells #[.slice a2 64 c2] 32 (0, 0)) ∧ Bs (fun x => u.heap.size ≤ x ∧ x < s) p a2 64 c2 l := hR 14 (by omega)
    have h15 : True := hR 15 (by omega)
    clear hR
    simp only [List.range_succ, List.range_zero, List.nil_append, List.cons_append, Roll.putD, Act.put, List.getD_cons_zero, List.getD_cons_succ, List.setIfInBounds_toArray, List.set_cons_zero, List.set_cons_succ, List.drop_succ_cons, List.drop_zero, Drw7]
    simp only [h0, h1, h2, h3, h4, h5, h6, h7, h8, h9, h10, h11, h12]
    clear h0 h1 h2 h3 h4 h5 h6 h7 h8 h9 h10 h11 h12
    generalize vs 15 = v15 at *
    obtain ⟨r8, o8, c8, a2, c2, rfl, g1, g2, gB, gK⟩ := hI
    clear h13 h14 h15
    have cV2 : p.cell? ⟨gs, so + k, none⟩ = some (.slice (some ⟨rk, ro, none⟩) sl rc) := (gK.cell (p := ⟨gs, so + k, none⟩) UGS.out.1 UGS.out.2).trans UK.out
    have fV2 : p.frozen? ⟨gs, so + k, none⟩ = false := (gK.frozen (p := ⟨gs, so + k, none⟩) UGS.out.1 UGS.out.2).trans UF.out
    have HP : Hid (Lv w0 (p.setCell ⟨gs, so + k, none⟩ (.slice (some ⟨r8, o8, none⟩) (sl + 1) c8)) (L.set i (refO g d2))) := Lib.hid (by
      obtain ⟨P2, hP2⟩ : ∃ P2, P2 = p.setCell ⟨gs, so + k, none⟩ (.slice (some ⟨r8, o8, none⟩) (sl + 1) c8) := ⟨_, rfl⟩
      rw [← hP2]
      have hT := HT.out
      have hgs8 : ¬ gs = rk := UGS.out.2
      have hks : Kept (fun j => j = gs) p P2 := by rw [hP2]; exact (Kept.refl (fun j => j = gs) p).setCell (fun _ => rfl) _
      have hku : Kept (fun j => j = rk ∨ j = gs) u P2 := (gK.mono (fun _ _ h => .inl h)).trans hks (fun _ _ h => .inr h)
      have hgq : gs < u.heap.size := UGS.out.1
      have hrq : rk < u.heap.size := HRK.out
      have hrs : r8 ≠ gs := by rcases g2 with e | e <;> omega
      have hbB : Bs (fun x => u.heap.size ≤ x ∧ x ≠ r8 ∧ x < p.heap.size) P2 a2 64 c2 l := ((gB.small.dom (fun x hx => ⟨hx.1.1, hx.1.2, hx.2⟩)).kept hks (fun x _ hx e => by omega))
      have hin : InR P2 (fun x => Bf x ∨ (u.heap.size ≤ x ∧ x ≠ r8 ∧ x < p.heap.size)) r8 (.slice (some ⟨r8, o8, none⟩) (sl + 1) c8) (sk ++ [l]) := by
        refine inR_snoc (ys := ys) (by rw [HSL8.out]; exact g1.kept hks (fun j hj e => hrs ((Option.some.inj hj).trans e))) (by rw [HSL8.out]; exact HYS.out.1) (fun j hj => ?_) (hbB.dom (fun x hx => .inr hx))
        obtain ⟨a, c, e1, e2⟩ := HYJ.out j hj
        exact ⟨a, c, e1, (e2.kept hku (fun x _ hx e => by rcases e with rfl | rfl; exact HBR.out hx; exact hT.bf.2.1 _ rfl hx)).dom (fun x hx => .inl hx)⟩
      have hB2 : ∀ x, (Bf x ∨ (u.heap.size ≤ x ∧ x ≠ r8 ∧ x < p.heap.size)) → Bf x ∨ (u.heap.size ≤ x ∧ x ≠ r8) := fun x hx => hx.imp id (fun hx => ⟨hx.1, hx.2.1⟩)
      have hr8 : r8 = row k ∨ u.heap.size ≤ r8 := g2.imp (fun e => e.trans HRR.out.symm) id
      have hp := hT.put (k := k) HKS.out (w' := P2) (r' := r8) (v' := .slice (some ⟨r8, o8, none⟩) (sl + 1) c8) (s' := sk ++ [l]) (Bf' := fun x => Bf x ∨ (u.heap.size ≤ x ∧ x ≠ r8 ∧ x < p.heap.size))
        (hku.mono (fun j _ h => h.imp (fun e => e.trans HRR.out.symm) (fun e => by rw [e]))) (fun xs hx => by
          rw [hP2]
          rw [HSN.out] at hx ⊢
          exact (hx.kept gK (fun j hj e => hgs8 ((Option.some.inj hj).trans e))).set k HKN.out _)
        hin hr8 (fun x hx => .inl hx) hB2 (fun x hx => by
          have h1 := hku.size
          have h2 := hks.size
          rcases hx with hx | hx
          · have := hT.lt x hx; omega
          · omega)
      rw [HSE.out] at hp
      have hl2 : d2.S.length = d.S.length := by rw [← HSE.out, List.length_set]
      rw [HD2.out] at hp
      exact HSET.out P2 (refO g d2) (fun x => TBlk g (some gs) (fun j => if j = k then r8 else row j) (fun x => Bf x ∨ (u.heap.size ≤ x ∧ x ≠ r8 ∧ x < p.heap.size)) d.S.length x) ⟨_, _, _, _, hp, fun x hx => by rw [hl2] at hx; exact hx⟩
        (hku.mono (fun j _ h => HTB.out j (by rcases h with e | e; exact .inr (.inr (.inl ⟨k, HKS.out, HRR.out.trans e.symm⟩)); exact .inr (.inl (by rw [e])))))
        (fun j hj => (TBlk.put (z := u.heap.size) HKS.out hr8 hB2 j hj).imp (HTB.out j) id) (fun j hj => hp.blk_lt j (by rw [hl2]; exact hj)))
    clear g1 g2 gB gK
    go_wp2_with (first
      | (have hL := HP.out; go_at_call 63; refine (spend_lv hL (i := i) (d := d2) HIX.out HON2.out HP2.out HFU2.out).mono ?_; rintro e w9 ⟨rfl, hl⟩; rw [List.set_set, HBU.out] at hl; have HL9 := Lib.hid hl; clear hl hL))
    go_ret
    exact ⟨rfl, HL9.out⟩
end Go.Proofs.Ytbnodhcgdgcebaa

/-
  The track's write.
-/
import Derived.Test.YtbnodhcgdgcebaaUH
namespace Go.Proofs.Ytbnodhcgdgcebaa
open Go.RowKit
set_option linter.unusedSimpArgs false
set_option linter.unusedVariables false
def Dtw3 : List (Option Tmp) := [some 23, some 24, some 25, some 26, some 27, some 28, some 29, some 30, some 31, some 32, some 33, some 34, some 35, some 36, some 37, some 38, none]
def Ltw3 : List (List Nat) := [[], [0], [1], [2], [], [], [5], [6], [7], [], [8, 9], [10], [], [12], [11, 13], [3, 4], [15, 14]]
def Dtw2 : List (Option Tmp) := [some 17, some 18, some 19, some 20, some 21, some 22, some 8]
def Ltw2 : List (List Nat) := [[], [0], [1], [], [3], [2, 4], [5]]
def Dtw1 : List (Option Tmp) := [some 9, some 10, some 11, some 12, some 13, some 14, some 15, some 16, some 7]
def Ltw1 : List (List Nat) := [[], [0], [], [2], [3], [4], [5], [1, 6], [7]]
theorem inR_snoc {w : World} {Bf : Nat → Prop} {r : Nat} {v : Value} {s : List (List UInt8)} {ys : List Value} {a : Option Addr} {c : Nat} {b : List UInt8} (hy : Rw w 32 (some r) v (s.length + 1) (ys ++ [.slice a 64 c])) (hl : ys.length = s.length) (hj : ∀ j (h : j < s.length), ∃ a c, ys[j]? = some (.slice a 64 c) ∧ Bs Bf w a 64 c s[j]) (hb : Bs Bf w a 64 c b) : InR w Bf r v (s ++ [b]) := by
  refine ⟨ys ++ [.slice a 64 c], by rw [List.length_append]; exact hy, fun j hjl => ?_⟩
  by_cases e : j < s.length
  · obtain ⟨a', c', h1, h2⟩ := hj j e
    exact ⟨a', c', by rw [List.getElem?_append_left (by omega)]; exact h1, by rw [List.getElem_append_left e]; exact h2⟩
  · obtain rfl : j = s.length := by rw [List.length_append, List.length_singleton] at hjl; omega
    exact ⟨a, c, by rw [List.getElem?_append_right (by omega), hl, Nat.sub_self]; rfl, by simp only [List.getElem_concat_length]; exact hb⟩
theorem Rw.frozen {w : World} {e : TypeId} {g off n c : Nat} {xs : List Value} (h : Rw w e (some g) (.slice (some ⟨g, off, none⟩) n c) n xs) (j : Nat) : w.frozen? ⟨g, j, none⟩ = false := by
  rcases h.2 with ⟨e0, _⟩ | ⟨g', off', cap, cur, e0, _, hg, _⟩
  · cases e0
  · cases e0; exact frozen_of_row w g j _ _ hg
set_option maxRecDepth 100000 in
set_option maxHeartbeats 4000000 in
theorem twrite_lv {w0 w : World} {L0 : List Obj} {gt g : Nat} {S : List (List (List UInt8))} {d : DM} (h : Lv w0 w (trackO 55 [] gt S :: diskO g d :: L0)) (m : OM) (hm : OOk (fun b => b < w0.heap.size) w0 m) (hSd : d.S.length = S.length) (hne : ∀ s ∈ S, 0 < s.length ∧ s.length ≤ 100000) (hS0 : 0 < S.length) (hS1 : S.length ≤ 4096) (hon : d.on = true) (hok : d.Ok 100000) :
    Calls Try.prog 25 #[.pointer (some ⟨gt, 0, none⟩), .pointer (some ⟨g, 0, none⟩), .agg m.cells.toArray] w fun e w' => ∃ kk l2, ∃ hk : kk < S.length, e = .returned (.bool true) ∧ l2.length = 64 ∧ Lv w0 w' (trackO 55 [] gt (S.set kk (S[kk] ++ [l2])) :: diskO g (d.write kk l2) :: L0) := by
  have HL0 := Lib.hid h
  have HM := Lib.hid hm
  have HON := Lib.hid hon
  have HOK := Lib.hid hok
  have HSD := Lib.hid hSd
  have HNES := Lib.hid hne
  obtain ⟨SN, hSN⟩ : ∃ SN, S.length = SN := ⟨_, rfl⟩
  have HSN := Lib.hid hSN
  have HSB : Hid ((0 : Int) < (SN : Int) ∧ (SN : Int) ≤ 9223372036854775807) := Lib.hid ⟨by omega, by omega⟩
  obtain ⟨kk, hkk, hkb⟩ := around_nat m.k (SN : Int) (by omega)
  have HKK := Lib.hid hkk
  have HKN : Hid (kk < SN) := Lib.hid (by omega)
  have HKS : Hid (kk < S.length) := Lib.hid (by omega)
  have HKD : Hid (kk < d.S.length) := Lib.hid (by omega)
  have HMK : Hid (-9223372036854775808 ≤ m.k ∧ m.k ≤ 9223372036854775807) := Lib.hid hm.2.1
  have HMN : Hid (-9223372036854775808 ≤ m.n ∧ m.n ≤ 9223372036854775807) := Lib.hid hm.2.2.1
  have hml : m.cells.toArray = #[.int .i64 m.kind, .int .i64 m.k, .int .i64 m.n, .slice m.ba m.bn m.bc, .slice m.la m.ln m.lc] := rfl
  obtain ⟨bf, hbf⟩ : ∃ bf, bf = m.b.take 70 := ⟨_, rfl⟩
  have HBF := Lib.hid hbf
  rw [hml]
  clear h hm hon hok hSd hne hSN hS0 hS1 hkk hkb hml hbf
  go_enter Try.func25, Try.ntmps25
  go_upto_region 1 with fail
  -- CUT 1
  obtain ⟨q, hq⟩ : ∃ q, q = w.alloc (.cells #[.int .i64 m.kind, .int .i64 m.k, .int .i64 m.n, .slice m.ba m.bn m.bc, .slice m.la m.ln m.lc] 35) := ⟨_, rfl⟩
  obtain ⟨gb, hgb⟩ : ∃ gb, gb = w.heap.size := ⟨_, rfl⟩
  have hrow : q.heap[gb]? = some (.cells #[.int .i64 m.kind, .int .i64 m.k, .int .i64 m.n, .slice m.ba m.bn m.bc, .slice m.la m.ln m.lc] 35 (0, 0)) := by rw [hq]; exact heap_new hgb
  have hbq : Below w.heap.size w q := by rw [hq]; exact (Below.refl _ _).alloc (Nat.le_refl _) _
  have HL := Lib.hid (HL0.out.below hbq)
  have C1 : Hid (q.cell? ⟨gb, 1, none⟩ = some (.int .i64 m.k)) := Lib.hid (by rw [cell_of_row q gb 1 _ _ _ hrow]; rfl)
  have C2 : Hid (q.cell? ⟨gb, 2, none⟩ = some (.int .i64 m.n)) := Lib.hid (by rw [cell_of_row q gb 2 _ _ _ hrow]; rfl)
  have C3 : Hid (q.cell? ⟨gb, 3, none⟩ = some (.slice m.ba m.bn m.bc)) := Lib.hid (by rw [cell_of_row q gb 3 _ _ _ hrow]; rfl)
  have HGB : Hid (gb < q.heap.size) := Lib.hid (heap_lt hrow)
  have HMB : Hid (Bs (fun b => b < w0.heap.size) q m.ba m.bn m.bc m.b) := Lib.hid (HM.out.2.2.2.1.kept (Kept.of_below (fun x => w0.heap.size ≤ x) HL.out.args) (fun x hx _ h => by omega))
  rw [← hq, ← hgb]
  clear hq hgb hrow hbq HL0
  obtain ⟨B, ⟨gso, vo, row, Bf, hT, hTB⟩, hlt, _, hset⟩ := HL.out.get (i := 0) rfl
  have hsp := HNES.out _ (List.getElem_mem HKS.out)
  obtain ⟨gs, so, co, ro, rc, rfl, rfl, f1, f2, f3, f4, f5, f6, f7, f8, f9⟩ := hT.look HKS.out hsp.1
  obtain ⟨sk, hsk⟩ : ∃ sk, sk = S[kk]'HKS.out := ⟨_, rfl⟩
  clear f9
  rw [← hsk] at f2 f7 f8 hsp
  have HSK := Lib.hid hsk
  obtain ⟨rk, hrk⟩ : ∃ rk, row kk = rk := ⟨_, rfl⟩
  obtain ⟨sl, hsl⟩ : ∃ sl, sk.length = sl := ⟨_, rfl⟩
  obtain ⟨ys, hys, hyj⟩ := f8
  rw [hrk, hsl] at f7
  rw [HSN.out] at f6 f1
  rw [hsl] at f2 hsp
  rw [hrk] at f5 hys
  rw [hsl] at hys
  have HT := Lib.hid hT
  have HTB := Lib.hid hTB
  have HSET := Lib.hid hset
  have HRR := Lib.hid hrk
  have HSL8 := Lib.hid hsl
  have HYS := Lib.hid hys
  have HYJ := Lib.hid hyj
  have HCO := Lib.hid f1
  have HSLB := Lib.hid hsp.2
  have HGT := Lib.hid f3
  have HGSQ := Lib.hid f4
  have HRKQ := Lib.hid f5
  have CV := Lib.hid f6
  have CK := Lib.hid f7
  have HNE : Hid (¬ gt = rk ∧ ¬ gs = rk) := Lib.hid ⟨fun e => (hT.ap2 kk HKS.out).1 (hrk.trans e.symm), fun e => (hT.ap2 kk HKS.out).2 (by rw [e, hrk])⟩
  have HBR : Hid (¬ Bf rk) := Lib.hid (by rw [← hrk]; exact hT.bf.2.2 kk HKS.out)
  have FK : Hid (q.frozen? ⟨gs, so + kk, none⟩ = false) := Lib.hid (by obtain ⟨xs, hx, _⟩ := hT.outer; exact hx.frozen _)
  clear hT hTB hlt hset hsp f1 f2 f3 f4 f5 f6 f7 hsk hrk hsl hys hyj
  -- CUT 2
  refine Roll.region_w 9 44 Dtw1 Ltw1 [(0, .pointer (some ⟨gt, 0, none⟩)), (5, .pointer (some ⟨gb, 0, none⟩))] 8 [true, true, true, true, true, true, true, true, false] (fun p => Below q.heap.size q p) (fun vv p => Below q.heap.size q p) (fun p => Below q.heap.size q p) (Kept (fun _ => False)) [fun vv p => (vv 0) = .pointer (some ⟨gb, 1, none⟩), fun vv p => (vv 1) = .int .i64 m.k, fun vv p => (vv 2) = .pointer (some ⟨gt, 0, none⟩), fun vv p => (vv 3) = .pointer (some ⟨gt, 0, none⟩), fun vv p => (vv 4) = .pointer (some ⟨gt, 0, none⟩), fun vv p => (vv 5) = .slice (some ⟨gs, so, none⟩) SN co, fun vv p => (vv 6) = .int .i64 (SN : Int), fun vv p => (vv 7) = .int .i64 (kk : Int), fun vv p => (vv 8) = .int .i64 (kk : Int)] (by kernel_rfl) (by kernel_rfl) rfl ⟨rfl, rfl, trivial⟩ ((Below.refl _ _).drew) (by decide) (by kernel_rfl) (fun _ h => h) (fun _ _ h => h) (fun _ => Kept.refl _ _) ?_ ?_ ?_
  · exact ⟨fun _ _ _ _ h => h, fun _ _ _ _ h => h, fun _ _ _ _ h => h, fun _ _ _ _ h => h, fun _ _ _ _ h => h, fun _ _ _ _ h => h, fun _ _ _ _ h => h, fun _ _ _ _ h => h, fun _ _ _ _ h => h, trivial⟩
  · intro b0 hN hlv
    refine ⟨?_, ?_, ?_, ?_, ?_, ?_, ?_, ?_, ?_, trivial⟩
    · intro vs p hI0 hp
      have hI := Roll.inw_pure (by decide) rfl hI0
      clear hI0
      have e5 : (Roll.putD Dtw1 vs [] b0).eval (.tmp 5) = .pointer (some ⟨gb, 0, none⟩) := (Roll.eval_old rfl).trans (hlv.at 1 (5, .pointer (some ⟨gb, 0, none⟩)) rfl)
      clear hp hlv hN
      unfold Roll.Goes
      simp only [Ltw1, List.getD_cons_zero, List.getD_cons_succ]
      generalize Roll.putD Dtw1 vs [] b0 = a1 at *
      refine Roll.goes_val (w' := p) (.pointer (some ⟨gb, 1, none⟩)) rfl ?_ ⟨(Roll.outw_pure (by decide) rfl), rfl⟩
      (have ec : ∀ x, a1.eval (.const x) = x := fun _ => rfl); (have ef : ∀ x, a1.eval (.func x) = .func (.func x) #[] #[] := fun _ => rfl); generalize a1.eval = ρ at *
      skip
      go_simp <;> (intros; first | (exfalso; omega) | rfl)
    · intro vs p hI0 hp
      have hI := Roll.inw_pure (by decide) rfl hI0
      clear hI0
      have h0 : (vs 0) = .pointer (some ⟨gb, 1, none⟩) := hp 0 (by simp [Ltw1])
      have e9 : (Roll.putD Dtw1 vs [0] b0).eval (.tmp 9) = .pointer (some ⟨gb, 1, none⟩) := (Roll.eval_new 0 rfl (by decide) (by decide) (by omega)).trans h0
      clear hp hlv hN
      unfold Roll.Goes
      simp only [Ltw1, List.getD_cons_zero, List.getD_cons_succ]
      generalize Roll.putD Dtw1 vs [0] b0 = a1 at *
      have cf : p.cell? ⟨gb, 1, none⟩ = some (.int .i64 m.k) := (hI.cell (p := ⟨gb, 1, none⟩) HGB.out).trans C1.out
      refine Roll.goes_val (w' := p) (.int .i64 m.k) rfl ?_ ⟨(Roll.outw_pure (by decide) rfl), rfl⟩
      (have ec : ∀ x, a1.eval (.const x) = x := fun _ => rfl); (have ef : ∀ x, a1.eval (.func x) = .func (.func x) #[] #[] := fun _ => rfl); generalize a1.eval = ρ at *
      clear h0
      go_simp <;> (intros; first | (exfalso; omega) | rfl)
    · intro vs p hI0 hp
      have hI := Roll.inw_pure (by decide) rfl hI0
      clear hI0
      have e0 : (Roll.putD Dtw1 vs [] b0).eval (.tmp 0) = .pointer (some ⟨gt, 0, none⟩) := (Roll.eval_old rfl).trans (hlv.at 0 (0, .pointer (some ⟨gt, 0, none⟩)) rfl)
      clear hp hlv hN
      unfold Roll.Goes
      simp only [Ltw1, List.getD_cons_zero, List.getD_cons_succ]
      generalize Roll.putD Dtw1 vs [] b0 = a1 at *
      refine Roll.goes_val (w' := p) (.pointer (some ⟨gt, 0, none⟩)) rfl ?_ ⟨(Roll.outw_pure (by decide) rfl), rfl⟩
      (have ec : ∀ x, a1.eval (.const x) = x := fun _ => rfl); (have ef : ∀ x, a1.eval (.func x) = .func (.func x) #[] #[] := fun _ => rfl); generalize a1.eval = ρ at *
      skip
      go_simp <;> (intros; first | (exfalso; omega) | rfl)
    · intro vs p hI0 hp
      have hI := Roll.inw_pure (by decide) rfl hI0
      clear hI0
      have h2 : (vs 2) = .pointer (some ⟨gt, 0, none⟩) := hp 2 (by simp [Ltw1])
      have e11 : (Roll.putD Dtw1 vs [2] b0).eval (.tmp 11) = .pointer (some ⟨gt, 0, none⟩) := (Roll.eval_new 2 rfl (by decide) (by decide) (by omega)).trans h2
      clear hp hlv hN
      unfold Roll.Goes
      simp only [Ltw1, List.getD_cons_zero, List.getD_cons_succ]
      generalize Roll.putD Dtw1 vs [2] b0 = a1 at *
      refine Roll.goes_val (w' := p) (.pointer (some ⟨gt, 0, none⟩)) rfl ?_ ⟨(Roll.outw_pure (by decide) rfl), rfl⟩
      (have ec : ∀ x, a1.eval (.const x) = x := fun _ => rfl); (have ef : ∀ x, a1.eval (.func x) = .func (.func x) #[] #[] := fun _ => rfl); generalize a1.eval = ρ at *
      clear h2
      go_simp <;> (intros; first | (exfalso; omega) | rfl)
    · intro vs p hI0 hp
      have hI := Roll.inw_pure (by decide) rfl hI0
      clear hI0
      have h3 : (vs 3) = .pointer (some ⟨gt, 0, none⟩) := hp 3 (by simp [Ltw1])
      have e12 : (Roll.putD Dtw1 vs [3] b0).eval (.tmp 12) = .pointer (some ⟨gt, 0, none⟩) := (Roll.eval_new 3 rfl (by decide) (by decide) (by omega)).trans h3
      clear hp hlv hN
      unfold Roll.Goes
      simp only [Ltw1, List.getD_cons_zero, List.getD_cons_succ]
      generalize Roll.putD Dtw1 vs [3] b0 = a1 at *
      refine Roll.goes_val (w' := p) (.pointer (some ⟨gt, 0, none⟩)) rfl ?_ ⟨(Roll.outw_pure (by decide) rfl), rfl⟩
      (have ec : ∀ x, a1.eval (.const x) = x := fun _ => rfl); (have ef : ∀ x, a1.eval (.func x) = .func (.func x) #[] #[] := fun _ => rfl); generalize a1.eval = ρ at *
      clear h3
      go_simp <;> (intros; first | (exfalso; omega) | rfl)
    · intro vs p hI0 hp
      have hI := Roll.inw_pure (by decide) rfl hI0
      clear hI0
      have h4 : (vs 4) = .pointer (some ⟨gt, 0, none⟩) := hp 4 (by simp [Ltw1])
      have e13 : (Roll.putD Dtw1 vs [4] b0).eval (.tmp 13) = .pointer (some ⟨gt, 0, none⟩) := (Roll.eval_new 4 rfl (by decide) (by decide) (by omega)).trans h4
      clear hp hlv hN
      unfold Roll.Goes
      simp only [Ltw1, List.getD_cons_zero, List.getD_cons_succ]
      generalize Roll.putD Dtw1 vs [4] b0 = a1 at *
      have cf : p.cell? ⟨gt, 0, none⟩ = some (.slice (some ⟨gs, so, none⟩) SN co) := (hI.cell (p := ⟨gt, 0, none⟩) HGT.out).trans CV.out
      refine Roll.goes_val (w' := p) (.slice (some ⟨gs, so, none⟩) SN co) rfl ?_ ⟨(Roll.outw_pure (by decide) rfl), rfl⟩
      (have ec : ∀ x, a1.eval (.const x) = x := fun _ => rfl); (have ef : ∀ x, a1.eval (.func x) = .func (.func x) #[] #[] := fun _ => rfl); generalize a1.eval = ρ at *
      clear h4
      go_simp <;> (intros; first | (exfalso; omega) | rfl)
    · intro vs p hI0 hp
      have hI := Roll.inw_pure (by decide) rfl hI0
      clear hI0
      have h5 : (vs 5) = .slice (some ⟨gs, so, none⟩) SN co := hp 5 (by simp [Ltw1])
      have e14 : (Roll.putD Dtw1 vs [5] b0).eval (.tmp 14) = .slice (some ⟨gs, so, none⟩) SN co := (Roll.eval_new 5 rfl (by decide) (by decide) (by omega)).trans h5
      clear hp hlv hN
      unfold Roll.Goes
      simp only [Ltw1, List.getD_cons_zero, List.getD_cons_succ]
      generalize Roll.putD Dtw1 vs [5] b0 = a1 at *
      refine Roll.goes_val (w' := p) (.int .i64 (SN : Int)) rfl ?_ ⟨(Roll.outw_pure (by decide) rfl), rfl⟩
      (have ec : ∀ x, a1.eval (.const x) = x := fun _ => rfl); (have ef : ∀ x, a1.eval (.func x) = .func (.func x) #[] #[] := fun _ => rfl); generalize a1.eval = ρ at *
      clear h5
      go_simp <;> (intros; first | (exfalso; omega) | rfl)
    · intro vs p hI0 hp
      have hI := Roll.inw_pure (by decide) rfl hI0
      clear hI0
      have h1 : (vs 1) = .int .i64 m.k := hp 1 (by simp [Ltw1])
      have h6 : (vs 6) = .int .i64 (SN : Int) := hp 6 (by simp [Ltw1])
      have e10 : (Roll.putD Dtw1 vs [1, 6] b0).eval (.tmp 10) = .int .i64 m.k := (Roll.eval_new 1 rfl (by decide) (by decide) (by omega)).trans h1
      have e15 : (Roll.putD Dtw1 vs [1, 6] b0).eval (.tmp 15) = .int .i64 (SN : Int) := (Roll.eval_new 6 rfl (by decide) (by decide) (by omega)).trans h6
      clear hp hlv hN
      unfold Roll.Goes
      simp only [Ltw1, List.getD_cons_zero, List.getD_cons_succ]
      generalize Roll.putD Dtw1 vs [1, 6] b0 = a1 at *
      refine Roll.goes_call 14 #[.int .i64 m.k, .int .i64 (SN : Int)] p rfl (by have ec : ∀ x, a1.eval (.const x) = x := fun _ => rfl; have ef : ∀ x, a1.eval (.func x) = .func (.func x) #[] #[] := fun _ => rfl; generalize a1.eval = ρ at *; go_simp) ?_
      refine (around_any m.k (SN : Int) p HMK.out.1 HMK.out.2 HSB.out.1 HSB.out.2).mono ?_
      rintro y p2 ⟨rfl, rfl⟩
      exact ⟨_, rfl, (Roll.outw_pure (by decide) rfl), by show Value.int .i64 _ = _; rw [HKK.out]⟩
    · intro vs p hI0 hp
      have hI := Roll.inw_k0 rfl hI0
      clear hI0
      have h7 : (vs 7) = .int .i64 (kk : Int) := hp 7 (by simp [Ltw1])
      have e16 : (Roll.putD Dtw1 vs [7] b0).eval (.tmp 16) = .int .i64 (kk : Int) := (Roll.eval_new 7 rfl (by decide) (by decide) (by omega)).trans h7
      clear hp hlv hN
      unfold Roll.Goes
      simp only [Ltw1, List.getD_cons_zero, List.getD_cons_succ]
      generalize Roll.putD Dtw1 vs [7] b0 = a1 at *
      refine Roll.goes_val (w' := p) (.int .i64 (kk : Int)) rfl (by have ec : ∀ x, a1.eval (.const x) = x := fun _ => rfl; have ef : ∀ x, a1.eval (.func x) = .func (.func x) #[] #[] := fun _ => rfl; have hbs := trivial; generalize a1.eval = ρ at *; go_simp) ⟨Roll.outw_k0 rfl hI (Kept.refl _ _), rfl⟩
  · intro vs p hI hR
    have h0 : (vs 0) = .pointer (some ⟨gb, 1, none⟩) := hR 0 (by omega)
    have h1 : (vs 1) = .int .i64 m.k := hR 1 (by omega)
    have h2 : (vs 2) = .pointer (some ⟨gt, 0, none⟩) := hR 2 (by omega)
    have h3 : (vs 3) = .pointer (some ⟨gt, 0, none⟩) := hR 3 (by omega)
    have h4 : (vs 4) = .pointer (some ⟨gt, 0, none⟩) := hR 4 (by omega)
    have h5 : (vs 5) = .slice (some ⟨gs, so, none⟩) SN co := hR 5 (by omega)
    have h6 : (vs 6) = .int .i64 (SN : Int) := hR 6 (by omega)
    have h7 : (vs 7) = .int .i64 (kk : Int) := hR 7 (by omega)
    have h8 : (vs 8) = .int .i64 (kk : Int) := hR 8 (by omega)
    clear hR
    simp only [List.range_succ, List.range_zero, List.nil_append, List.cons_append, Roll.putD, Act.put, List.getD_cons_zero, List.getD_cons_succ, List.setIfInBounds_toArray, List.set_cons_zero, List.set_cons_succ, List.drop_succ_cons, List.drop_zero, Dtw1]
    simp only [h0, h1, h2, h3, h4, h5, h6, h7, h8]
    clear h0 h1 h2 h3 h4 h5 h6 h7 h8
    have HBQ0 := Lib.hid hI
    clear hI
    go_upto_region 2 with fail
    rename World => q2
    have HBQ : Hid (Below q.heap.size q q2) := HBQ0
    refine Roll.region_w 7 44 Dtw2 Ltw2 [(5, .pointer (some ⟨gb, 0, none⟩))] 6 [true, true, false, true, true, false, false] (fun p => Below q.heap.size q p) (fun vv p => Below q.heap.size q p) (fun p => Below q.heap.size q p) (Kept (fun _ => False)) [fun vv p => (vv 0) = .pointer (some ⟨gb, 3, none⟩), fun vv p => (vv 1) = .slice m.ba m.bn m.bc, fun vv p => ∃ a2 c2, (vv 2) = .slice a2 bf.length c2 ∧ Bs (fun x => q.heap.size ≤ x) p a2 bf.length c2 bf, fun vv p => (vv 3) = .pointer (some ⟨gb, 2, none⟩), fun vv p => (vv 4) = .int .i64 m.n, fun vv p => ∃ a2 c2 l2, (vv 5) = .slice a2 64 c2 ∧ l2.length = 64 ∧ Bs (fun x => q.heap.size ≤ x) p a2 64 c2 l2, fun vv p => ∃ a2 c2 l2, (vv 6) = .slice a2 64 c2 ∧ l2.length = 64 ∧ Bs (fun x => q.heap.size ≤ x) p a2 64 c2 l2] (by kernel_rfl) (by kernel_rfl) rfl ⟨rfl, trivial⟩ (HBQ.out.drew) (by decide) (by kernel_rfl) (fun _ h => h) (fun _ _ h => h) (fun _ => Kept.refl _ _) ?_ ?_ ?_
    · exact ⟨fun _ _ _ _ h => h, fun _ _ _ _ h => h, fun _ _ _ hs h => by obtain ⟨a, c, e1, e2⟩ := h; exact ⟨a, c, e1, e2.kept hs (fun x _ hx e => e)⟩, fun _ _ _ _ h => h, fun _ _ _ _ h => h, fun _ _ _ hs h => by obtain ⟨a, c, l, e1, e2, e3⟩ := h; exact ⟨a, c, l, e1, e2, e3.kept hs (fun x _ hx e => e)⟩, fun _ _ _ hs h => by obtain ⟨a, c, l, e1, e2, e3⟩ := h; exact ⟨a, c, l, e1, e2, e3.kept hs (fun x _ hx e => e)⟩, trivial⟩
    · intro b0 hN hlv
      refine ⟨?_, ?_, ?_, ?_, ?_, ?_, ?_, trivial⟩
      · intro vt p hI0 hp
        have hI := Roll.inw_pure (by decide) rfl hI0
        clear hI0
        have e5 : (Roll.putD Dtw2 vt [] b0).eval (.tmp 5) = .pointer (some ⟨gb, 0, none⟩) := (Roll.eval_old rfl).trans (hlv.at 0 (5, .pointer (some ⟨gb, 0, none⟩)) rfl)
        clear hp hlv hN
        unfold Roll.Goes
        simp only [Ltw2, List.getD_cons_zero, List.getD_cons_succ]
        generalize Roll.putD Dtw2 vt [] b0 = a1 at *
        refine Roll.goes_val (w' := p) (.pointer (some ⟨gb, 3, none⟩)) rfl ?_ ⟨(Roll.outw_pure (by decide) rfl), rfl⟩
        (have ec : ∀ x, a1.eval (.const x) = x := fun _ => rfl); (have ef : ∀ x, a1.eval (.func x) = .func (.func x) #[] #[] := fun _ => rfl); generalize a1.eval = ρ at *
        skip
        go_simp <;> (intros; first | (exfalso; omega) | rfl)
      · intro vt p hI0 hp
        have hI := Roll.inw_pure (by decide) rfl hI0
        clear hI0
        have h0 : (vt 0) = .pointer (some ⟨gb, 3, none⟩) := hp 0 (by simp [Ltw2])
        have e17 : (Roll.putD Dtw2 vt [0] b0).eval (.tmp 17) = .pointer (some ⟨gb, 3, none⟩) := (Roll.eval_new 0 rfl (by decide) (by decide) (by omega)).trans h0
        clear hp hlv hN
        unfold Roll.Goes
        simp only [Ltw2, List.getD_cons_zero, List.getD_cons_succ]
        generalize Roll.putD Dtw2 vt [0] b0 = a1 at *
        have cf : p.cell? ⟨gb, 3, none⟩ = some (.slice m.ba m.bn m.bc) := (hI.cell (p := ⟨gb, 3, none⟩) HGB.out).trans C3.out
        refine Roll.goes_val (w' := p) (.slice m.ba m.bn m.bc) rfl ?_ ⟨(Roll.outw_pure (by decide) rfl), rfl⟩
        (have ec : ∀ x, a1.eval (.const x) = x := fun _ => rfl); (have ef : ∀ x, a1.eval (.func x) = .func (.func x) #[] #[] := fun _ => rfl); generalize a1.eval = ρ at *
        clear h0
        go_simp <;> (intros; first | (exfalso; omega) | rfl)
      · intro vt p hI0 hp
        have hI := Roll.inw_pre (by decide) rfl hI0
        clear hI0
        have h1 : (vt 1) = .slice m.ba m.bn m.bc := hp 1 (by simp [Ltw2])
        have e18 : (Roll.putD Dtw2 vt [1] b0).eval (.tmp 18) = .slice m.ba m.bn m.bc := (Roll.eval_new 1 rfl (by decide) (by decide) (by omega)).trans h1
        clear hp hlv hN
        unfold Roll.Goes
        simp only [Ltw2, List.getD_cons_zero, List.getD_cons_succ]
        generalize Roll.putD Dtw2 vt [1] b0 = a1 at *
        refine Roll.goes_call 33 #[.slice m.ba m.bn m.bc, .int .i64 70] p rfl (by have ec : ∀ x, a1.eval (.const x) = x := fun _ => rfl; have ef : ∀ x, a1.eval (.func x) = .func (.func x) #[] #[] := fun _ => rfl; generalize a1.eval = ρ at *; go_simp) ?_
        refine (few_any _ m.ba m.bn m.bc 70 m.b p (HMB.out.kept (Kept.of_below (fun _ => False) hI) (fun _ _ _ h => h)) (by omega)).mono ?_
        rintro y p2 ⟨v2, rfl, hm2⟩
        obtain ⟨a2, c2, rfl, hb2⟩ := hm2.bs
        obtain ⟨_, _, _, hbl⟩ := hm2
        rw [show m.b.take 70 = bf from HBF.out.symm] at hb2 ⊢
        exact ⟨_, rfl, Roll.outw_pre (by decide) rfl (hI.trans (hbl.mono hI.size)) (Kept.of_below _ hbl), a2, c2, rfl, hb2.dom (fun x hx => Nat.le_trans hI.size hx)⟩
      · intro vt p hI0 hp
        have hI := Roll.inw_pure (by decide) rfl hI0
        clear hI0
        have e5 : (Roll.putD Dtw2 vt [] b0).eval (.tmp 5) = .pointer (some ⟨gb, 0, none⟩) := (Roll.eval_old rfl).trans (hlv.at 0 (5, .pointer (some ⟨gb, 0, none⟩)) rfl)
        clear hp hlv hN
        unfold Roll.Goes
        simp only [Ltw2, List.getD_cons_zero, List.getD_cons_succ]
        generalize Roll.putD Dtw2 vt [] b0 = a1 at *
        refine Roll.goes_val (w' := p) (.pointer (some ⟨gb, 2, none⟩)) rfl ?_ ⟨(Roll.outw_pure (by decide) rfl), rfl⟩
        (have ec : ∀ x, a1.eval (.const x) = x := fun _ => rfl); (have ef : ∀ x, a1.eval (.func x) = .func (.func x) #[] #[] := fun _ => rfl); generalize a1.eval = ρ at *
        skip
        go_simp <;> (intros; first | (exfalso; omega) | rfl)
      · intro vt p hI0 hp
        have hI := Roll.inw_pure (by decide) rfl hI0
        clear hI0
        have h3 : (vt 3) = .pointer (some ⟨gb, 2, none⟩) := hp 3 (by simp [Ltw2])
        have e20 : (Roll.putD Dtw2 vt [3] b0).eval (.tmp 20) = .pointer (some ⟨gb, 2, none⟩) := (Roll.eval_new 3 rfl (by decide) (by decide) (by omega)).trans h3
        clear hp hlv hN
        unfold Roll.Goes
        simp only [Ltw2, List.getD_cons_zero, List.getD_cons_succ]
        generalize Roll.putD Dtw2 vt [3] b0 = a1 at *
        have cf : p.cell? ⟨gb, 2, none⟩ = some (.int .i64 m.n) := (hI.cell (p := ⟨gb, 2, none⟩) HGB.out).trans C2.out
        refine Roll.goes_val (w' := p) (.int .i64 m.n) rfl ?_ ⟨(Roll.outw_pure (by decide) rfl), rfl⟩
        (have ec : ∀ x, a1.eval (.const x) = x := fun _ => rfl); (have ef : ∀ x, a1.eval (.func x) = .func (.func x) #[] #[] := fun _ => rfl); generalize a1.eval = ρ at *
        clear h3
        go_simp <;> (intros; first | (exfalso; omega) | rfl)
      · intro vt p hI0 hp
        have hI := Roll.inw_pre (by decide) rfl hI0
        clear hI0
        have h2 : ∃ a2 c2, (vt 2) = .slice a2 bf.length c2 ∧ Bs (fun x => q.heap.size ≤ x) p a2 bf.length c2 bf := hp 2 (by simp [Ltw2])
        have h4 : (vt 4) = .int .i64 m.n := hp 4 (by simp [Ltw2])
        have e19 : (Roll.putD Dtw2 vt [2, 4] b0).eval (.tmp 19) = vt 2 := (Roll.eval_new 2 rfl (by decide) (by decide) (by omega))
        have e21 : (Roll.putD Dtw2 vt [2, 4] b0).eval (.tmp 21) = .int .i64 m.n := (Roll.eval_new 4 rfl (by decide) (by decide) (by omega)).trans h4
        clear hp hlv hN
        unfold Roll.Goes
        simp only [Ltw2, List.getD_cons_zero, List.getD_cons_succ]
        generalize Roll.putD Dtw2 vt [2, 4] b0 = a1 at *
        obtain ⟨a2, c2, hv2, hb2⟩ := h2
        rw [hv2] at e19
        refine Roll.goes_call 32 #[.slice a2 bf.length c2, .int .i64 m.n] p rfl (by have ec : ∀ x, a1.eval (.const x) = x := fun _ => rfl; have ef : ∀ x, a1.eval (.func x) = .func (.func x) #[] #[] := fun _ => rfl; have hbs := trivial; generalize a1.eval = ρ at *; go_simp) ?_
        refine (fill_any m.n HMN.out.1 HMN.out.2 p hb2).mono ?_
        rintro y p2 ⟨v3, l3, rfl, hl3, hm3⟩
        obtain ⟨a3, c3, rfl, hb3⟩ := hm3.bs
        obtain ⟨_, _, _, hbl⟩ := hm3
        rw [hl3] at hb3 ⊢
        exact ⟨_, rfl, Roll.outw_pre (by decide) rfl (hI.trans (hbl.mono hI.size)) (Kept.of_below _ hbl), a3, c3, l3, rfl, hl3, hb3.dom (fun x hx => Nat.le_trans hI.size hx)⟩
      · intro vt p hI0 hp
        have hI := Roll.inw_k0 rfl hI0
        clear hI0
        have h5 : ∃ a2 c2 l2, (vt 5) = .slice a2 64 c2 ∧ l2.length = 64 ∧ Bs (fun x => q.heap.size ≤ x) p a2 64 c2 l2 := hp 5 (by simp [Ltw2])
        have e22 : (Roll.putD Dtw2 vt [5] b0).eval (.tmp 22) = vt 5 := (Roll.eval_new 5 rfl (by decide) (by decide) (by omega))
        clear hp hlv hN
        unfold Roll.Goes
        simp only [Ltw2, List.getD_cons_zero, List.getD_cons_succ]
        generalize Roll.putD Dtw2 vt [5] b0 = a1 at *
        obtain ⟨a3, c3, l3, hv3, hl3, hb3⟩ := h5
        rw [hv3] at e22
        refine Roll.goes_val (w' := p) (.slice a3 64 c3) rfl (by have ec : ∀ x, a1.eval (.const x) = x := fun _ => rfl; have ef : ∀ x, a1.eval (.func x) = .func (.func x) #[] #[] := fun _ => rfl; have hbs := trivial; generalize a1.eval = ρ at *; go_simp) ⟨Roll.outw_k0 rfl hI (Kept.refl _ _), a3, c3, l3, rfl, hl3, hb3⟩
    · intro vt p hI hR
      have h0 : (vt 0) = .pointer (some ⟨gb, 3, none⟩) := hR 0 (by omega)
      have h1 : (vt 1) = .slice m.ba m.bn m.bc := hR 1 (by omega)
      have h2 : ∃ a2 c2, (vt 2) = .slice a2 bf.length c2 ∧ Bs (fun x => q.heap.size ≤ x) p a2 bf.length c2 bf := hR 2 (by omega)
      have h3 : (vt 3) = .pointer (some ⟨gb, 2, none⟩) := hR 3 (by omega)
      have h4 : (vt 4) = .int .i64 m.n := hR 4 (by omega)
      have h5 : ∃ a2 c2 l2, (vt 5) = .slice a2 64 c2 ∧ l2.length = 64 ∧ Bs (fun x => q.heap.size ≤ x) p a2 64 c2 l2 := hR 5 (by omega)
      have h6 : ∃ a2 c2 l2, (vt 6) = .slice a2 64 c2 ∧ l2.length = 64 ∧ Bs (fun x => q.heap.size ≤ x) p a2 64 c2 l2 := hR 6 (by omega)
      clear hR
      simp only [List.range_succ, List.range_zero, List.nil_append, List.cons_append, Roll.putD, Act.put, List.getD_cons_zero, List.getD_cons_succ, List.setIfInBounds_toArray, List.set_cons_zero, List.set_cons_succ, List.drop_succ_cons, List.drop_zero, Dtw2]
      simp only [h0, h1, h3, h4]
      clear h0 h1 h3 h4
      obtain ⟨a2, c2, l2, hv2, hl2, hb2⟩ := h6
      simp only [hv2]
      have HUQ0 := Lib.hid hI
      have Hl2 := Lib.hid hl2
      have HB20 := Lib.hid hb2.small
      clear h2 h5 hI hl2 hb2 hv2
      go_upto_region 3 with fail
      rename World => u
      have HUQ : Hid (Below q.heap.size q u) := HUQ0
      have HB2 : Hid (Bs (fun x => q.heap.size ≤ x ∧ x < u.heap.size) u a2 64 c2 l2) := HB20
      have UGT : Hid (gt < u.heap.size ∧ ¬ gt = rk) := Lib.hid ⟨Nat.lt_of_lt_of_le HGT.out HUQ.out.size, HNE.out.1⟩
      have UGS : Hid (gs < u.heap.size ∧ ¬ gs = rk) := Lib.hid ⟨Nat.lt_of_lt_of_le HGSQ.out HUQ.out.size, HNE.out.2⟩
      have UV : Hid (u.cell? ⟨gt, 0, none⟩ = some (.slice (some ⟨gs, so, none⟩) SN co)) := Lib.hid ((HUQ.out.cell (p := ⟨gt, 0, none⟩) HGT.out).trans CV.out)
      have UK : Hid (u.cell? ⟨gs, so + kk, none⟩ = some (.slice (some ⟨rk, ro, none⟩) sl rc)) := Lib.hid ((HUQ.out.cell (p := ⟨gs, so + kk, none⟩) HGSQ.out).trans CK.out)
      have UF : Hid (u.frozen? ⟨gs, so + kk, none⟩ = false) := Lib.hid (((Kept.of_below (fun _ => False) HUQ.out).frozen (p := ⟨gs, so + kk, none⟩) HGSQ.out (fun h => h)).trans FK.out)
      have HYSQ := HYS
      have HYS : Hid (Rw u 32 (some rk) (.slice (some ⟨rk, ro, none⟩) sl rc) sl ys) := Lib.hid (HYSQ.out.kept (Kept.of_below (fun _ => False) HUQ.out) (fun _ _ h => h))
      have HRK : Hid (rk < u.heap.size) := Lib.hid (Nat.lt_of_lt_of_le HRKQ.out HUQ.out.size)
      refine Roll.region_v 15 44 Dtw3 Ltw3 [(0, .pointer (some ⟨gt, 0, none⟩)), (7, .int .i64 (kk : Int)), (8, .slice a2 64 c2)] 14 [true, true, true, true, true, true, true, true, true, true, true, true, true, false, false] (fun p => Below u.heap.size u p) (fun vv p => ∃ r8 o8 c8, vv = .slice (some ⟨r8, o8, none⟩) (sl + 1) c8 ∧ Rw p 32 (some r8) (.slice (some ⟨r8, o8, none⟩) (sl + 1) c8) (sl + 1) (ys ++ [.slice a2 64 c2]) ∧ (r8 = rk ∨ u.heap.size ≤ r8) ∧ Kept (fun j => j = rk) u p) (fun p => Kept (fun j => j = rk) u p) (fun p p2 => Kept (fun j => j = rk) p p2) [fun vv p => (vv 0) = .pointer (some ⟨gt, 0, none⟩), fun vv p => (vv 1) = .pointer (some ⟨gt, 0, none⟩), fun vv p => (vv 2) = .pointer (some ⟨gt, 0, none⟩), fun vv p => (vv 3) = .slice (some ⟨gs, so, none⟩) SN co, fun vv p => (vv 4) = .int .i64 (kk : Int), fun vv p => (vv 5) = .pointer (some ⟨gt, 0, none⟩), fun vv p => (vv 6) = .pointer (some ⟨gt, 0, none⟩), fun vv p => (vv 7) = .pointer (some ⟨gt, 0, none⟩), fun vv p => (vv 8) = .slice (some ⟨gs, so, none⟩) SN co, fun vv p => (vv 9) = .int .i64 (kk : Int), fun vv p => (vv 10) = .pointer (some ⟨gs, so + kk, none⟩), fun vv p => (vv 11) = .slice (some ⟨rk, ro, none⟩) sl rc, fun vv p => (vv 12) = .slice a2 64 c2, fun vv p => ∃ s, (vv 13) = .slice (some ⟨s, 0, none⟩) 1 1 ∧ u.heap.size ≤ s ∧ p.heap[s]? = some (.cells #[.slice a2 64 c2] 32 (0, 0)), fun vv p => True] (by kernel_rfl) (by kernel_rfl) rfl ⟨rfl, rfl, rfl, trivial⟩ ((Below.refl _ _).drew) (by decide) (by kernel_rfl) (fun _ h => Kept.of_below _ h) (fun _ _ h => by obtain ⟨_, _, _, _, _, _, h⟩ := h; exact h) (fun _ => Kept.refl _ _) ?_ ?_ ?_
      · exact ⟨fun _ _ _ _ h => h, fun _ _ _ _ h => h, fun _ _ _ _ h => h, fun _ _ _ _ h => h, fun _ _ _ _ h => h, fun _ _ _ _ h => h, fun _ _ _ _ h => h, fun _ _ _ _ h => h, fun _ _ _ _ h => h, fun _ _ _ _ h => h, fun _ _ _ _ h => h, fun _ _ _ _ h => h, fun _ _ _ _ h => h, fun _ _ _ hs h => by obtain ⟨s, e1, e2, e3⟩ := h; exact ⟨s, e1, e2, hs.heap e3 (fun e => by have := HRK.out; omega)⟩, fun _ _ _ _ h => h, trivial⟩
      · intro b0 hN hlv
        refine ⟨?_, ?_, ?_, ?_, ?_, ?_, ?_, ?_, ?_, ?_, ?_, ?_, ?_, ?_, ?_, trivial⟩
        · intro vu p hI0 hp
          have hI := Roll.inw_pure (by decide) rfl hI0
          clear hI0
          have e0 : (Roll.putD Dtw3 vu [] b0).eval (.tmp 0) = .pointer (some ⟨gt, 0, none⟩) := (Roll.eval_old rfl).trans (hlv.at 0 (0, .pointer (some ⟨gt, 0, none⟩)) rfl)
          clear hp hlv hN
          unfold Roll.Goes
          simp only [Ltw3, List.getD_cons_zero, List.getD_cons_succ]
          generalize Roll.putD Dtw3 vu [] b0 = a1 at *
          refine Roll.goes_val (w' := p) (.pointer (some ⟨gt, 0, none⟩)) rfl ?_ ⟨(Roll.outw_pure (by decide) rfl), rfl⟩
          (have ec : ∀ x, a1.eval (.const x) = x := fun _ => rfl); (have ef : ∀ x, a1.eval (.func x) = .func (.func x) #[] #[] := fun _ => rfl); generalize a1.eval = ρ at *
          skip
          go_simp <;> (intros; first | (exfalso; omega) | rfl)
        · intro vu p hI0 hp
          have hI := Roll.inw_pure (by decide) rfl hI0
          clear hI0
          have h0 : (vu 0) = .pointer (some ⟨gt, 0, none⟩) := hp 0 (by simp [Ltw3])
          have e23 : (Roll.putD Dtw3 vu [0] b0).eval (.tmp 23) = .pointer (some ⟨gt, 0, none⟩) := (Roll.eval_new 0 rfl (by decide) (by decide) (by omega)).trans h0
          clear hp hlv hN
          unfold Roll.Goes
          simp only [Ltw3, List.getD_cons_zero, List.getD_cons_succ]
          generalize Roll.putD Dtw3 vu [0] b0 = a1 at *
          refine Roll.goes_val (w' := p) (.pointer (some ⟨gt, 0, none⟩)) rfl ?_ ⟨(Roll.outw_pure (by decide) rfl), rfl⟩
          (have ec : ∀ x, a1.eval (.const x) = x := fun _ => rfl); (have ef : ∀ x, a1.eval (.func x) = .func (.func x) #[] #[] := fun _ => rfl); generalize a1.eval = ρ at *
          clear h0
          go_simp <;> (intros; first | (exfalso; omega) | rfl)
        · intro vu p hI0 hp
          have hI := Roll.inw_pure (by decide) rfl hI0
          clear hI0
          have h1 : (vu 1) = .pointer (some ⟨gt, 0, none⟩) := hp 1 (by simp [Ltw3])
          have e24 : (Roll.putD Dtw3 vu [1] b0).eval (.tmp 24) = .pointer (some ⟨gt, 0, none⟩) := (Roll.eval_new 1 rfl (by decide) (by decide) (by omega)).trans h1
          clear hp hlv hN
          unfold Roll.Goes
          simp only [Ltw3, List.getD_cons_zero, List.getD_cons_succ]
          generalize Roll.putD Dtw3 vu [1] b0 = a1 at *
          refine Roll.goes_val (w' := p) (.pointer (some ⟨gt, 0, none⟩)) rfl ?_ ⟨(Roll.outw_pure (by decide) rfl), rfl⟩
          (have ec : ∀ x, a1.eval (.const x) = x := fun _ => rfl); (have ef : ∀ x, a1.eval (.func x) = .func (.func x) #[] #[] := fun _ => rfl); generalize a1.eval = ρ at *
          clear h1
          go_simp <;> (intros; first | (exfalso; omega) | rfl)
        · intro vu p hI0 hp
          have hI := Roll.inw_pure (by decide) rfl hI0
          clear hI0
          have h2 : (vu 2) = .pointer (some ⟨gt, 0, none⟩) := hp 2 (by simp [Ltw3])
          have e25 : (Roll.putD Dtw3 vu [2] b0).eval (.tmp 25) = .pointer (some ⟨gt, 0, none⟩) := (Roll.eval_new 2 rfl (by decide) (by decide) (by omega)).trans h2
          clear hp hlv hN
          unfold Roll.Goes
          simp only [Ltw3, List.getD_cons_zero, List.getD_cons_succ]
          generalize Roll.putD Dtw3 vu [2] b0 = a1 at *
          have cf : p.cell? ⟨gt, 0, none⟩ = some (.slice (some ⟨gs, so, none⟩) SN co) := (hI.cell (p := ⟨gt, 0, none⟩) UGT.out.1 UGT.out.2).trans UV.out
          refine Roll.goes_val (w' := p) (.slice (some ⟨gs, so, none⟩) SN co) rfl ?_ ⟨(Roll.outw_pure (by decide) rfl), rfl⟩
          (have ec : ∀ x, a1.eval (.const x) = x := fun _ => rfl); (have ef : ∀ x, a1.eval (.func x) = .func (.func x) #[] #[] := fun _ => rfl); generalize a1.eval = ρ at *
          clear h2
          go_simp <;> (intros; first | (exfalso; omega) | rfl)
        · intro vu p hI0 hp
          have hI := Roll.inw_pure (by decide) rfl hI0
          clear hI0
          have e7 : (Roll.putD Dtw3 vu [] b0).eval (.tmp 7) = .int .i64 (kk : Int) := (Roll.eval_old rfl).trans (hlv.at 1 (7, .int .i64 (kk : Int)) rfl)
          clear hp hlv hN
          unfold Roll.Goes
          simp only [Ltw3, List.getD_cons_zero, List.getD_cons_succ]
          generalize Roll.putD Dtw3 vu [] b0 = a1 at *
          refine Roll.goes_val (w' := p) (.int .i64 (kk : Int)) rfl ?_ ⟨(Roll.outw_pure (by decide) rfl), rfl⟩
          (have ec : ∀ x, a1.eval (.const x) = x := fun _ => rfl); (have ef : ∀ x, a1.eval (.func x) = .func (.func x) #[] #[] := fun _ => rfl); generalize a1.eval = ρ at *
          skip
          go_simp <;> (intros; first | (exfalso; omega) | rfl)
        · intro vu p hI0 hp
          have hI := Roll.inw_pure (by decide) rfl hI0
          clear hI0
          have e0 : (Roll.putD Dtw3 vu [] b0).eval (.tmp 0) = .pointer (some ⟨gt, 0, none⟩) := (Roll.eval_old rfl).trans (hlv.at 0 (0, .pointer (some ⟨gt, 0, none⟩)) rfl)
          clear hp hlv hN
          unfold Roll.Goes
          simp only [Ltw3, List.getD_cons_zero, List.getD_cons_succ]
          generalize Roll.putD Dtw3 vu [] b0 = a1 at *
          refine Roll.goes_val (w' := p) (.pointer (some ⟨gt, 0, none⟩)) rfl ?_ ⟨(Roll.outw_pure (by decide) rfl), rfl⟩
          (have ec : ∀ x, a1.eval (.const x) = x := fun _ => rfl); (have ef : ∀ x, a1.eval (.func x) = .func (.func x) #[] #[] := fun _ => rfl); generalize a1.eval = ρ at *
          skip
          go_simp <;> (intros; first | (exfalso; omega) | rfl)
        · intro vu p hI0 hp
          have hI := Roll.inw_pure (by decide) rfl hI0
          clear hI0
          have h5 : (vu 5) = .pointer (some ⟨gt, 0, none⟩) := hp 5 (by simp [Ltw3])
          have e28 : (Roll.putD Dtw3 vu [5] b0).eval (.tmp 28) = .pointer (some ⟨gt, 0, none⟩) := (Roll.eval_new 5 rfl (by decide) (by decide) (by omega)).trans h5
          clear hp hlv hN
          unfold Roll.Goes
          simp only [Ltw3, List.getD_cons_zero, List.getD_cons_succ]
          generalize Roll.putD Dtw3 vu [5] b0 = a1 at *
          refine Roll.goes_val (w' := p) (.pointer (some ⟨gt, 0, none⟩)) rfl ?_ ⟨(Roll.outw_pure (by decide) rfl), rfl⟩
          (have ec : ∀ x, a1.eval (.const x) = x := fun _ => rfl); (have ef : ∀ x, a1.eval (.func x) = .func (.func x) #[] #[] := fun _ => rfl); generalize a1.eval = ρ at *
          clear h5
          go_simp <;> (intros; first | (exfalso; omega) | rfl)
        · intro vu p hI0 hp
          have hI := Roll.inw_pure (by decide) rfl hI0
          clear hI0
          have h6 : (vu 6) = .pointer (some ⟨gt, 0, none⟩) := hp 6 (by simp [Ltw3])
          have e29 : (Roll.putD Dtw3 vu [6] b0).eval (.tmp 29) = .pointer (some ⟨gt, 0, none⟩) := (Roll.eval_new 6 rfl (by decide) (by decide) (by omega)).trans h6
          clear hp hlv hN
          unfold Roll.Goes
          simp only [Ltw3, List.getD_cons_zero, List.getD_cons_succ]
          generalize Roll.putD Dtw3 vu [6] b0 = a1 at *
          refine Roll.goes_val (w' := p) (.pointer (some ⟨gt, 0, none⟩)) rfl ?_ ⟨(Roll.outw_pure (by decide) rfl), rfl⟩
          (have ec : ∀ x, a1.eval (.const x) = x := fun _ => rfl); (have ef : ∀ x, a1.eval (.func x) = .func (.func x) #[] #[] := fun _ => rfl); generalize a1.eval = ρ at *
          clear h6
          go_simp <;> (intros; first | (exfalso; omega) | rfl)
        · intro vu p hI0 hp
          have hI := Roll.inw_pure (by decide) rfl hI0
          clear hI0
          have h7 : (vu 7) = .pointer (some ⟨gt, 0, none⟩) := hp 7 (by simp [Ltw3])
          have e30 : (Roll.putD Dtw3 vu [7] b0).eval (.tmp 30) = .pointer (some ⟨gt, 0, none⟩) := (Roll.eval_new 7 rfl (by decide) (by decide) (by omega)).trans h7
          clear hp hlv hN
          unfold Roll.Goes
          simp only [Ltw3, List.getD_cons_zero, List.getD_cons_succ]
          generalize Roll.putD Dtw3 vu [7] b0 = a1 at *
          have cf : p.cell? ⟨gt, 0, none⟩ = some (.slice (some ⟨gs, so, none⟩) SN co) := (hI.cell (p := ⟨gt, 0, none⟩) UGT.out.1 UGT.out.2).trans UV.out
          refine Roll.goes_val (w' := p) (.slice (some ⟨gs, so, none⟩) SN co) rfl ?_ ⟨(Roll.outw_pure (by decide) rfl), rfl⟩
          (have ec : ∀ x, a1.eval (.const x) = x := fun _ => rfl); (have ef : ∀ x, a1.eval (.func x) = .func (.func x) #[] #[] := fun _ => rfl); generalize a1.eval = ρ at *
          clear h7
          go_simp <;> (intros; first | (exfalso; omega) | rfl)
        · intro vu p hI0 hp
          have hI := Roll.inw_pure (by decide) rfl hI0
          clear hI0
          have e7 : (Roll.putD Dtw3 vu [] b0).eval (.tmp 7) = .int .i64 (kk : Int) := (Roll.eval_old rfl).trans (hlv.at 1 (7, .int .i64 (kk : Int)) rfl)
          clear hp hlv hN
          unfold Roll.Goes
          simp only [Ltw3, List.getD_cons_zero, List.getD_cons_succ]
          generalize Roll.putD Dtw3 vu [] b0 = a1 at *
          refine Roll.goes_val (w' := p) (.int .i64 (kk : Int)) rfl ?_ ⟨(Roll.outw_pure (by decide) rfl), rfl⟩
          (have ec : ∀ x, a1.eval (.const x) = x := fun _ => rfl); (have ef : ∀ x, a1.eval (.func x) = .func (.func x) #[] #[] := fun _ => rfl); generalize a1.eval = ρ at *
          skip
          go_simp <;> (intros; first | (exfalso; omega) | rfl)
        · intro vu p hI0 hp
          have hI := Roll.inw_pure (by decide) rfl hI0
          clear hI0
          have h8 : (vu 8) = .slice (some ⟨gs, so, none⟩) SN co := hp 8 (by simp [Ltw3])
          have h9 : (vu 9) = .int .i64 (kk : Int) := hp 9 (by simp [Ltw3])
          have e31 : (Roll.putD Dtw3 vu [8, 9] b0).eval (.tmp 31) = .slice (some ⟨gs, so, none⟩) SN co := (Roll.eval_new 8 rfl (by decide) (by decide) (by omega)).trans h8
          have e32 : (Roll.putD Dtw3 vu [8, 9] b0).eval (.tmp 32) = .int .i64 (kk : Int) := (Roll.eval_new 9 rfl (by decide) (by decide) (by omega)).trans h9
          clear hp hlv hN
          unfold Roll.Goes
          simp only [Ltw3, List.getD_cons_zero, List.getD_cons_succ]
          generalize Roll.putD Dtw3 vu [8, 9] b0 = a1 at *
          have hkn := HKN.out
          have hco := HCO.out
          refine Roll.goes_val (w' := p) (.pointer (some ⟨gs, so + kk, none⟩)) rfl ?_ ⟨(Roll.outw_pure (by decide) rfl), rfl⟩
          (have ec : ∀ x, a1.eval (.const x) = x := fun _ => rfl); (have ef : ∀ x, a1.eval (.func x) = .func (.func x) #[] #[] := fun _ => rfl); generalize a1.eval = ρ at *
          clear h8 h9
          go_simp <;> (intros; first | (exfalso; omega) | rfl)
        · intro vu p hI0 hp
          have hI := Roll.inw_pure (by decide) rfl hI0
          clear hI0
          have h10 : (vu 10) = .pointer (some ⟨gs, so + kk, none⟩) := hp 10 (by simp [Ltw3])
          have e33 : (Roll.putD Dtw3 vu [10] b0).eval (.tmp 33) = .pointer (some ⟨gs, so + kk, none⟩) := (Roll.eval_new 10 rfl (by decide) (by decide) (by omega)).trans h10
          clear hp hlv hN
          unfold Roll.Goes
          simp only [Ltw3, List.getD_cons_zero, List.getD_cons_succ]
          generalize Roll.putD Dtw3 vu [10] b0 = a1 at *
          have cf : p.cell? ⟨gs, so + kk, none⟩ = some (.slice (some ⟨rk, ro, none⟩) sl rc) := (hI.cell (p := ⟨gs, so + kk, none⟩) UGS.out.1 UGS.out.2).trans UK.out
          refine Roll.goes_val (w' := p) (.slice (some ⟨rk, ro, none⟩) sl rc) rfl ?_ ⟨(Roll.outw_pure (by decide) rfl), rfl⟩
          (have ec : ∀ x, a1.eval (.const x) = x := fun _ => rfl); (have ef : ∀ x, a1.eval (.func x) = .func (.func x) #[] #[] := fun _ => rfl); generalize a1.eval = ρ at *
          clear h10
          go_simp <;> (intros; first | (exfalso; omega) | rfl)
        · intro vu p hI0 hp
          have hI := Roll.inw_pure (by decide) rfl hI0
          clear hI0
          have e8 : (Roll.putD Dtw3 vu [] b0).eval (.tmp 8) = .slice a2 64 c2 := (Roll.eval_old rfl).trans (hlv.at 2 (8, .slice a2 64 c2) rfl)
          clear hp hlv hN
          unfold Roll.Goes
          simp only [Ltw3, List.getD_cons_zero, List.getD_cons_succ]
          generalize Roll.putD Dtw3 vu [] b0 = a1 at *
          refine Roll.goes_val (w' := p) (.slice a2 64 c2) rfl ?_ ⟨(Roll.outw_pure (by decide) rfl), rfl⟩
          (have ec : ∀ x, a1.eval (.const x) = x := fun _ => rfl); (have ef : ∀ x, a1.eval (.func x) = .func (.func x) #[] #[] := fun _ => rfl); generalize a1.eval = ρ at *
          skip
          go_simp <;> (intros; first | (exfalso; omega) | rfl)
        · intro vu p hI0 hp
          have hI := Roll.inw_pre (by decide) rfl hI0
          clear hI0
          have h12 : (vu 12) = .slice a2 64 c2 := hp 12 (by simp [Ltw3])
          have e35 : (Roll.putD Dtw3 vu [12] b0).eval (.tmp 35) = .slice a2 64 c2 := (Roll.eval_new 12 rfl (by decide) (by decide) (by omega)).trans h12
          clear hp hlv hN
          unfold Roll.Goes
          simp only [Ltw3, List.getD_cons_zero, List.getD_cons_succ]
          generalize Roll.putD Dtw3 vu [12] b0 = a1 at *
          have hal : Below p.heap.size p (p.alloc (.cells #[.slice a2 64 c2] 32)) := (Below.refl _ _).alloc (Nat.le_refl _) _
          refine Roll.goes_val (w' := p.alloc (.cells #[.slice a2 64 c2] 32)) (.slice (some ⟨p.heap.size, 0, none⟩) 1 1) rfl (by have ec : ∀ x, a1.eval (.const x) = x := fun _ => rfl; have ef : ∀ x, a1.eval (.func x) = .func (.func x) #[] #[] := fun _ => rfl; have hbs := run_bs56; generalize a1.eval = ρ at *; go_simp) ⟨Roll.outw_pre (by decide) rfl (hI.trans (hal.mono hI.size)) (Kept.of_below _ hal), p.heap.size, rfl, hI.size, heap_new rfl⟩
        · intro vu p hI0 hp
          have hI := Roll.inw_k0 rfl hI0
          clear hI0
          have h11 : (vu 11) = .slice (some ⟨rk, ro, none⟩) sl rc := hp 11 (by simp [Ltw3])
          have h13 : ∃ s, (vu 13) = .slice (some ⟨s, 0, none⟩) 1 1 ∧ u.heap.size ≤ s ∧ p.heap[s]? = some (.cells #[.slice a2 64 c2] 32 (0, 0)) := hp 13 (by simp [Ltw3])
          have e34 : (Roll.putD Dtw3 vu [11, 13] b0).eval (.tmp 34) = .slice (some ⟨rk, ro, none⟩) sl rc := (Roll.eval_new 11 rfl (by decide) (by decide) (by omega)).trans h11
          have e36 : (Roll.putD Dtw3 vu [11, 13] b0).eval (.tmp 36) = vu 13 := (Roll.eval_new 13 rfl (by decide) (by decide) (by omega))
          clear hp hlv hN
          unfold Roll.Goes
          simp only [Ltw3, List.getD_cons_zero, List.getD_cons_succ]
          generalize Roll.putD Dtw3 vu [11, 13] b0 = a1 at *
          obtain ⟨s3, hv3, hsq, hhs⟩ := h13
          rw [hv3] at e36
          obtain ⟨i0, ji, jz0, jz1, jz2⟩ := info_parts info32
          refine goes_append_rw rfl (.tmp 34) (.tmp 36) 56 56 rfl 32 i0 (.slice none 0 0) 24 Try.underlying56 ji jz0 jz1 jz2 rfl (some rk) _ sl ys e34 (HYS.out.kept (Kept.of_below (fun _ => False) hI) (fun _ _ h => h)) _ e36 1 [.slice a2 64 c2] (src_one Try.underlying56 hhs) (by have := HSLB.out; unfold maxLen; omega) (by have := HSLB.out; omega) ?_
          intro k' v' w' g1 g2 g3
          obtain ⟨r8, o8, c8, rfl, rfl, _, _, _, _⟩ := g1.at (by omega)
          exact ⟨Roll.outw_k0 rfl ⟨r8, o8, c8, rfl, g1, (g2 r8 rfl).imp (fun e => (Option.some.inj e).symm) (fun e => Nat.le_trans hI.size e), (Kept.of_below (fun j => j = rk) hI).trans (g3.mono (fun j _ h => (Option.some.inj h).symm)) (fun _ _ h => h)⟩ (g3.mono (fun j _ h => (Option.some.inj h).symm)), trivial⟩
      · intro vu p hI hR
        have h0 : (vu 0) = .pointer (some ⟨gt, 0, none⟩) := hR 0 (by omega)
        have h1 : (vu 1) = .pointer (some ⟨gt, 0, none⟩) := hR 1 (by omega)
        have h2 : (vu 2) = .pointer (some ⟨gt, 0, none⟩) := hR 2 (by omega)
        have h3 : (vu 3) = .slice (some ⟨gs, so, none⟩) SN co := hR 3 (by omega)
        have h4 : (vu 4) = .int .i64 (kk : Int) := hR 4 (by omega)
        have h5 : (vu 5) = .pointer (some ⟨gt, 0, none⟩) := hR 5 (by omega)
        have h6 : (vu 6) = .pointer (some ⟨gt, 0, none⟩) := hR 6 (by omega)
        have h7 : (vu 7) = .pointer (some ⟨gt, 0, none⟩) := hR 7 (by omega)
        have h8 : (vu 8) = .slice (some ⟨gs, so, none⟩) SN co := hR 8 (by omega)
        have h9 : (vu 9) = .int .i64 (kk : Int) := hR 9 (by omega)
        have h10 : (vu 10) = .pointer (some ⟨gs, so + kk, none⟩) := hR 10 (by omega)
        have h11 : (vu 11) = .slice (some ⟨rk, ro, none⟩) sl rc := hR 11 (by omega)
        have h12 : (vu 12) = .slice a2 64 c2 := hR 12 (by omega)
        have h13 : ∃ s, (vu 13) = .slice (some ⟨s, 0, none⟩) 1 1 ∧ u.heap.size ≤ s ∧ p.heap[s]? = some (.cells #[.slice a2 64 c2] 32 (0, 0)) := hR 13 (by omega)
        have h14 : True := hR 14 (by omega)
        clear hR
        simp only [List.range_succ, List.range_zero, List.nil_append, List.cons_append, Roll.putD, Act.put, List.getD_cons_zero, List.getD_cons_succ, List.setIfInBounds_toArray, List.set_cons_zero, List.set_cons_succ, List.drop_succ_cons, List.drop_zero, Dtw3]
        simp only [h0, h1, h2, h3, h4, h5, h6, h7, h8, h9, h10, h11, h12]
        clear h0 h1 h2 h3 h4 h5 h6 h7 h8 h9 h10 h11 h12
        generalize vu 14 = v14 at *
        obtain ⟨r8, o8, c8, rfl, g1, g2, gK⟩ := hI
        clear h13 h14
        have hgs8 : ¬ gs = rk := UGS.out.2
        have cV2 : p.cell? ⟨gs, so + kk, none⟩ = some (.slice (some ⟨rk, ro, none⟩) sl rc) := (gK.cell (p := ⟨gs, so + kk, none⟩) UGS.out.1 UGS.out.2).trans UK.out
        have fV2 : p.frozen? ⟨gs, so + kk, none⟩ = false := (gK.frozen (p := ⟨gs, so + kk, none⟩) UGS.out.1 UGS.out.2).trans UF.out
        obtain ⟨P2, hP2⟩ : ∃ P2, P2 = p.setCell ⟨gs, so + kk, none⟩ (.slice (some ⟨r8, o8, none⟩) (sl + 1) c8) := ⟨_, rfl⟩
        have HP : Hid (Lv w0 P2 (trackO 55 [] gt (S.set kk (sk ++ [l2])) :: diskO g d :: L0) ∧ Bs (fun x => q.heap.size ≤ x ∧ x < u.heap.size) P2 a2 64 c2 l2) := Lib.hid (by
          have hT := HT.out
          have hUQ := HUQ.out
          have hks : Kept (fun j => j = gs) p P2 := by rw [hP2]; exact (Kept.refl (fun j => j = gs) p).setCell (fun _ => rfl) _
          have hku : Kept (fun j => j = rk ∨ j = gs) u P2 := (gK.mono (fun _ _ h => .inl h)).trans hks (fun _ _ h => .inr h)
          have hkq : Kept (fun j => j = rk ∨ j = gs) q P2 := (Kept.of_below _ hUQ).trans hku (fun _ _ h => h)
          have hrq : rk < q.heap.size := HRKQ.out
          have hgq : gs < q.heap.size := HGSQ.out
          have hb2 : Bs (fun x => q.heap.size ≤ x ∧ x < u.heap.size) P2 a2 64 c2 l2 := HB2.out.kept hku (fun x hx hd e => by rcases e with e | e <;> omega)
          refine ⟨?_, hb2⟩
          have hsz : u.heap.size ≤ P2.heap.size := hku.size
          have hrs : r8 ≠ gs := by
            rcases g2 with e | e
            · rw [e]; exact fun e2 => hgs8 e2.symm
            · have := hUQ.size; omega
          have hr8l : r8 < P2.heap.size := Nat.lt_of_lt_of_le (g1.lt r8 rfl) hks.size
          have hin : InR P2 (fun x => Bf x ∨ (q.heap.size ≤ x ∧ x < u.heap.size)) r8 (.slice (some ⟨r8, o8, none⟩) (sl + 1) c8) (sk ++ [l2]) := by
            refine inR_snoc (ys := ys) (by rw [HSL8.out]; exact g1.kept hks (fun j hj e => hrs ((Option.some.inj hj).trans e))) (by rw [HSL8.out]; exact HYS.out.1) (fun j hj => ?_) (hb2.dom (fun x hx => .inr hx))
            obtain ⟨a, c, e1, e2⟩ := HYJ.out j hj
            exact ⟨a, c, e1, (e2.kept hkq (fun x _ hx e => by rcases e with rfl | rfl; exact HBR.out hx; exact hT.bf.2.1 _ rfl hx)).dom (fun x hx => .inl hx)⟩
          have hp := hT.put (k := kk) HKS.out (w' := P2) (r' := r8) (v' := .slice (some ⟨r8, o8, none⟩) (sl + 1) c8) (s' := sk ++ [l2]) (Bf' := fun x => Bf x ∨ (q.heap.size ≤ x ∧ x < u.heap.size))
            (hkq.mono (fun j _ h => h.imp (fun e => e.trans HRR.out.symm) (fun e => by rw [e]))) (fun xs hx => by
              rw [hP2]
              rw [HSN.out] at hx ⊢
              exact (hx.kept ((Kept.of_below _ hUQ).trans gK (fun _ _ h => h)) (fun j hj e => hgs8 ((Option.some.inj hj).trans e))).set kk HKN.out _)
            hin (g2.imp (fun e => e.trans HRR.out.symm) (fun e => Nat.le_trans hUQ.size e)) (fun x hx => .inl hx) (fun x hx => hx.imp id (fun hx => ⟨hx.1, by
              rcases g2 with e | e
              · omega
              · omega⟩)) (fun x hx => by
              rcases hx with hx | hx
              · have := hT.lt x hx; have := hUQ.size; omega
              · omega)
          have hset := HSET.out P2 (trackO 55 [] gt (S.set kk (sk ++ [l2]))) (fun x => TBlk gt (some gs) (fun i => if i = kk then r8 else row i) (fun x => Bf x ∨ (q.heap.size ≤ x ∧ x < u.heap.size)) S.length x) ⟨_, _, _, _, hp, fun x hx => by rw [List.length_set] at hx; exact hx⟩
            (hkq.mono (fun j _ h => HTB.out j (by rcases h with e | e; exact .inr (.inr (.inl ⟨kk, HKS.out, HRR.out.trans e.symm⟩)); exact .inr (.inl (by rw [e])))))
            (fun j hj => (TBlk.put (z := q.heap.size) HKS.out (g2.imp (fun e => e.trans HRR.out.symm) (fun e => Nat.le_trans hUQ.size e)) (fun x hx => hx.imp id (fun hx => ⟨hx.1, by
              rcases g2 with e | e
              · omega
              · omega⟩)) j hj).imp (HTB.out j) id) (fun j hj => hp.blk_lt j (by rw [List.length_set]; exact hj))
          exact hset)
        have HP2 := Lib.hid hP2
        clear g1 g2 gK hP2
        go_upto_region 4 with fail
        rw [← HP2.out]
        go_wp2_with (first
          | (have hL := HP.out.1; go_at_call 31; refine (write_lv hL (i := 1) (d := d) rfl HP.out.2 kk HKD.out HON.out HOK.out).mono ?_; rintro e w9 ⟨rfl, hl⟩; have HL9 := Lib.hid hl; clear hl hL))
        go_ret
        refine ⟨kk, l2, HKS.out, rfl, Hl2.out, ?_⟩
        rw [← HSK.out]
        exact HL9.out
end Go.Proofs.Ytbnodhcgdgcebaa

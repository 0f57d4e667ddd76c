/-
  The reference's Restart.
-/
import Derived.Test.YtbnodhcgdgcebaaYE
namespace Go.Proofs.Ytbnodhcgdgcebaa
open Go.RowKit
set_option linter.unusedSimpArgs false
set_option linter.unusedVariables false
def Drr10 : List (Option Tmp) := [some 47, some 48, some 49, some 50, some 51, some 52, some 53, some 54, some 55, some 56, some 57, some 58, some 59, some 60, none]
def Lrr10 : List (List Nat) := [[], [0], [1], [2], [], [], [5], [6], [7], [], [8, 9], [10], [11], [3, 4], [13, 12]]
def Drr11 : List (Option Tmp) := [some 61, some 62, some 63, some 64, some 65, some 66, some 67, some 68, some 69, some 70, some 71, some 72, some 73, some 74, some 75, some 76, some 77, some 78, some 79, some 80, some 81, some 82, some 83, some 84, some 85, none]
def Lrr11 : List (List Nat) := [[], [0], [1], [2], [], [], [5], [6], [7], [], [8, 9], [10], [], [], [12, 13], [14], [15], [], [], [17, 18], [19], [20], [11, 16, 21], [22], [3, 4], [24, 23]]
/-- a disk of which the first k sectors have been restarted -/
def dR (d : DM) (ts : List TM) (k : Nat) : DM := ⟨mixR (d.restart ts).S d.S k, d.on, d.fuse⟩
theorem firstOf_app (a b : List TM) (k : Nat) : firstOf (a ++ b) k = (firstOf a k).or (firstOf b k) := by unfold firstOf; exact List.find?_append
theorem firstOf_take_some {ts : List TM} {j k : Nat} {t : TM} (h : firstOf (ts.take j) k = some t) : firstOf ts k = some t := by
  rw [← List.take_append_drop j ts, firstOf_app, h]; rfl
theorem firstOf_single (t : TM) (k : Nat) : firstOf [t] k = if t.sector = (k : Int) then some t else none := by
  unfold firstOf
  by_cases h : t.sector = (k : Int)
  · simp [h]
  · simp [h]
theorem inR_cut {w : World} {Bf : Nat → Prop} {rk ro sl rc : Nat} {sk : List (List UInt8)} (h : InR w Bf rk (.slice (some ⟨rk, ro, none⟩) sl rc) sk) (hl : sk.length = sl) (hp : 0 < sl) : InR w Bf rk (.slice (some ⟨rk, ro, none⟩) 1 rc) [dur sk] := by
  obtain ⟨ys, h1, h2⟩ := h
  rw [hl] at h1
  refine ⟨ys.take 1, h1.upto 1 hp, fun j hj => ?_⟩
  obtain rfl : j = 0 := by simp at hj; exact hj
  obtain ⟨a, c, e1, e2⟩ := h2 0 (by omega)
  refine ⟨a, c, by rw [List.getElem?_take, if_pos (by omega)]; exact e1, ?_⟩
  have e3 : [dur sk][0] = sk[0]'(by omega) := by
    cases sk with
    | nil => simp at hl; omega
    | cons x r => rfl
  rw [e3]; exact e2
theorem mixR_mem (S1 S : List (List (List UInt8))) (k : Nat) (h1 : ∀ s ∈ S1, s ≠ [] ∧ s.length ≤ 100001) (h : ∀ s ∈ S, s ≠ [] ∧ s.length ≤ 100001) : ∀ s ∈ mixR S1 S k, s ≠ [] ∧ s.length ≤ 100001 := by
  intro s hs
  rcases List.mem_append.1 hs with hs | hs
  · exact h1 s (List.mem_of_mem_take hs)
  · exact h s (List.mem_of_mem_drop hs)
set_option maxRecDepth 100000 in
set_option maxHeartbeats 8000000 in
theorem rrestart_lv {w0 w : World} {L : List Obj} {i0 g : Nat} {d : DM} (h : Lv w0 w L) (hi : L[i0]? = some (refO g d)) (hok : d.Ok 100000) (ta : Option Addr) (tn tc : Nat) (ts : List TM) (hTS : Ts (fun b => b < w0.heap.size) w0 ta tn tc ts) :
    Calls Try.prog 50 #[.pointer (some ⟨g, 0, none⟩), .slice ta tn tc] w fun e w' => e = .returned (.tuple #[]) ∧ Lv w0 w' (L.set i0 (refO g (d.restart ts))) := by
  have HIL : Hid (i0 < L.length) := Lib.hid (List.getElem?_eq_some_iff.1 hi).1
  have HL0 : Hid (Lv w0 w (L.set i0 (refO g (dR d ts 0)))) := Lib.hid (by
    have e : dR d ts 0 = d := by unfold dR mixR; simp
    rw [e, set_self hi]; exact h)
  obtain ⟨SN, hSN⟩ : ∃ SN, d.S.length = SN := ⟨_, rfl⟩
  have HSN0 := Lib.hid hSN
  have HSR0 : Hid ((d.restart ts).S.length = SN) := Lib.hid (by rw [restart_len]; exact hSN)
  have hsn1 : 0 < SN := by rw [← hSN]; exact hok.1
  have hsn2 : SN ≤ 4096 := by rw [← hSN]; exact hok.2.1
  have HN0 : Hid (∀ s ∈ d.S, s ≠ [] ∧ s.length ≤ 100001) := Lib.hid (fun s hs => ⟨(hok.2.2.2 s hs).1, (hok.2.2.2 s hs).2.1⟩)
  have HN1 : Hid (∀ s ∈ (d.restart ts).S, s ≠ [] ∧ s.length ≤ 100001) := Lib.hid (fun s hs => ⟨((DM.restart_ok hok ts).2.2.2 s hs).1, by have := ((DM.restart_ok hok ts).2.2.2 s hs).2.1; omega⟩)
  have HTS := Lib.hid hTS
  have htl : ts.length = tn := hTS.1
  have HTL := Lib.hid htl
  have htc : tn ≤ tc := hTS.2.1.2.1
  have htm : tc ≤ 9223372036854775807 := hTS.2.1.2.2.1
  clear h hi hSN hok hTS htl
  go_enter Try.func50, Try.ntmps50
  go_upto_region 1 with fail
  go_loopw [4] (fun t wr => ∃ k : Nat, k ≤ SN ∧ t = .int .i64 (k : Int) ∧ Lv w0 wr (L.set i0 (refO g (dR d ts k)))) (fun t _ => SN - (intOf t).toNat)
  case atStart => exact ⟨0, Nat.zero_le _, rfl, HL0.out⟩
  case round =>
    obtain ⟨k, hk, rfl, hL⟩ := hrel
    have HL := Lib.hid hL
    clear hL HL0
    rename World => u
    obtain ⟨dd, hdd⟩ : ∃ dd, dd = dR d ts k := ⟨_, rfl⟩
    have HSN : Hid (dd.S.length = SN) := Lib.hid (by rw [hdd]; exact (mixR_len _ d.S k (by rw [HSR0.out, HSN0.out]) (by rw [HSN0.out]; exact hk)).trans HSN0.out)
    have HNE0 : Hid (∀ s ∈ dd.S, s ≠ [] ∧ s.length ≤ 100001) := Lib.hid (by rw [hdd]; exact mixR_mem _ d.S k HN1.out HN0.out)
    rw [← hdd] at HL
    by_cases hlk : k < SN
    · have hlk2 : (k : Int) < (SN : Int) := by omega
      have hwk : IntKind.i64.wrap ((k : Int) + 1) = (k : Int) + 1 := i64_id _ (by omega) (by omega)
      have hk : k < dd.S.length := by rw [HSN.out]; exact hlk
      have HLI : Hid ((L.set i0 (refO g dd))[i0]? = some (refO g dd)) := Lib.hid (by rw [List.getElem?_set_self]; exact HIL.out)
      obtain ⟨B, ⟨gso, vo, row, Bf, hT, hTB⟩, hblt, _, hset⟩ := HL.out.get HLI.out
      have hsp : 0 < dd.S[k].length := List.length_pos_iff.2 (HNE0.out _ (List.getElem_mem hk)).1
      have hsb : dd.S[k].length ≤ 100001 := (HNE0.out _ (List.getElem_mem hk)).2
      obtain ⟨gs, so, co, ro, rc, rfl, rfl, f1, f2, f3, f4, f5, f6, f7, f8, f9⟩ := hT.look hk hsp
      obtain ⟨sk, hsk⟩ : ∃ sk, sk = dd.S[k]'hk := ⟨_, rfl⟩
      clear f9
      rw [← hsk] at f2 f7 f8 hsp hsb
      obtain ⟨rk, hrk⟩ : ∃ rk, row k = rk := ⟨_, rfl⟩
      obtain ⟨sl, hsl⟩ : ∃ sl, sk.length = sl := ⟨_, rfl⟩
      have hin0 := f8
      obtain ⟨ys, hys, hyj⟩ := f8
      rw [hrk, hsl] at f7
      rw [HSN.out] at f6 f1
      rw [hsl] at f2 hsp hsb
      rw [hrk] at f5 hys hin0
      rw [hsl] at hys
      have HSK : Hid (dd.S[k]? = some sk) := Lib.hid (by rw [List.getElem?_eq_getElem hk, hsk])
      have HIN0 := Lib.hid hin0
      have HT := Lib.hid hT
      have HTB := Lib.hid hTB
      have HSET := Lib.hid hset
      have HRR := Lib.hid hrk
      have HSL8 := Lib.hid hsl
      have HYS := Lib.hid hys
      have HYJ := Lib.hid hyj
      have HCO := Lib.hid f1
      have HRC := Lib.hid f2
      have HSLB := Lib.hid hsb
      have HSP := Lib.hid hsp
      have HKS := Lib.hid hk
      have HKN : Hid (k < SN) := Lib.hid hlk
      have HRK := Lib.hid f5
      have UV := Lib.hid f6
      have UK := Lib.hid f7
      have cV0 := f6
      have UGT : Hid (g < u.heap.size ∧ ¬ g = rk) := Lib.hid ⟨f3, fun e => (hT.ap2 k hk).1 (hrk.trans e.symm)⟩
      have UGS : Hid (gs < u.heap.size ∧ ¬ gs = rk) := Lib.hid ⟨f4, fun e => (hT.ap2 k hk).2 (by rw [e, hrk])⟩
      have HBR : Hid (¬ Bf rk) := Lib.hid (by rw [← hrk]; exact hT.bf.2.2 k hk)
      have HBGS : Hid (¬ Bf gs) := Lib.hid (hT.bf.2.1 gs rfl)
      have UF : Hid (∀ j, u.frozen? ⟨gs, j, none⟩ = false) := Lib.hid (by obtain ⟨xs, hx, _⟩ := hT.outer; exact hx.frozen)
      clear hT hTB hblt hset hsp hsb f1 f2 f3 f4 f5 f6 f7 hsk hrk hsl hys hyj hin0 hk
      have HDX : Hid (refX dd = refX (dR d ts (k + 1))) := Lib.hid (by rw [hdd]; rfl)
      have HKO : Hid (k < d.S.length) := Lib.hid (by rw [HSN0.out]; exact hlk)
      have HKR : Hid (k < (d.restart ts).S.length) := Lib.hid (by rw [HSR0.out]; exact hlk)
      have HSKD : Hid (d.S[k]'HKO.out = sk) := Lib.hid (by
        have e := mixR_get (d.restart ts).S d.S k (by rw [HSR0.out, HSN0.out]) HKO.out
        have e2 := HSK.out
        rw [hdd] at e2
        exact Option.some.inj (e.symm.trans e2))
      have HMS : Hid (∀ s', (d.restart ts).S[k]? = some s' → dd.S.set k s' = (dR d ts (k + 1)).S) := Lib.hid (fun s' hs' => by
        rw [List.getElem?_eq_getElem HKR.out] at hs'
        rw [← Option.some.inj hs', hdd]
        exact mixR_set (d.restart ts).S d.S k (by rw [HSR0.out, HSN0.out]) HKO.out HKR.out)
      have HC1 : Hid ((1 : Int) ≤ (rc : Int) ∧ 1 ≤ rc) := Lib.hid (by have := HRC.out.1; have := HSP.out; omega)
      have cK0 := UK.out
      have hco1 := HCO.out.1
      clear hdd
      go_upto_region 5 with fail
      go_loopw [5, 6] (fun a t wr => ∃ (j : Nat) (at_ : Int), j ≤ tn ∧ t = .int .i64 (j : Int) ∧ a = .int .i64 at_ ∧ ((at_ = -1 ∧ firstOf (ts.take j) k = none) ∨ (∃ qj t0, qj < j ∧ at_ = (qj : Int) ∧ ts[qj]? = some t0 ∧ firstOf ts k = some t0)) ∧ ∃ dn, wr = u.drewN dn) (fun _ t _ => tn - (intOf t).toNat)
      case atStart => exact ⟨0, -1, Nat.zero_le _, rfl, rfl, .inl ⟨rfl, by rw [List.take_zero]; rfl⟩, 0, rfl⟩
      case round =>
        obtain ⟨j, at_, hj, rfl, rfl, hat, dn, rfl⟩ := hrel
        rcases hat with ⟨rfl, hff0⟩ | ⟨qj, t0, hqj, rfl, hq2, hq3⟩
        · by_cases hjn : j < tn
          · have hjn2 : (j : Int) < (tn : Int) := by omega
            obtain ⟨b, off, hDb, hbw, rfl, hrb⟩ := HTS.out.at (by omega)
            by_cases hs1 : 1 < sl
            · have hs2 : (1 : Int) < (sl : Int) := by omega
              have hjl : j < ts.length := by rw [HTL.out]; exact hjn
              have hr3 := hrb j hjl
              obtain ⟨tm, htm0⟩ : ∃ tm, tm = ts[j] := ⟨_, rfl⟩
              rw [← htm0] at hr3
              have cS : u.cell? ⟨b, off + j * 3, none⟩ = some (.int .i64 tm.sector) := (HL.out.args.cell (p := ⟨b, off + j * 3, none⟩) hbw).trans (hr3 0 _ rfl)
              have HTK : Hid (firstOf (ts.take (j + 1)) k = if tm.sector = (k : Int) then some tm else none) := Lib.hid (by
                rw [List.take_succ_eq_append_getElem hjl, firstOf_app, hff0, ← htm0, firstOf_single]; rfl)
              have HTJ : Hid (ts[j]? = some tm) := Lib.hid (by rw [List.getElem?_eq_getElem hjl, htm0])
              have hwj : IntKind.i64.wrap ((j : Int) + 1) = (j : Int) + 1 := i64_id _ (by omega) (by omega)
              clear hDb hrb hr3 htm0 hjl hff0
              by_cases hsec : tm.sector = (k : Int)
              · have HSEC := Lib.hid hsec
                go_wp2_with fail
                go_roundw
                case rel => exact ⟨j + 1, (j : Int), by omega, by go_num, rfl, .inr ⟨j, tm, by omega, rfl, HTJ.out, firstOf_take_some (j := j + 1) (by rw [HTK.out, if_pos HSEC.out])⟩, dn, rfl⟩
                case measure => simp [intOf]; omega
              · have HSEC : Hid (¬ tm.sector = (k : Int)) := Lib.hid hsec
                go_wp2_with fail
                go_roundw
                case rel => exact ⟨j + 1, -1, by omega, by go_num, rfl, .inl ⟨rfl, by rw [HTK.out, if_neg HSEC.out]⟩, dn, rfl⟩
                case measure => simp [intOf]; omega
            · have hs2 : (sl : Int) ≤ 1 := by omega
              have HWHY : Hid (∀ t, firstOf ts k = some t → sl = 1) := Lib.hid (fun _ _ => by have := HSP.out; omega)
              clear hDb hrb
              have HRS : Hid ((d.restart ts).S[k]? = some [dur sk]) := Lib.hid (by
                rw [List.getElem?_eq_getElem HKR.out, restart_sec d ts k HKR.out, restart_get d ts k HKO.out HKR.out, HSKD.out]
                cases hff : firstOf ts k with
                | none => rfl
                | some t =>
                  have hs1 : sl = 1 := HWHY.out t hff
                  have := HSL8.out
                  rw [hs1] at this
                  obtain ⟨x, hx⟩ := List.length_eq_one_iff.1 this
                  rw [hx]; simp [surv, dur])
              have HSE : Hid (dd.S.set k [dur sk] = (dR d ts (k + 1)).S) := Lib.hid (HMS.out _ HRS.out)
              clear hff0
              go_upto_region 10 with fail
              clear cV0 cK0 hco1
              refine Roll.region_v 13 92 Drr10 Lrr10 [(0, .pointer (some ⟨g, 0, none⟩)), (4, .int .i64 (k : Int))] 12 [true, true, true, true, true, true, true, true, true, true, true, true, false] (fun p => Below u.heap.size u p) (fun vv p => Below u.heap.size u p) (fun p => Below u.heap.size u p) (Kept (fun _ => False)) [fun vv p => (vv 0) = .pointer (some ⟨g, 0, none⟩), fun vv p => (vv 1) = .pointer (some ⟨g, 0, none⟩), fun vv p => (vv 2) = .pointer (some ⟨g, 0, none⟩), fun vv p => (vv 3) = .slice (some ⟨gs, so, none⟩) SN co, fun vv p => (vv 4) = .int .i64 (k : Int), fun vv p => (vv 5) = .pointer (some ⟨g, 0, none⟩), fun vv p => (vv 6) = .pointer (some ⟨g, 0, none⟩), fun vv p => (vv 7) = .pointer (some ⟨g, 0, none⟩), fun vv p => (vv 8) = .slice (some ⟨gs, so, none⟩) SN co, fun vv p => (vv 9) = .int .i64 (k : Int), fun vv p => (vv 10) = .pointer (some ⟨gs, so + k, none⟩), fun vv p => (vv 11) = .slice (some ⟨rk, ro, none⟩) sl rc, fun vv p => (vv 12) = .slice (some ⟨rk, ro, none⟩) 1 rc] (by kernel_rfl) (by kernel_rfl) rfl ⟨rfl, rfl, trivial⟩ ((below_drewN _ _ _ (Nat.le_refl _)).drew) (by decide) (by kernel_rfl) (fun _ h => h) (fun _ _ h => h) (fun _ => Kept.refl _ _) ?_ ?_ ?_
              · exact ⟨fun _ _ _ _ h => h, fun _ _ _ _ h => h, fun _ _ _ _ h => h, fun _ _ _ _ h => h, fun _ _ _ _ h => h, fun _ _ _ _ h => h, fun _ _ _ _ h => h, fun _ _ _ _ h => h, fun _ _ _ _ h => h, fun _ _ _ _ h => h, fun _ _ _ _ h => h, fun _ _ _ _ h => h, fun _ _ _ _ h => h, trivial⟩
              · intro b0 hN hlv
                refine ⟨?_, ?_, ?_, ?_, ?_, ?_, ?_, ?_, ?_, ?_, ?_, ?_, ?_, trivial⟩
                · intro vs p hI0 hp
                  have hI := Roll.inw_pure (by decide) rfl hI0
                  clear hI0
                  have e0 : (Roll.putD Drr10 vs [] b0).eval (.tmp 0) = .pointer (some ⟨g, 0, none⟩) := (Roll.eval_old rfl).trans (hlv.at 0 (0, .pointer (some ⟨g, 0, none⟩)) rfl)
                  clear hp hlv hN
                  unfold Roll.Goes
                  simp only [Lrr10, List.getD_cons_zero, List.getD_cons_succ]
                  generalize Roll.putD Drr10 vs [] b0 = a1 at *
                  refine Roll.goes_val (w' := p) (.pointer (some ⟨g, 0, none⟩)) rfl ?_ ⟨(Roll.outw_pure (by decide) rfl), rfl⟩
                  (have ec : ∀ x, a1.eval (.const x) = x := fun _ => rfl); (have ef : ∀ x, a1.eval (.func x) = .func (.func x) #[] #[] := fun _ => rfl); generalize a1.eval = ρ at *
                  skip
                  go_simp <;> (intros; first | (exfalso; omega) | rfl)
                · intro vs p hI0 hp
                  have hI := Roll.inw_pure (by decide) rfl hI0
                  clear hI0
                  have h0 : (vs 0) = .pointer (some ⟨g, 0, none⟩) := hp 0 (by simp [Lrr10])
                  have e47 : (Roll.putD Drr10 vs [0] b0).eval (.tmp 47) = .pointer (some ⟨g, 0, none⟩) := (Roll.eval_new 0 rfl (by decide) (by decide) (by omega)).trans h0
                  clear hp hlv hN
                  unfold Roll.Goes
                  simp only [Lrr10, List.getD_cons_zero, List.getD_cons_succ]
                  generalize Roll.putD Drr10 vs [0] b0 = a1 at *
                  refine Roll.goes_val (w' := p) (.pointer (some ⟨g, 0, none⟩)) rfl ?_ ⟨(Roll.outw_pure (by decide) rfl), rfl⟩
                  (have ec : ∀ x, a1.eval (.const x) = x := fun _ => rfl); (have ef : ∀ x, a1.eval (.func x) = .func (.func x) #[] #[] := fun _ => rfl); generalize a1.eval = ρ at *
                  clear h0
                  go_simp <;> (intros; first | (exfalso; omega) | rfl)
                · intro vs p hI0 hp
                  have hI := Roll.inw_pure (by decide) rfl hI0
                  clear hI0
                  have h1 : (vs 1) = .pointer (some ⟨g, 0, none⟩) := hp 1 (by simp [Lrr10])
                  have e48 : (Roll.putD Drr10 vs [1] b0).eval (.tmp 48) = .pointer (some ⟨g, 0, none⟩) := (Roll.eval_new 1 rfl (by decide) (by decide) (by omega)).trans h1
                  clear hp hlv hN
                  unfold Roll.Goes
                  simp only [Lrr10, List.getD_cons_zero, List.getD_cons_succ]
                  generalize Roll.putD Drr10 vs [1] b0 = a1 at *
                  refine Roll.goes_val (w' := p) (.pointer (some ⟨g, 0, none⟩)) rfl ?_ ⟨(Roll.outw_pure (by decide) rfl), rfl⟩
                  (have ec : ∀ x, a1.eval (.const x) = x := fun _ => rfl); (have ef : ∀ x, a1.eval (.func x) = .func (.func x) #[] #[] := fun _ => rfl); generalize a1.eval = ρ at *
                  clear h1
                  go_simp <;> (intros; first | (exfalso; omega) | rfl)
                · intro vs p hI0 hp
                  have hI := Roll.inw_pure (by decide) rfl hI0
                  clear hI0
                  have h2 : (vs 2) = .pointer (some ⟨g, 0, none⟩) := hp 2 (by simp [Lrr10])
                  have e49 : (Roll.putD Drr10 vs [2] b0).eval (.tmp 49) = .pointer (some ⟨g, 0, none⟩) := (Roll.eval_new 2 rfl (by decide) (by decide) (by omega)).trans h2
                  clear hp hlv hN
                  unfold Roll.Goes
                  simp only [Lrr10, List.getD_cons_zero, List.getD_cons_succ]
                  generalize Roll.putD Drr10 vs [2] b0 = a1 at *
                  have cf : p.cell? ⟨g, 0, none⟩ = some (.slice (some ⟨gs, so, none⟩) SN co) := (hI.cell (p := ⟨g, 0, none⟩) UGT.out.1).trans UV.out
                  refine Roll.goes_val (w' := p) (.slice (some ⟨gs, so, none⟩) SN co) rfl ?_ ⟨(Roll.outw_pure (by decide) rfl), rfl⟩
                  (have ec : ∀ x, a1.eval (.const x) = x := fun _ => rfl); (have ef : ∀ x, a1.eval (.func x) = .func (.func x) #[] #[] := fun _ => rfl); generalize a1.eval = ρ at *
                  clear h2
                  go_simp <;> (intros; first | (exfalso; omega) | rfl)
                · intro vs p hI0 hp
                  have hI := Roll.inw_pure (by decide) rfl hI0
                  clear hI0
                  have e4 : (Roll.putD Drr10 vs [] b0).eval (.tmp 4) = .int .i64 (k : Int) := (Roll.eval_old rfl).trans (hlv.at 1 (4, .int .i64 (k : Int)) rfl)
                  clear hp hlv hN
                  unfold Roll.Goes
                  simp only [Lrr10, List.getD_cons_zero, List.getD_cons_succ]
                  generalize Roll.putD Drr10 vs [] b0 = a1 at *
                  refine Roll.goes_val (w' := p) (.int .i64 (k : Int)) rfl ?_ ⟨(Roll.outw_pure (by decide) rfl), rfl⟩
                  (have ec : ∀ x, a1.eval (.const x) = x := fun _ => rfl); (have ef : ∀ x, a1.eval (.func x) = .func (.func x) #[] #[] := fun _ => rfl); generalize a1.eval = ρ at *
                  skip
                  go_simp <;> (intros; first | (exfalso; omega) | rfl)
                · intro vs p hI0 hp
                  have hI := Roll.inw_pure (by decide) rfl hI0
                  clear hI0
                  have e0 : (Roll.putD Drr10 vs [] b0).eval (.tmp 0) = .pointer (some ⟨g, 0, none⟩) := (Roll.eval_old rfl).trans (hlv.at 0 (0, .pointer (some ⟨g, 0, none⟩)) rfl)
                  clear hp hlv hN
                  unfold Roll.Goes
                  simp only [Lrr10, List.getD_cons_zero, List.getD_cons_succ]
                  generalize Roll.putD Drr10 vs [] b0 = a1 at *
                  refine Roll.goes_val (w' := p) (.pointer (some ⟨g, 0, none⟩)) rfl ?_ ⟨(Roll.outw_pure (by decide) rfl), rfl⟩
                  (have ec : ∀ x, a1.eval (.const x) = x := fun _ => rfl); (have ef : ∀ x, a1.eval (.func x) = .func (.func x) #[] #[] := fun _ => rfl); generalize a1.eval = ρ at *
                  skip
                  go_simp <;> (intros; first | (exfalso; omega) | rfl)
                · intro vs p hI0 hp
                  have hI := Roll.inw_pure (by decide) rfl hI0
                  clear hI0
                  have h5 : (vs 5) = .pointer (some ⟨g, 0, none⟩) := hp 5 (by simp [Lrr10])
                  have e52 : (Roll.putD Drr10 vs [5] b0).eval (.tmp 52) = .pointer (some ⟨g, 0, none⟩) := (Roll.eval_new 5 rfl (by decide) (by decide) (by omega)).trans h5
                  clear hp hlv hN
                  unfold Roll.Goes
                  simp only [Lrr10, List.getD_cons_zero, List.getD_cons_succ]
                  generalize Roll.putD Drr10 vs [5] b0 = a1 at *
                  refine Roll.goes_val (w' := p) (.pointer (some ⟨g, 0, none⟩)) rfl ?_ ⟨(Roll.outw_pure (by decide) rfl), rfl⟩
                  (have ec : ∀ x, a1.eval (.const x) = x := fun _ => rfl); (have ef : ∀ x, a1.eval (.func x) = .func (.func x) #[] #[] := fun _ => rfl); generalize a1.eval = ρ at *
                  clear h5
                  go_simp <;> (intros; first | (exfalso; omega) | rfl)
                · intro vs p hI0 hp
                  have hI := Roll.inw_pure (by decide) rfl hI0
                  clear hI0
                  have h6 : (vs 6) = .pointer (some ⟨g, 0, none⟩) := hp 6 (by simp [Lrr10])
                  have e53 : (Roll.putD Drr10 vs [6] b0).eval (.tmp 53) = .pointer (some ⟨g, 0, none⟩) := (Roll.eval_new 6 rfl (by decide) (by decide) (by omega)).trans h6
                  clear hp hlv hN
                  unfold Roll.Goes
                  simp only [Lrr10, List.getD_cons_zero, List.getD_cons_succ]
                  generalize Roll.putD Drr10 vs [6] b0 = a1 at *
                  refine Roll.goes_val (w' := p) (.pointer (some ⟨g, 0, none⟩)) rfl ?_ ⟨(Roll.outw_pure (by decide) rfl), rfl⟩
                  (have ec : ∀ x, a1.eval (.const x) = x := fun _ => rfl); (have ef : ∀ x, a1.eval (.func x) = .func (.func x) #[] #[] := fun _ => rfl); generalize a1.eval = ρ at *
                  clear h6
                  go_simp <;> (intros; first | (exfalso; omega) | rfl)
                · intro vs p hI0 hp
                  have hI := Roll.inw_pure (by decide) rfl hI0
                  clear hI0
                  have h7 : (vs 7) = .pointer (some ⟨g, 0, none⟩) := hp 7 (by simp [Lrr10])
                  have e54 : (Roll.putD Drr10 vs [7] b0).eval (.tmp 54) = .pointer (some ⟨g, 0, none⟩) := (Roll.eval_new 7 rfl (by decide) (by decide) (by omega)).trans h7
                  clear hp hlv hN
                  unfold Roll.Goes
                  simp only [Lrr10, List.getD_cons_zero, List.getD_cons_succ]
                  generalize Roll.putD Drr10 vs [7] b0 = a1 at *
                  have cf : p.cell? ⟨g, 0, none⟩ = some (.slice (some ⟨gs, so, none⟩) SN co) := (hI.cell (p := ⟨g, 0, none⟩) UGT.out.1).trans UV.out
                  refine Roll.goes_val (w' := p) (.slice (some ⟨gs, so, none⟩) SN co) rfl ?_ ⟨(Roll.outw_pure (by decide) rfl), rfl⟩
                  (have ec : ∀ x, a1.eval (.const x) = x := fun _ => rfl); (have ef : ∀ x, a1.eval (.func x) = .func (.func x) #[] #[] := fun _ => rfl); generalize a1.eval = ρ at *
                  clear h7
                  go_simp <;> (intros; first | (exfalso; omega) | rfl)
                · intro vs p hI0 hp
                  have hI := Roll.inw_pure (by decide) rfl hI0
                  clear hI0
                  have e4 : (Roll.putD Drr10 vs [] b0).eval (.tmp 4) = .int .i64 (k : Int) := (Roll.eval_old rfl).trans (hlv.at 1 (4, .int .i64 (k : Int)) rfl)
                  clear hp hlv hN
                  unfold Roll.Goes
                  simp only [Lrr10, List.getD_cons_zero, List.getD_cons_succ]
                  generalize Roll.putD Drr10 vs [] b0 = a1 at *
                  refine Roll.goes_val (w' := p) (.int .i64 (k : Int)) rfl ?_ ⟨(Roll.outw_pure (by decide) rfl), rfl⟩
                  (have ec : ∀ x, a1.eval (.const x) = x := fun _ => rfl); (have ef : ∀ x, a1.eval (.func x) = .func (.func x) #[] #[] := fun _ => rfl); generalize a1.eval = ρ at *
                  skip
                  go_simp <;> (intros; first | (exfalso; omega) | rfl)
                · intro vs p hI0 hp
                  have hI := Roll.inw_pure (by decide) rfl hI0
                  clear hI0
                  have h8 : (vs 8) = .slice (some ⟨gs, so, none⟩) SN co := hp 8 (by simp [Lrr10])
                  have h9 : (vs 9) = .int .i64 (k : Int) := hp 9 (by simp [Lrr10])
                  have e55 : (Roll.putD Drr10 vs [8, 9] b0).eval (.tmp 55) = .slice (some ⟨gs, so, none⟩) SN co := (Roll.eval_new 8 rfl (by decide) (by decide) (by omega)).trans h8
                  have e56 : (Roll.putD Drr10 vs [8, 9] b0).eval (.tmp 56) = .int .i64 (k : Int) := (Roll.eval_new 9 rfl (by decide) (by decide) (by omega)).trans h9
                  clear hp hlv hN
                  unfold Roll.Goes
                  simp only [Lrr10, List.getD_cons_zero, List.getD_cons_succ]
                  generalize Roll.putD Drr10 vs [8, 9] b0 = a1 at *
                  have hkn := HKN.out
                  have hkn2 : (k : Int) < (SN : Int) := by omega
                  have hco := HCO.out
                  refine Roll.goes_val (w' := p) (.pointer (some ⟨gs, so + k, none⟩)) rfl ?_ ⟨(Roll.outw_pure (by decide) rfl), rfl⟩
                  (have ec : ∀ x, a1.eval (.const x) = x := fun _ => rfl); (have ef : ∀ x, a1.eval (.func x) = .func (.func x) #[] #[] := fun _ => rfl); generalize a1.eval = ρ at *
                  clear h8 h9
                  go_simp <;> (intros; first | (exfalso; omega) | rfl)
                · intro vs p hI0 hp
                  have hI := Roll.inw_pure (by decide) rfl hI0
                  clear hI0
                  have h10 : (vs 10) = .pointer (some ⟨gs, so + k, none⟩) := hp 10 (by simp [Lrr10])
                  have e57 : (Roll.putD Drr10 vs [10] b0).eval (.tmp 57) = .pointer (some ⟨gs, so + k, none⟩) := (Roll.eval_new 10 rfl (by decide) (by decide) (by omega)).trans h10
                  clear hp hlv hN
                  unfold Roll.Goes
                  simp only [Lrr10, List.getD_cons_zero, List.getD_cons_succ]
                  generalize Roll.putD Drr10 vs [10] b0 = a1 at *
                  have cf : p.cell? ⟨gs, so + k, none⟩ = some (.slice (some ⟨rk, ro, none⟩) sl rc) := (hI.cell (p := ⟨gs, so + k, none⟩) UGS.out.1).trans UK.out
                  refine Roll.goes_val (w' := p) (.slice (some ⟨rk, ro, none⟩) sl rc) rfl ?_ ⟨(Roll.outw_pure (by decide) rfl), rfl⟩
                  (have ec : ∀ x, a1.eval (.const x) = x := fun _ => rfl); (have ef : ∀ x, a1.eval (.func x) = .func (.func x) #[] #[] := fun _ => rfl); generalize a1.eval = ρ at *
                  clear h10
                  go_simp <;> (intros; first | (exfalso; omega) | rfl)
                · intro vs p hI0 hp
                  have hI := Roll.inw_k0 rfl hI0
                  clear hI0
                  have h11 : (vs 11) = .slice (some ⟨rk, ro, none⟩) sl rc := hp 11 (by simp [Lrr10])
                  have e58 : (Roll.putD Drr10 vs [11] b0).eval (.tmp 58) = .slice (some ⟨rk, ro, none⟩) sl rc := (Roll.eval_new 11 rfl (by decide) (by decide) (by omega)).trans h11
                  clear hp hlv hN
                  unfold Roll.Goes
                  simp only [Lrr10, List.getD_cons_zero, List.getD_cons_succ]
                  generalize Roll.putD Drr10 vs [11] b0 = a1 at *
                  refine Roll.goes_val (w' := p) (.slice (some ⟨rk, ro, none⟩) 1 rc) rfl (by have ec : ∀ x, a1.eval (.const x) = x := fun _ => rfl; have ef : ∀ x, a1.eval (.func x) = .func (.func x) #[] #[] := fun _ => rfl; have hbs := HC1.out; generalize a1.eval = ρ at *; go_simp <;> (intros; first | (exfalso; omega) | rfl)) ⟨Roll.outw_k0 rfl hI (Kept.refl _ _), rfl⟩
              · intro vs p hI hR
                have h0 : (vs 0) = .pointer (some ⟨g, 0, none⟩) := hR 0 (by omega)
                have h1 : (vs 1) = .pointer (some ⟨g, 0, none⟩) := hR 1 (by omega)
                have h2 : (vs 2) = .pointer (some ⟨g, 0, none⟩) := hR 2 (by omega)
                have h3 : (vs 3) = .slice (some ⟨gs, so, none⟩) SN co := hR 3 (by omega)
                have h4 : (vs 4) = .int .i64 (k : Int) := hR 4 (by omega)
                have h5 : (vs 5) = .pointer (some ⟨g, 0, none⟩) := hR 5 (by omega)
                have h6 : (vs 6) = .pointer (some ⟨g, 0, none⟩) := hR 6 (by omega)
                have h7 : (vs 7) = .pointer (some ⟨g, 0, none⟩) := hR 7 (by omega)
                have h8 : (vs 8) = .slice (some ⟨gs, so, none⟩) SN co := hR 8 (by omega)
                have h9 : (vs 9) = .int .i64 (k : Int) := hR 9 (by omega)
                have h10 : (vs 10) = .pointer (some ⟨gs, so + k, none⟩) := hR 10 (by omega)
                have h11 : (vs 11) = .slice (some ⟨rk, ro, none⟩) sl rc := hR 11 (by omega)
                have h12 : (vs 12) = .slice (some ⟨rk, ro, none⟩) 1 rc := hR 12 (by omega)
                clear hR
                simp only [List.range_succ, List.range_zero, List.nil_append, List.cons_append, Roll.putD, Act.put, List.getD_cons_zero, List.getD_cons_succ, List.setIfInBounds_toArray, List.set_cons_zero, List.set_cons_succ, List.drop_succ_cons, List.drop_zero, Drr10]
                simp only [h0, h1, h2, h3, h4, h5, h6, h7, h8, h9, h10, h11, h12]
                clear h0 h1 h2 h3 h4 h5 h6 h7 h8 h9 h10 h11 h12
                have hPB := hI
                clear hI
                have cV2 : p.cell? ⟨gs, so + k, none⟩ = some (.slice (some ⟨rk, ro, none⟩) sl rc) := (hPB.cell (p := ⟨gs, so + k, none⟩) UGS.out.1).trans UK.out
                have fV2 : p.frozen? ⟨gs, so + k, none⟩ = false := ((Kept.of_below (fun _ => False) hPB).frozen (p := ⟨gs, so + k, none⟩) UGS.out.1 (fun h => h)).trans (UF.out _)
                have HP : Hid (Lv w0 (p.setCell ⟨gs, so + k, none⟩ (.slice (some ⟨rk, ro, none⟩) 1 rc)) (L.set i0 (refO g (dR d ts (k + 1))))) := Lib.hid (by
                  obtain ⟨P2, hP2⟩ : ∃ P2, P2 = (p).setCell ⟨gs, so + k, none⟩ (.slice (some ⟨rk, ro, none⟩) 1 rc) := ⟨_, rfl⟩
                  rw [← hP2]
                  have hT := HT.out
                  have hgs8 : ¬ gs = rk := UGS.out.2
                  have hgq : gs < u.heap.size := UGS.out.1
                  have hrq : rk < u.heap.size := HRK.out
                  have hW : Below u.heap.size u (p) := hPB
                  have hks : Kept (fun j => j = gs) (p) P2 := by rw [hP2]; exact (Kept.refl (fun j => j = gs) _).setCell (fun _ => rfl) _
                  have hkq : Kept (fun j => j = gs) u P2 := (Kept.of_below _ hW).trans hks (fun _ _ h => h)
                  have hin : InR P2 (Bf) (rk) (.slice (some ⟨rk, ro, none⟩) 1 rc) ([dur sk]) := inR_cut (HIN0.out.kept hkq (fun e => hgs8 e.symm) (fun x _ hx e => HBGS.out (by rw [← e]; exact hx))) rfl (by rw [HSL8.out]; exact HSP.out)
                  have hr8 : rk = row k ∨ u.heap.size ≤ rk := (.inl HRR.out.symm)
                  have hB2 : ∀ x, (Bf) x → Bf x ∨ (u.heap.size ≤ x ∧ x ≠ rk) := (fun x hx => .inl hx)
                  have hp := hT.put (k := k) HKS.out (w' := P2) (r' := rk) (v' := .slice (some ⟨rk, ro, none⟩) 1 rc) (s' := [dur sk]) (Bf' := Bf)
                    (hkq.mono (fun j _ h => .inr (by rw [h]))) (fun xs hx => by
                      rw [hP2]
                      rw [HSN.out] at hx ⊢
                      exact (hx.kept (Kept.of_below (fun _ => False) hW) (fun _ _ h => h)).set k HKN.out _)
                    hin hr8 (fun x hx => hx) hB2 (fun x hx => Nat.lt_of_lt_of_le (hT.lt x hx) hkq.size)
                  rw [HSE.out, HDX.out] at hp
                  have hl2 : (dR d ts (k + 1)).S.length = dd.S.length := by rw [← HSE.out, List.length_set]
                  have hf := HSET.out P2 (refO g (dR d ts (k + 1))) (fun x => TBlk g (some gs) (fun j => if j = k then rk else row j) (Bf) dd.S.length x) ⟨_, _, _, _, hp, fun x hx => by rw [hl2] at hx; exact hx⟩
                    (hkq.mono (fun j _ h => HTB.out j (.inr (.inl (by rw [h])))))
                    (fun j hj => (TBlk.put (z := u.heap.size) HKS.out hr8 hB2 j hj).imp (HTB.out j) id) (fun j hj => hp.blk_lt j (by rw [hl2]; exact hj))
                  rw [List.set_set] at hf
                  exact hf)
                clear hPB
                go_wp2_with fail
                go_roundw
                case rel => exact ⟨k + 1, by omega, by go_num, HP.out⟩
                case measure => simp [intOf]; omega
          · obtain rfl : j = tn := by omega
            have HWHY : Hid (∀ t, firstOf ts k = some t → sl = 1) := Lib.hid (fun t ht => by
              rw [List.take_of_length_le (by rw [HTL.out]; exact Nat.le_refl _)] at hff0
              rw [hff0] at ht; cases ht)
            have HRS : Hid ((d.restart ts).S[k]? = some [dur sk]) := Lib.hid (by
              rw [List.getElem?_eq_getElem HKR.out, restart_sec d ts k HKR.out, restart_get d ts k HKO.out HKR.out, HSKD.out]
              cases hff : firstOf ts k with
              | none => rfl
              | some t =>
                have hs1 : sl = 1 := HWHY.out t hff
                have := HSL8.out
                rw [hs1] at this
                obtain ⟨x, hx⟩ := List.length_eq_one_iff.1 this
                rw [hx]; simp [surv, dur])
            have HSE : Hid (dd.S.set k [dur sk] = (dR d ts (k + 1)).S) := Lib.hid (HMS.out _ HRS.out)
            clear hff0
            go_upto_region 10 with fail
            clear cV0 cK0 hco1
            refine Roll.region_v 13 92 Drr10 Lrr10 [(0, .pointer (some ⟨g, 0, none⟩)), (4, .int .i64 (k : Int))] 12 [true, true, true, true, true, true, true, true, true, true, true, true, false] (fun p => Below u.heap.size u p) (fun vv p => Below u.heap.size u p) (fun p => Below u.heap.size u p) (Kept (fun _ => False)) [fun vv p => (vv 0) = .pointer (some ⟨g, 0, none⟩), fun vv p => (vv 1) = .pointer (some ⟨g, 0, none⟩), fun vv p => (vv 2) = .pointer (some ⟨g, 0, none⟩), fun vv p => (vv 3) = .slice (some ⟨gs, so, none⟩) SN co, fun vv p => (vv 4) = .int .i64 (k : Int), fun vv p => (vv 5) = .pointer (some ⟨g, 0, none⟩), fun vv p => (vv 6) = .pointer (some ⟨g, 0, none⟩), fun vv p => (vv 7) = .pointer (some ⟨g, 0, none⟩), fun vv p => (vv 8) = .slice (some ⟨gs, so, none⟩) SN co, fun vv p => (vv 9) = .int .i64 (k : Int), fun vv p => (vv 10) = .pointer (some ⟨gs, so + k, none⟩), fun vv p => (vv 11) = .slice (some ⟨rk, ro, none⟩) sl rc, fun vv p => (vv 12) = .slice (some ⟨rk, ro, none⟩) 1 rc] (by kernel_rfl) (by kernel_rfl) rfl ⟨rfl, rfl, trivial⟩ ((below_drewN _ _ _ (Nat.le_refl _)).drew) (by decide) (by kernel_rfl) (fun _ h => h) (fun _ _ h => h) (fun _ => Kept.refl _ _) ?_ ?_ ?_
            · exact ⟨fun _ _ _ _ h => h, fun _ _ _ _ h => h, fun _ _ _ _ h => h, fun _ _ _ _ h => h, fun _ _ _ _ h => h, fun _ _ _ _ h => h, fun _ _ _ _ h => h, fun _ _ _ _ h => h, fun _ _ _ _ h => h, fun _ _ _ _ h => h, fun _ _ _ _ h => h, fun _ _ _ _ h => h, fun _ _ _ _ h => h, trivial⟩
            · intro b0 hN hlv
              refine ⟨?_, ?_, ?_, ?_, ?_, ?_, ?_, ?_, ?_, ?_, ?_, ?_, ?_, trivial⟩
              · intro vs p hI0 hp
                have hI := Roll.inw_pure (by decide) rfl hI0
                clear hI0
                have e0 : (Roll.putD Drr10 vs [] b0).eval (.tmp 0) = .pointer (some ⟨g, 0, none⟩) := (Roll.eval_old rfl).trans (hlv.at 0 (0, .pointer (some ⟨g, 0, none⟩)) rfl)
                clear hp hlv hN
                unfold Roll.Goes
                simp only [Lrr10, List.getD_cons_zero, List.getD_cons_succ]
                generalize Roll.putD Drr10 vs [] b0 = a1 at *
                refine Roll.goes_val (w' := p) (.pointer (some ⟨g, 0, none⟩)) rfl ?_ ⟨(Roll.outw_pure (by decide) rfl), rfl⟩
                (have ec : ∀ x, a1.eval (.const x) = x := fun _ => rfl); (have ef : ∀ x, a1.eval (.func x) = .func (.func x) #[] #[] := fun _ => rfl); generalize a1.eval = ρ at *
                skip
                go_simp <;> (intros; first | (exfalso; omega) | rfl)
              · intro vs p hI0 hp
                have hI := Roll.inw_pure (by decide) rfl hI0
                clear hI0
                have h0 : (vs 0) = .pointer (some ⟨g, 0, none⟩) := hp 0 (by simp [Lrr10])
                have e47 : (Roll.putD Drr10 vs [0] b0).eval (.tmp 47) = .pointer (some ⟨g, 0, none⟩) := (Roll.eval_new 0 rfl (by decide) (by decide) (by omega)).trans h0
                clear hp hlv hN
                unfold Roll.Goes
                simp only [Lrr10, List.getD_cons_zero, List.getD_cons_succ]
                generalize Roll.putD Drr10 vs [0] b0 = a1 at *
                refine Roll.goes_val (w' := p) (.pointer (some ⟨g, 0, none⟩)) rfl ?_ ⟨(Roll.outw_pure (by decide) rfl), rfl⟩
                (have ec : ∀ x, a1.eval (.const x) = x := fun _ => rfl); (have ef : ∀ x, a1.eval (.func x) = .func (.func x) #[] #[] := fun _ => rfl); generalize a1.eval = ρ at *
                clear h0
                go_simp <;> (intros; first | (exfalso; omega) | rfl)
              · intro vs p hI0 hp
                have hI := Roll.inw_pure (by decide) rfl hI0
                clear hI0
                have h1 : (vs 1) = .pointer (some ⟨g, 0, none⟩) := hp 1 (by simp [Lrr10])
                have e48 : (Roll.putD Drr10 vs [1] b0).eval (.tmp 48) = .pointer (some ⟨g, 0, none⟩) := (Roll.eval_new 1 rfl (by decide) (by decide) (by omega)).trans h1
                clear hp hlv hN
                unfold Roll.Goes
                simp only [Lrr10, List.getD_cons_zero, List.getD_cons_succ]
                generalize Roll.putD Drr10 vs [1] b0 = a1 at *
                refine Roll.goes_val (w' := p) (.pointer (some ⟨g, 0, none⟩)) rfl ?_ ⟨(Roll.outw_pure (by decide) rfl), rfl⟩
                (have ec : ∀ x, a1.eval (.const x) = x := fun _ => rfl); (have ef : ∀ x, a1.eval (.func x) = .func (.func x) #[] #[] := fun _ => rfl); generalize a1.eval = ρ at *
                clear h1
                go_simp <;> (intros; first | (exfalso; omega) | rfl)
              · intro vs p hI0 hp
                have hI := Roll.inw_pure (by decide) rfl hI0
                clear hI0
                have h2 : (vs 2) = .pointer (some ⟨g, 0, none⟩) := hp 2 (by simp [Lrr10])
                have e49 : (Roll.putD Drr10 vs [2] b0).eval (.tmp 49) = .pointer (some ⟨g, 0, none⟩) := (Roll.eval_new 2 rfl (by decide) (by decide) (by omega)).trans h2
                clear hp hlv hN
                unfold Roll.Goes
                simp only [Lrr10, List.getD_cons_zero, List.getD_cons_succ]
                generalize Roll.putD Drr10 vs [2] b0 = a1 at *
                have cf : p.cell? ⟨g, 0, none⟩ = some (.slice (some ⟨gs, so, none⟩) SN co) := (hI.cell (p := ⟨g, 0, none⟩) UGT.out.1).trans UV.out
                refine Roll.goes_val (w' := p) (.slice (some ⟨gs, so, none⟩) SN co) rfl ?_ ⟨(Roll.outw_pure (by decide) rfl), rfl⟩
                (have ec : ∀ x, a1.eval (.const x) = x := fun _ => rfl); (have ef : ∀ x, a1.eval (.func x) = .func (.func x) #[] #[] := fun _ => rfl); generalize a1.eval = ρ at *
                clear h2
                go_simp <;> (intros; first | (exfalso; omega) | rfl)
              · intro vs p hI0 hp
                have hI := Roll.inw_pure (by decide) rfl hI0
                clear hI0
                have e4 : (Roll.putD Drr10 vs [] b0).eval (.tmp 4) = .int .i64 (k : Int) := (Roll.eval_old rfl).trans (hlv.at 1 (4, .int .i64 (k : Int)) rfl)
                clear hp hlv hN
                unfold Roll.Goes
                simp only [Lrr10, List.getD_cons_zero, List.getD_cons_succ]
                generalize Roll.putD Drr10 vs [] b0 = a1 at *
                refine Roll.goes_val (w' := p) (.int .i64 (k : Int)) rfl ?_ ⟨(Roll.outw_pure (by decide) rfl), rfl⟩
                (have ec : ∀ x, a1.eval (.const x) = x := fun _ => rfl); (have ef : ∀ x, a1.eval (.func x) = .func (.func x) #[] #[] := fun _ => rfl); generalize a1.eval = ρ at *
                skip
                go_simp <;> (intros; first | (exfalso; omega) | rfl)
              · intro vs p hI0 hp
                have hI := Roll.inw_pure (by decide) rfl hI0
                clear hI0
                have e0 : (Roll.putD Drr10 vs [] b0).eval (.tmp 0) = .pointer (some ⟨g, 0, none⟩) := (Roll.eval_old rfl).trans (hlv.at 0 (0, .pointer (some ⟨g, 0, none⟩)) rfl)
                clear hp hlv hN
                unfold Roll.Goes
                simp only [Lrr10, List.getD_cons_zero, List.getD_cons_succ]
                generalize Roll.putD Drr10 vs [] b0 = a1 at *
                refine Roll.goes_val (w' := p) (.pointer (some ⟨g, 0, none⟩)) rfl ?_ ⟨(Roll.outw_pure (by decide) rfl), rfl⟩
                (have ec : ∀ x, a1.eval (.const x) = x := fun _ => rfl); (have ef : ∀ x, a1.eval (.func x) = .func (.func x) #[] #[] := fun _ => rfl); generalize a1.eval = ρ at *
                skip
                go_simp <;> (intros; first | (exfalso; omega) | rfl)
              · intro vs p hI0 hp
                have hI := Roll.inw_pure (by decide) rfl hI0
                clear hI0
                have h5 : (vs 5) = .pointer (some ⟨g, 0, none⟩) := hp 5 (by simp [Lrr10])
                have e52 : (Roll.putD Drr10 vs [5] b0).eval (.tmp 52) = .pointer (some ⟨g, 0, none⟩) := (Roll.eval_new 5 rfl (by decide) (by decide) (by omega)).trans h5
                clear hp hlv hN
                unfold Roll.Goes
                simp only [Lrr10, List.getD_cons_zero, List.getD_cons_succ]
                generalize Roll.putD Drr10 vs [5] b0 = a1 at *
                refine Roll.goes_val (w' := p) (.pointer (some ⟨g, 0, none⟩)) rfl ?_ ⟨(Roll.outw_pure (by decide) rfl), rfl⟩
                (have ec : ∀ x, a1.eval (.const x) = x := fun _ => rfl); (have ef : ∀ x, a1.eval (.func x) = .func (.func x) #[] #[] := fun _ => rfl); generalize a1.eval = ρ at *
                clear h5
                go_simp <;> (intros; first | (exfalso; omega) | rfl)
              · intro vs p hI0 hp
                have hI := Roll.inw_pure (by decide) rfl hI0
                clear hI0
                have h6 : (vs 6) = .pointer (some ⟨g, 0, none⟩) := hp 6 (by simp [Lrr10])
                have e53 : (Roll.putD Drr10 vs [6] b0).eval (.tmp 53) = .pointer (some ⟨g, 0, none⟩) := (Roll.eval_new 6 rfl (by decide) (by decide) (by omega)).trans h6
                clear hp hlv hN
                unfold Roll.Goes
                simp only [Lrr10, List.getD_cons_zero, List.getD_cons_succ]
                generalize Roll.putD Drr10 vs [6] b0 = a1 at *
                refine Roll.goes_val (w' := p) (.pointer (some ⟨g, 0, none⟩)) rfl ?_ ⟨(Roll.outw_pure (by decide) rfl), rfl⟩
                (have ec : ∀ x, a1.eval (.const x) = x := fun _ => rfl); (have ef : ∀ x, a1.eval (.func x) = .func (.func x) #[] #[] := fun _ => rfl); generalize a1.eval = ρ at *
                clear h6
                go_simp <;> (intros; first | (exfalso; omega) | rfl)
              · intro vs p hI0 hp
                have hI := Roll.inw_pure (by decide) rfl hI0
                clear hI0
                have h7 : (vs 7) = .pointer (some ⟨g, 0, none⟩) := hp 7 (by simp [Lrr10])
                have e54 : (Roll.putD Drr10 vs [7] b0).eval (.tmp 54) = .pointer (some ⟨g, 0, none⟩) := (Roll.eval_new 7 rfl (by decide) (by decide) (by omega)).trans h7
                clear hp hlv hN
                unfold Roll.Goes
                simp only [Lrr10, List.getD_cons_zero, List.getD_cons_succ]
                generalize Roll.putD Drr10 vs [7] b0 = a1 at *
                have cf : p.cell? ⟨g, 0, none⟩ = some (.slice (some ⟨gs, so, none⟩) SN co) := (hI.cell (p := ⟨g, 0, none⟩) UGT.out.1).trans UV.out
                refine Roll.goes_val (w' := p) (.slice (some ⟨gs, so, none⟩) SN co) rfl ?_ ⟨(Roll.outw_pure (by decide) rfl), rfl⟩
                (have ec : ∀ x, a1.eval (.const x) = x := fun _ => rfl); (have ef : ∀ x, a1.eval (.func x) = .func (.func x) #[] #[] := fun _ => rfl); generalize a1.eval = ρ at *
                clear h7
                go_simp <;> (intros; first | (exfalso; omega) | rfl)
              · intro vs p hI0 hp
                have hI := Roll.inw_pure (by decide) rfl hI0
                clear hI0
                have e4 : (Roll.putD Drr10 vs [] b0).eval (.tmp 4) = .int .i64 (k : Int) := (Roll.eval_old rfl).trans (hlv.at 1 (4, .int .i64 (k : Int)) rfl)
                clear hp hlv hN
                unfold Roll.Goes
                simp only [Lrr10, List.getD_cons_zero, List.getD_cons_succ]
                generalize Roll.putD Drr10 vs [] b0 = a1 at *
                refine Roll.goes_val (w' := p) (.int .i64 (k : Int)) rfl ?_ ⟨(Roll.outw_pure (by decide) rfl), rfl⟩
                (have ec : ∀ x, a1.eval (.const x) = x := fun _ => rfl); (have ef : ∀ x, a1.eval (.func x) = .func (.func x) #[] #[] := fun _ => rfl); generalize a1.eval = ρ at *
                skip
                go_simp <;> (intros; first | (exfalso; omega) | rfl)
              · intro vs p hI0 hp
                have hI := Roll.inw_pure (by decide) rfl hI0
                clear hI0
                have h8 : (vs 8) = .slice (some ⟨gs, so, none⟩) SN co := hp 8 (by simp [Lrr10])
                have h9 : (vs 9) = .int .i64 (k : Int) := hp 9 (by simp [Lrr10])
                have e55 : (Roll.putD Drr10 vs [8, 9] b0).eval (.tmp 55) = .slice (some ⟨gs, so, none⟩) SN co := (Roll.eval_new 8 rfl (by decide) (by decide) (by omega)).trans h8
                have e56 : (Roll.putD Drr10 vs [8, 9] b0).eval (.tmp 56) = .int .i64 (k : Int) := (Roll.eval_new 9 rfl (by decide) (by decide) (by omega)).trans h9
                clear hp hlv hN
                unfold Roll.Goes
                simp only [Lrr10, List.getD_cons_zero, List.getD_cons_succ]
                generalize Roll.putD Drr10 vs [8, 9] b0 = a1 at *
                have hkn := HKN.out
                have hkn2 : (k : Int) < (SN : Int) := by omega
                have hco := HCO.out
                refine Roll.goes_val (w' := p) (.pointer (some ⟨gs, so + k, none⟩)) rfl ?_ ⟨(Roll.outw_pure (by decide) rfl), rfl⟩
                (have ec : ∀ x, a1.eval (.const x) = x := fun _ => rfl); (have ef : ∀ x, a1.eval (.func x) = .func (.func x) #[] #[] := fun _ => rfl); generalize a1.eval = ρ at *
                clear h8 h9
                go_simp <;> (intros; first | (exfalso; omega) | rfl)
              · intro vs p hI0 hp
                have hI := Roll.inw_pure (by decide) rfl hI0
                clear hI0
                have h10 : (vs 10) = .pointer (some ⟨gs, so + k, none⟩) := hp 10 (by simp [Lrr10])
                have e57 : (Roll.putD Drr10 vs [10] b0).eval (.tmp 57) = .pointer (some ⟨gs, so + k, none⟩) := (Roll.eval_new 10 rfl (by decide) (by decide) (by omega)).trans h10
                clear hp hlv hN
                unfold Roll.Goes
                simp only [Lrr10, List.getD_cons_zero, List.getD_cons_succ]
                generalize Roll.putD Drr10 vs [10] b0 = a1 at *
                have cf : p.cell? ⟨gs, so + k, none⟩ = some (.slice (some ⟨rk, ro, none⟩) sl rc) := (hI.cell (p := ⟨gs, so + k, none⟩) UGS.out.1).trans UK.out
                refine Roll.goes_val (w' := p) (.slice (some ⟨rk, ro, none⟩) sl rc) rfl ?_ ⟨(Roll.outw_pure (by decide) rfl), rfl⟩
                (have ec : ∀ x, a1.eval (.const x) = x := fun _ => rfl); (have ef : ∀ x, a1.eval (.func x) = .func (.func x) #[] #[] := fun _ => rfl); generalize a1.eval = ρ at *
                clear h10
                go_simp <;> (intros; first | (exfalso; omega) | rfl)
              · intro vs p hI0 hp
                have hI := Roll.inw_k0 rfl hI0
                clear hI0
                have h11 : (vs 11) = .slice (some ⟨rk, ro, none⟩) sl rc := hp 11 (by simp [Lrr10])
                have e58 : (Roll.putD Drr10 vs [11] b0).eval (.tmp 58) = .slice (some ⟨rk, ro, none⟩) sl rc := (Roll.eval_new 11 rfl (by decide) (by decide) (by omega)).trans h11
                clear hp hlv hN
                unfold Roll.Goes
                simp only [Lrr10, List.getD_cons_zero, List.getD_cons_succ]
                generalize Roll.putD Drr10 vs [11] b0 = a1 at *
                refine Roll.goes_val (w' := p) (.slice (some ⟨rk, ro, none⟩) 1 rc) rfl (by have ec : ∀ x, a1.eval (.const x) = x := fun _ => rfl; have ef : ∀ x, a1.eval (.func x) = .func (.func x) #[] #[] := fun _ => rfl; have hbs := HC1.out; generalize a1.eval = ρ at *; go_simp <;> (intros; first | (exfalso; omega) | rfl)) ⟨Roll.outw_k0 rfl hI (Kept.refl _ _), rfl⟩
            · intro vs p hI hR
              have h0 : (vs 0) = .pointer (some ⟨g, 0, none⟩) := hR 0 (by omega)
              have h1 : (vs 1) = .pointer (some ⟨g, 0, none⟩) := hR 1 (by omega)
              have h2 : (vs 2) = .pointer (some ⟨g, 0, none⟩) := hR 2 (by omega)
              have h3 : (vs 3) = .slice (some ⟨gs, so, none⟩) SN co := hR 3 (by omega)
              have h4 : (vs 4) = .int .i64 (k : Int) := hR 4 (by omega)
              have h5 : (vs 5) = .pointer (some ⟨g, 0, none⟩) := hR 5 (by omega)
              have h6 : (vs 6) = .pointer (some ⟨g, 0, none⟩) := hR 6 (by omega)
              have h7 : (vs 7) = .pointer (some ⟨g, 0, none⟩) := hR 7 (by omega)
              have h8 : (vs 8) = .slice (some ⟨gs, so, none⟩) SN co := hR 8 (by omega)
              have h9 : (vs 9) = .int .i64 (k : Int) := hR 9 (by omega)
              have h10 : (vs 10) = .pointer (some ⟨gs, so + k, none⟩) := hR 10 (by omega)
              have h11 : (vs 11) = .slice (some ⟨rk, ro, none⟩) sl rc := hR 11 (by omega)
              have h12 : (vs 12) = .slice (some ⟨rk, ro, none⟩) 1 rc := hR 12 (by omega)
              clear hR
              simp only [List.range_succ, List.range_zero, List.nil_append, List.cons_append, Roll.putD, Act.put, List.getD_cons_zero, List.getD_cons_succ, List.setIfInBounds_toArray, List.set_cons_zero, List.set_cons_succ, List.drop_succ_cons, List.drop_zero, Drr10]
              simp only [h0, h1, h2, h3, h4, h5, h6, h7, h8, h9, h10, h11, h12]
              clear h0 h1 h2 h3 h4 h5 h6 h7 h8 h9 h10 h11 h12
              have hPB := hI
              clear hI
              have cV2 : p.cell? ⟨gs, so + k, none⟩ = some (.slice (some ⟨rk, ro, none⟩) sl rc) := (hPB.cell (p := ⟨gs, so + k, none⟩) UGS.out.1).trans UK.out
              have fV2 : p.frozen? ⟨gs, so + k, none⟩ = false := ((Kept.of_below (fun _ => False) hPB).frozen (p := ⟨gs, so + k, none⟩) UGS.out.1 (fun h => h)).trans (UF.out _)
              have HP : Hid (Lv w0 (p.setCell ⟨gs, so + k, none⟩ (.slice (some ⟨rk, ro, none⟩) 1 rc)) (L.set i0 (refO g (dR d ts (k + 1))))) := Lib.hid (by
                obtain ⟨P2, hP2⟩ : ∃ P2, P2 = (p).setCell ⟨gs, so + k, none⟩ (.slice (some ⟨rk, ro, none⟩) 1 rc) := ⟨_, rfl⟩
                rw [← hP2]
                have hT := HT.out
                have hgs8 : ¬ gs = rk := UGS.out.2
                have hgq : gs < u.heap.size := UGS.out.1
                have hrq : rk < u.heap.size := HRK.out
                have hW : Below u.heap.size u (p) := hPB
                have hks : Kept (fun j => j = gs) (p) P2 := by rw [hP2]; exact (Kept.refl (fun j => j = gs) _).setCell (fun _ => rfl) _
                have hkq : Kept (fun j => j = gs) u P2 := (Kept.of_below _ hW).trans hks (fun _ _ h => h)
                have hin : InR P2 (Bf) (rk) (.slice (some ⟨rk, ro, none⟩) 1 rc) ([dur sk]) := inR_cut (HIN0.out.kept hkq (fun e => hgs8 e.symm) (fun x _ hx e => HBGS.out (by rw [← e]; exact hx))) rfl (by rw [HSL8.out]; exact HSP.out)
                have hr8 : rk = row k ∨ u.heap.size ≤ rk := (.inl HRR.out.symm)
                have hB2 : ∀ x, (Bf) x → Bf x ∨ (u.heap.size ≤ x ∧ x ≠ rk) := (fun x hx => .inl hx)
                have hp := hT.put (k := k) HKS.out (w' := P2) (r' := rk) (v' := .slice (some ⟨rk, ro, none⟩) 1 rc) (s' := [dur sk]) (Bf' := Bf)
                  (hkq.mono (fun j _ h => .inr (by rw [h]))) (fun xs hx => by
                    rw [hP2]
                    rw [HSN.out] at hx ⊢
                    exact (hx.kept (Kept.of_below (fun _ => False) hW) (fun _ _ h => h)).set k HKN.out _)
                  hin hr8 (fun x hx => hx) hB2 (fun x hx => Nat.lt_of_lt_of_le (hT.lt x hx) hkq.size)
                rw [HSE.out, HDX.out] at hp
                have hl2 : (dR d ts (k + 1)).S.length = dd.S.length := by rw [← HSE.out, List.length_set]
                have hf := HSET.out P2 (refO g (dR d ts (k + 1))) (fun x => TBlk g (some gs) (fun j => if j = k then rk else row j) (Bf) dd.S.length x) ⟨_, _, _, _, hp, fun x hx => by rw [hl2] at hx; exact hx⟩
                  (hkq.mono (fun j _ h => HTB.out j (.inr (.inl (by rw [h])))))
                  (fun j hj => (TBlk.put (z := u.heap.size) HKS.out hr8 hB2 j hj).imp (HTB.out j) id) (fun j hj => hp.blk_lt j (by rw [hl2]; exact hj))
                rw [List.set_set] at hf
                exact hf)
              clear hPB
              go_wp2_with fail
              go_roundw
              case rel => exact ⟨k + 1, by omega, by go_num, HP.out⟩
              case measure => simp [intOf]; omega
        · obtain ⟨b, off, hDb, hbw, rfl, hrb⟩ := HTS.out.at (by omega)
          by_cases hjn : j < tn
          · have hjn2 : (j : Int) < (tn : Int) := by omega
            have HBU : Hid (b < u.heap.size) := Lib.hid (Nat.lt_of_lt_of_le hbw HL.out.size)
            have hqt := (List.getElem?_eq_some_iff.1 hq2)
            have hr3 : w0.rangeAt b (off + qj * 3) [.int .i64 t0.sector, .int .i64 t0.writes, .int .i64 t0.bytes] := by
              have := hrb qj hqt.1
              rw [hqt.2] at this
              exact this
            have T1 : Hid (u.cell? ⟨b, off + qj * 3 + 1, none⟩ = some (.int .i64 t0.writes)) := Lib.hid ((HL.out.args.cell (p := ⟨b, off + qj * 3 + 1, none⟩) hbw).trans (hr3 1 _ rfl))
            have T2 : Hid (u.cell? ⟨b, off + qj * 3 + 2, none⟩ = some (.int .i64 t0.bytes)) := Lib.hid ((HL.out.args.cell (p := ⟨b, off + qj * 3 + 2, none⟩) hbw).trans (hr3 2 _ rfl))
            have HQN : Hid (qj < tn ∧ (qj : Int) < (tn : Int) ∧ tn ≤ tc) := Lib.hid ⟨by omega, by omega, htc⟩
            obtain ⟨sv, hsv⟩ : ∃ sv, sv = surv sk t0.writes t0.bytes := ⟨_, rfl⟩
            have HSV := Lib.hid hsv
            have HRS : Hid ((d.restart ts).S[k]? = some [sv]) := Lib.hid (by
              rw [List.getElem?_eq_getElem HKR.out, restart_sec d ts k HKR.out, restart_get d ts k HKO.out HKR.out, HSKD.out, hq3, hsv])
            have HSE : Hid (dd.S.set k [sv] = (dR d ts (k + 1)).S) := Lib.hid (HMS.out _ HRS.out)
            have HJ : Hid (∀ p, Below u.heap.size u p → ∀ j (hj : j < sk.length), ∃ a c, p.cell? ⟨rk, ro + j, none⟩ = some (.slice a 64 c) ∧ Bs Bf p a 64 c sk[j]) := Lib.hid (fun p hpb j hj => by
              obtain ⟨a, c, e1, e2⟩ := HYJ.out j hj
              obtain ⟨r', ro', rc', e3, e4, _, _, _, e5⟩ := HYS.out.at HSP.out
              cases e3; cases e4
              have hjl : j < ys.length := by rw [HYS.out.1, ← HSL8.out]; exact hj
              have e6 := e5 j hjl
              rw [List.getElem?_eq_getElem hjl] at e1
              rw [Option.some.inj e1] at e6
              exact ⟨a, c, (hpb.cell (p := ⟨rk, ro + j, none⟩) HRK.out).trans e6, e2.kept (Kept.of_below (fun _ => False) hpb) (fun _ _ _ h => h)⟩)
            have hqn0 : ¬ ((qj : Int) < 0) := by omega
            have hqn1 : (0 : Int) ≤ (qj : Int) := by omega
            clear hqt hr3 hsv hq2 hq3
            go_upto_region 11 with fail
            clear cV0 cK0 hco1
            refine Roll.region_v 24 92 Drr11 Lrr11 [(0, .pointer (some ⟨g, 0, none⟩)), (1, .slice (some ⟨b, off, none⟩) tn tc), (4, .int .i64 (k : Int)), (5, .int .i64 (qj : Int))] 23 [true, true, true, true, true, true, true, true, true, true, true, true, true, true, true, true, true, true, true, true, true, true, false, false] (fun p => Below u.heap.size u p) (fun vv p => ∃ s a2 c2, vv = .slice (some ⟨s, 0, none⟩) 1 1 ∧ u.heap.size ≤ s ∧ p.heap[s]? = some (.cells #[.slice a2 64 c2] 32 (0, 0)) ∧ Bs (fun x => u.heap.size ≤ x ∧ x < s) p a2 64 c2 sv ∧ Below u.heap.size u p) (fun p => Below u.heap.size u p) (Kept (fun _ => False)) [fun vv p => (vv 0) = .pointer (some ⟨g, 0, none⟩), fun vv p => (vv 1) = .pointer (some ⟨g, 0, none⟩), fun vv p => (vv 2) = .pointer (some ⟨g, 0, none⟩), fun vv p => (vv 3) = .slice (some ⟨gs, so, none⟩) SN co, fun vv p => (vv 4) = .int .i64 (k : Int), fun vv p => (vv 5) = .pointer (some ⟨g, 0, none⟩), fun vv p => (vv 6) = .pointer (some ⟨g, 0, none⟩), fun vv p => (vv 7) = .pointer (some ⟨g, 0, none⟩), fun vv p => (vv 8) = .slice (some ⟨gs, so, none⟩) SN co, fun vv p => (vv 9) = .int .i64 (k : Int), fun vv p => (vv 10) = .pointer (some ⟨gs, so + k, none⟩), fun vv p => (vv 11) = .slice (some ⟨rk, ro, none⟩) sl rc, fun vv p => (vv 12) = .slice (some ⟨b, off, none⟩) tn tc, fun vv p => (vv 13) = .int .i64 (qj : Int), fun vv p => (vv 14) = .pointer (some ⟨b, off + qj * 3, none⟩), fun vv p => (vv 15) = .pointer (some ⟨b, off + qj * 3 + 1, none⟩), fun vv p => (vv 16) = .int .i64 t0.writes, fun vv p => (vv 17) = .slice (some ⟨b, off, none⟩) tn tc, fun vv p => (vv 18) = .int .i64 (qj : Int), fun vv p => (vv 19) = .pointer (some ⟨b, off + qj * 3, none⟩), fun vv p => (vv 20) = .pointer (some ⟨b, off + qj * 3 + 2, none⟩), fun vv p => (vv 21) = .int .i64 t0.bytes, fun vv p => ∃ a2 c2, (vv 22) = .slice a2 64 c2 ∧ Bs (fun x => u.heap.size ≤ x) p a2 64 c2 sv, fun vv p => True] (by kernel_rfl) (by kernel_rfl) rfl ⟨rfl, rfl, rfl, rfl, trivial⟩ ((below_drewN _ _ _ (Nat.le_refl _)).drew) (by decide) (by kernel_rfl) (fun _ h => h) (fun _ _ h => by obtain ⟨_, _, _, _, _, _, _, h⟩ := h; exact h) (fun _ => Kept.refl _ _) ?_ ?_ ?_
            · exact ⟨fun _ _ _ _ h => h, fun _ _ _ _ h => h, fun _ _ _ _ h => h, fun _ _ _ _ h => h, fun _ _ _ _ h => h, fun _ _ _ _ h => h, fun _ _ _ _ h => h, fun _ _ _ _ h => h, fun _ _ _ _ h => h, fun _ _ _ _ h => h, fun _ _ _ _ h => h, fun _ _ _ _ h => h, fun _ _ _ _ h => h, fun _ _ _ _ h => h, fun _ _ _ _ h => h, fun _ _ _ _ h => h, fun _ _ _ _ h => h, fun _ _ _ _ h => h, fun _ _ _ _ h => h, fun _ _ _ _ h => h, fun _ _ _ _ h => h, fun _ _ _ _ h => h, fun _ _ _ hs h => by obtain ⟨a, c, e1, e2⟩ := h; exact ⟨a, c, e1, e2.kept hs (fun _ _ _ h => h)⟩, fun _ _ _ _ h => h, trivial⟩
            · intro b0 hN hlv
              refine ⟨?_, ?_, ?_, ?_, ?_, ?_, ?_, ?_, ?_, ?_, ?_, ?_, ?_, ?_, ?_, ?_, ?_, ?_, ?_, ?_, ?_, ?_, ?_, ?_, trivial⟩
              · intro vs p hI0 hp
                have hI := Roll.inw_pure (by decide) rfl hI0
                clear hI0
                have e0 : (Roll.putD Drr11 vs [] b0).eval (.tmp 0) = .pointer (some ⟨g, 0, none⟩) := (Roll.eval_old rfl).trans (hlv.at 0 (0, .pointer (some ⟨g, 0, none⟩)) rfl)
                clear hp hlv hN
                unfold Roll.Goes
                simp only [Lrr11, List.getD_cons_zero, List.getD_cons_succ]
                generalize Roll.putD Drr11 vs [] b0 = a1 at *
                refine Roll.goes_val (w' := p) (.pointer (some ⟨g, 0, none⟩)) rfl ?_ ⟨(Roll.outw_pure (by decide) rfl), rfl⟩
                (have ec : ∀ x, a1.eval (.const x) = x := fun _ => rfl); (have ef : ∀ x, a1.eval (.func x) = .func (.func x) #[] #[] := fun _ => rfl); generalize a1.eval = ρ at *
                skip
                go_simp <;> (intros; first | (exfalso; omega) | rfl)
              · intro vs p hI0 hp
                have hI := Roll.inw_pure (by decide) rfl hI0
                clear hI0
                have h0 : (vs 0) = .pointer (some ⟨g, 0, none⟩) := hp 0 (by simp [Lrr11])
                have e61 : (Roll.putD Drr11 vs [0] b0).eval (.tmp 61) = .pointer (some ⟨g, 0, none⟩) := (Roll.eval_new 0 rfl (by decide) (by decide) (by omega)).trans h0
                clear hp hlv hN
                unfold Roll.Goes
                simp only [Lrr11, List.getD_cons_zero, List.getD_cons_succ]
                generalize Roll.putD Drr11 vs [0] b0 = a1 at *
                refine Roll.goes_val (w' := p) (.pointer (some ⟨g, 0, none⟩)) rfl ?_ ⟨(Roll.outw_pure (by decide) rfl), rfl⟩
                (have ec : ∀ x, a1.eval (.const x) = x := fun _ => rfl); (have ef : ∀ x, a1.eval (.func x) = .func (.func x) #[] #[] := fun _ => rfl); generalize a1.eval = ρ at *
                clear h0
                go_simp <;> (intros; first | (exfalso; omega) | rfl)
              · intro vs p hI0 hp
                have hI := Roll.inw_pure (by decide) rfl hI0
                clear hI0
                have h1 : (vs 1) = .pointer (some ⟨g, 0, none⟩) := hp 1 (by simp [Lrr11])
                have e62 : (Roll.putD Drr11 vs [1] b0).eval (.tmp 62) = .pointer (some ⟨g, 0, none⟩) := (Roll.eval_new 1 rfl (by decide) (by decide) (by omega)).trans h1
                clear hp hlv hN
                unfold Roll.Goes
                simp only [Lrr11, List.getD_cons_zero, List.getD_cons_succ]
                generalize Roll.putD Drr11 vs [1] b0 = a1 at *
                refine Roll.goes_val (w' := p) (.pointer (some ⟨g, 0, none⟩)) rfl ?_ ⟨(Roll.outw_pure (by decide) rfl), rfl⟩
                (have ec : ∀ x, a1.eval (.const x) = x := fun _ => rfl); (have ef : ∀ x, a1.eval (.func x) = .func (.func x) #[] #[] := fun _ => rfl); generalize a1.eval = ρ at *
                clear h1
                go_simp <;> (intros; first | (exfalso; omega) | rfl)
              · intro vs p hI0 hp
                have hI := Roll.inw_pure (by decide) rfl hI0
                clear hI0
                have h2 : (vs 2) = .pointer (some ⟨g, 0, none⟩) := hp 2 (by simp [Lrr11])
                have e63 : (Roll.putD Drr11 vs [2] b0).eval (.tmp 63) = .pointer (some ⟨g, 0, none⟩) := (Roll.eval_new 2 rfl (by decide) (by decide) (by omega)).trans h2
                clear hp hlv hN
                unfold Roll.Goes
                simp only [Lrr11, List.getD_cons_zero, List.getD_cons_succ]
                generalize Roll.putD Drr11 vs [2] b0 = a1 at *
                have cf : p.cell? ⟨g, 0, none⟩ = some (.slice (some ⟨gs, so, none⟩) SN co) := (hI.cell (p := ⟨g, 0, none⟩) UGT.out.1).trans UV.out
                refine Roll.goes_val (w' := p) (.slice (some ⟨gs, so, none⟩) SN co) rfl ?_ ⟨(Roll.outw_pure (by decide) rfl), rfl⟩
                (have ec : ∀ x, a1.eval (.const x) = x := fun _ => rfl); (have ef : ∀ x, a1.eval (.func x) = .func (.func x) #[] #[] := fun _ => rfl); generalize a1.eval = ρ at *
                clear h2
                go_simp <;> (intros; first | (exfalso; omega) | rfl)
              · intro vs p hI0 hp
                have hI := Roll.inw_pure (by decide) rfl hI0
                clear hI0
                have e4 : (Roll.putD Drr11 vs [] b0).eval (.tmp 4) = .int .i64 (k : Int) := (Roll.eval_old rfl).trans (hlv.at 2 (4, .int .i64 (k : Int)) rfl)
                clear hp hlv hN
                unfold Roll.Goes
                simp only [Lrr11, List.getD_cons_zero, List.getD_cons_succ]
                generalize Roll.putD Drr11 vs [] b0 = a1 at *
                refine Roll.goes_val (w' := p) (.int .i64 (k : Int)) rfl ?_ ⟨(Roll.outw_pure (by decide) rfl), rfl⟩
                (have ec : ∀ x, a1.eval (.const x) = x := fun _ => rfl); (have ef : ∀ x, a1.eval (.func x) = .func (.func x) #[] #[] := fun _ => rfl); generalize a1.eval = ρ at *
                skip
                go_simp <;> (intros; first | (exfalso; omega) | rfl)
              · intro vs p hI0 hp
                have hI := Roll.inw_pure (by decide) rfl hI0
                clear hI0
                have e0 : (Roll.putD Drr11 vs [] b0).eval (.tmp 0) = .pointer (some ⟨g, 0, none⟩) := (Roll.eval_old rfl).trans (hlv.at 0 (0, .pointer (some ⟨g, 0, none⟩)) rfl)
                clear hp hlv hN
                unfold Roll.Goes
                simp only [Lrr11, List.getD_cons_zero, List.getD_cons_succ]
                generalize Roll.putD Drr11 vs [] b0 = a1 at *
                refine Roll.goes_val (w' := p) (.pointer (some ⟨g, 0, none⟩)) rfl ?_ ⟨(Roll.outw_pure (by decide) rfl), rfl⟩
                (have ec : ∀ x, a1.eval (.const x) = x := fun _ => rfl); (have ef : ∀ x, a1.eval (.func x) = .func (.func x) #[] #[] := fun _ => rfl); generalize a1.eval = ρ at *
                skip
                go_simp <;> (intros; first | (exfalso; omega) | rfl)
              · intro vs p hI0 hp
                have hI := Roll.inw_pure (by decide) rfl hI0
                clear hI0
                have h5 : (vs 5) = .pointer (some ⟨g, 0, none⟩) := hp 5 (by simp [Lrr11])
                have e66 : (Roll.putD Drr11 vs [5] b0).eval (.tmp 66) = .pointer (some ⟨g, 0, none⟩) := (Roll.eval_new 5 rfl (by decide) (by decide) (by omega)).trans h5
                clear hp hlv hN
                unfold Roll.Goes
                simp only [Lrr11, List.getD_cons_zero, List.getD_cons_succ]
                generalize Roll.putD Drr11 vs [5] b0 = a1 at *
                refine Roll.goes_val (w' := p) (.pointer (some ⟨g, 0, none⟩)) rfl ?_ ⟨(Roll.outw_pure (by decide) rfl), rfl⟩
                (have ec : ∀ x, a1.eval (.const x) = x := fun _ => rfl); (have ef : ∀ x, a1.eval (.func x) = .func (.func x) #[] #[] := fun _ => rfl); generalize a1.eval = ρ at *
                clear h5
                go_simp <;> (intros; first | (exfalso; omega) | rfl)
              · intro vs p hI0 hp
                have hI := Roll.inw_pure (by decide) rfl hI0
                clear hI0
                have h6 : (vs 6) = .pointer (some ⟨g, 0, none⟩) := hp 6 (by simp [Lrr11])
                have e67 : (Roll.putD Drr11 vs [6] b0).eval (.tmp 67) = .pointer (some ⟨g, 0, none⟩) := (Roll.eval_new 6 rfl (by decide) (by decide) (by omega)).trans h6
                clear hp hlv hN
                unfold Roll.Goes
                simp only [Lrr11, List.getD_cons_zero, List.getD_cons_succ]
                generalize Roll.putD Drr11 vs [6] b0 = a1 at *
                refine Roll.goes_val (w' := p) (.pointer (some ⟨g, 0, none⟩)) rfl ?_ ⟨(Roll.outw_pure (by decide) rfl), rfl⟩
                (have ec : ∀ x, a1.eval (.const x) = x := fun _ => rfl); (have ef : ∀ x, a1.eval (.func x) = .func (.func x) #[] #[] := fun _ => rfl); generalize a1.eval = ρ at *
                clear h6
                go_simp <;> (intros; first | (exfalso; omega) | rfl)
              · intro vs p hI0 hp
                have hI := Roll.inw_pure (by decide) rfl hI0
                clear hI0
                have h7 : (vs 7) = .pointer (some ⟨g, 0, none⟩) := hp 7 (by simp [Lrr11])
                have e68 : (Roll.putD Drr11 vs [7] b0).eval (.tmp 68) = .pointer (some ⟨g, 0, none⟩) := (Roll.eval_new 7 rfl (by decide) (by decide) (by omega)).trans h7
                clear hp hlv hN
                unfold Roll.Goes
                simp only [Lrr11, List.getD_cons_zero, List.getD_cons_succ]
                generalize Roll.putD Drr11 vs [7] b0 = a1 at *
                have cf : p.cell? ⟨g, 0, none⟩ = some (.slice (some ⟨gs, so, none⟩) SN co) := (hI.cell (p := ⟨g, 0, none⟩) UGT.out.1).trans UV.out
                refine Roll.goes_val (w' := p) (.slice (some ⟨gs, so, none⟩) SN co) rfl ?_ ⟨(Roll.outw_pure (by decide) rfl), rfl⟩
                (have ec : ∀ x, a1.eval (.const x) = x := fun _ => rfl); (have ef : ∀ x, a1.eval (.func x) = .func (.func x) #[] #[] := fun _ => rfl); generalize a1.eval = ρ at *
                clear h7
                go_simp <;> (intros; first | (exfalso; omega) | rfl)
              · intro vs p hI0 hp
                have hI := Roll.inw_pure (by decide) rfl hI0
                clear hI0
                have e4 : (Roll.putD Drr11 vs [] b0).eval (.tmp 4) = .int .i64 (k : Int) := (Roll.eval_old rfl).trans (hlv.at 2 (4, .int .i64 (k : Int)) rfl)
                clear hp hlv hN
                unfold Roll.Goes
                simp only [Lrr11, List.getD_cons_zero, List.getD_cons_succ]
                generalize Roll.putD Drr11 vs [] b0 = a1 at *
                refine Roll.goes_val (w' := p) (.int .i64 (k : Int)) rfl ?_ ⟨(Roll.outw_pure (by decide) rfl), rfl⟩
                (have ec : ∀ x, a1.eval (.const x) = x := fun _ => rfl); (have ef : ∀ x, a1.eval (.func x) = .func (.func x) #[] #[] := fun _ => rfl); generalize a1.eval = ρ at *
                skip
                go_simp <;> (intros; first | (exfalso; omega) | rfl)
              · intro vs p hI0 hp
                have hI := Roll.inw_pure (by decide) rfl hI0
                clear hI0
                have h8 : (vs 8) = .slice (some ⟨gs, so, none⟩) SN co := hp 8 (by simp [Lrr11])
                have h9 : (vs 9) = .int .i64 (k : Int) := hp 9 (by simp [Lrr11])
                have e69 : (Roll.putD Drr11 vs [8, 9] b0).eval (.tmp 69) = .slice (some ⟨gs, so, none⟩) SN co := (Roll.eval_new 8 rfl (by decide) (by decide) (by omega)).trans h8
                have e70 : (Roll.putD Drr11 vs [8, 9] b0).eval (.tmp 70) = .int .i64 (k : Int) := (Roll.eval_new 9 rfl (by decide) (by decide) (by omega)).trans h9
                clear hp hlv hN
                unfold Roll.Goes
                simp only [Lrr11, List.getD_cons_zero, List.getD_cons_succ]
                generalize Roll.putD Drr11 vs [8, 9] b0 = a1 at *
                have hkn := HKN.out
                have hkn2 : (k : Int) < (SN : Int) := by omega
                have hco := HCO.out
                refine Roll.goes_val (w' := p) (.pointer (some ⟨gs, so + k, none⟩)) rfl ?_ ⟨(Roll.outw_pure (by decide) rfl), rfl⟩
                (have ec : ∀ x, a1.eval (.const x) = x := fun _ => rfl); (have ef : ∀ x, a1.eval (.func x) = .func (.func x) #[] #[] := fun _ => rfl); generalize a1.eval = ρ at *
                clear h8 h9
                go_simp <;> (intros; first | (exfalso; omega) | rfl)
              · intro vs p hI0 hp
                have hI := Roll.inw_pure (by decide) rfl hI0
                clear hI0
                have h10 : (vs 10) = .pointer (some ⟨gs, so + k, none⟩) := hp 10 (by simp [Lrr11])
                have e71 : (Roll.putD Drr11 vs [10] b0).eval (.tmp 71) = .pointer (some ⟨gs, so + k, none⟩) := (Roll.eval_new 10 rfl (by decide) (by decide) (by omega)).trans h10
                clear hp hlv hN
                unfold Roll.Goes
                simp only [Lrr11, List.getD_cons_zero, List.getD_cons_succ]
                generalize Roll.putD Drr11 vs [10] b0 = a1 at *
                have cf : p.cell? ⟨gs, so + k, none⟩ = some (.slice (some ⟨rk, ro, none⟩) sl rc) := (hI.cell (p := ⟨gs, so + k, none⟩) UGS.out.1).trans UK.out
                refine Roll.goes_val (w' := p) (.slice (some ⟨rk, ro, none⟩) sl rc) rfl ?_ ⟨(Roll.outw_pure (by decide) rfl), rfl⟩
                (have ec : ∀ x, a1.eval (.const x) = x := fun _ => rfl); (have ef : ∀ x, a1.eval (.func x) = .func (.func x) #[] #[] := fun _ => rfl); generalize a1.eval = ρ at *
                clear h10
                go_simp <;> (intros; first | (exfalso; omega) | rfl)
              · intro vs p hI0 hp
                have hI := Roll.inw_pure (by decide) rfl hI0
                clear hI0
                have e1 : (Roll.putD Drr11 vs [] b0).eval (.tmp 1) = .slice (some ⟨b, off, none⟩) tn tc := (Roll.eval_old rfl).trans (hlv.at 1 (1, .slice (some ⟨b, off, none⟩) tn tc) rfl)
                clear hp hlv hN
                unfold Roll.Goes
                simp only [Lrr11, List.getD_cons_zero, List.getD_cons_succ]
                generalize Roll.putD Drr11 vs [] b0 = a1 at *
                refine Roll.goes_val (w' := p) (.slice (some ⟨b, off, none⟩) tn tc) rfl ?_ ⟨(Roll.outw_pure (by decide) rfl), rfl⟩
                (have ec : ∀ x, a1.eval (.const x) = x := fun _ => rfl); (have ef : ∀ x, a1.eval (.func x) = .func (.func x) #[] #[] := fun _ => rfl); generalize a1.eval = ρ at *
                skip
                go_simp <;> (intros; first | (exfalso; omega) | rfl)
              · intro vs p hI0 hp
                have hI := Roll.inw_pure (by decide) rfl hI0
                clear hI0
                have e5 : (Roll.putD Drr11 vs [] b0).eval (.tmp 5) = .int .i64 (qj : Int) := (Roll.eval_old rfl).trans (hlv.at 3 (5, .int .i64 (qj : Int)) rfl)
                clear hp hlv hN
                unfold Roll.Goes
                simp only [Lrr11, List.getD_cons_zero, List.getD_cons_succ]
                generalize Roll.putD Drr11 vs [] b0 = a1 at *
                refine Roll.goes_val (w' := p) (.int .i64 (qj : Int)) rfl ?_ ⟨(Roll.outw_pure (by decide) rfl), rfl⟩
                (have ec : ∀ x, a1.eval (.const x) = x := fun _ => rfl); (have ef : ∀ x, a1.eval (.func x) = .func (.func x) #[] #[] := fun _ => rfl); generalize a1.eval = ρ at *
                skip
                go_simp <;> (intros; first | (exfalso; omega) | rfl)
              · intro vs p hI0 hp
                have hI := Roll.inw_pure (by decide) rfl hI0
                clear hI0
                have h12 : (vs 12) = .slice (some ⟨b, off, none⟩) tn tc := hp 12 (by simp [Lrr11])
                have h13 : (vs 13) = .int .i64 (qj : Int) := hp 13 (by simp [Lrr11])
                have e73 : (Roll.putD Drr11 vs [12, 13] b0).eval (.tmp 73) = .slice (some ⟨b, off, none⟩) tn tc := (Roll.eval_new 12 rfl (by decide) (by decide) (by omega)).trans h12
                have e74 : (Roll.putD Drr11 vs [12, 13] b0).eval (.tmp 74) = .int .i64 (qj : Int) := (Roll.eval_new 13 rfl (by decide) (by decide) (by omega)).trans h13
                clear hp hlv hN
                unfold Roll.Goes
                simp only [Lrr11, List.getD_cons_zero, List.getD_cons_succ]
                generalize Roll.putD Drr11 vs [12, 13] b0 = a1 at *
                have hqn := HQN.out.1
                have hqn2 := HQN.out.2.1
                have hqc := HQN.out.2.2
                refine Roll.goes_val (w' := p) (.pointer (some ⟨b, off + qj * 3, none⟩)) rfl ?_ ⟨(Roll.outw_pure (by decide) rfl), rfl⟩
                (have ec : ∀ x, a1.eval (.const x) = x := fun _ => rfl); (have ef : ∀ x, a1.eval (.func x) = .func (.func x) #[] #[] := fun _ => rfl); generalize a1.eval = ρ at *
                clear h12 h13
                go_simp <;> (intros; first | (exfalso; omega) | rfl)
              · intro vs p hI0 hp
                have hI := Roll.inw_pure (by decide) rfl hI0
                clear hI0
                have h14 : (vs 14) = .pointer (some ⟨b, off + qj * 3, none⟩) := hp 14 (by simp [Lrr11])
                have e75 : (Roll.putD Drr11 vs [14] b0).eval (.tmp 75) = .pointer (some ⟨b, off + qj * 3, none⟩) := (Roll.eval_new 14 rfl (by decide) (by decide) (by omega)).trans h14
                clear hp hlv hN
                unfold Roll.Goes
                simp only [Lrr11, List.getD_cons_zero, List.getD_cons_succ]
                generalize Roll.putD Drr11 vs [14] b0 = a1 at *
                refine Roll.goes_val (w' := p) (.pointer (some ⟨b, off + qj * 3 + 1, none⟩)) rfl ?_ ⟨(Roll.outw_pure (by decide) rfl), rfl⟩
                (have ec : ∀ x, a1.eval (.const x) = x := fun _ => rfl); (have ef : ∀ x, a1.eval (.func x) = .func (.func x) #[] #[] := fun _ => rfl); generalize a1.eval = ρ at *
                clear h14
                go_simp <;> (intros; first | (exfalso; omega) | rfl)
              · intro vs p hI0 hp
                have hI := Roll.inw_pure (by decide) rfl hI0
                clear hI0
                have h15 : (vs 15) = .pointer (some ⟨b, off + qj * 3 + 1, none⟩) := hp 15 (by simp [Lrr11])
                have e76 : (Roll.putD Drr11 vs [15] b0).eval (.tmp 76) = .pointer (some ⟨b, off + qj * 3 + 1, none⟩) := (Roll.eval_new 15 rfl (by decide) (by decide) (by omega)).trans h15
                clear hp hlv hN
                unfold Roll.Goes
                simp only [Lrr11, List.getD_cons_zero, List.getD_cons_succ]
                generalize Roll.putD Drr11 vs [15] b0 = a1 at *
                have cf : p.cell? ⟨b, off + qj * 3 + 1, none⟩ = some (.int .i64 t0.writes) := (hI.cell (p := ⟨b, off + qj * 3 + 1, none⟩) HBU.out).trans T1.out
                refine Roll.goes_val (w' := p) (.int .i64 t0.writes) rfl ?_ ⟨(Roll.outw_pure (by decide) rfl), rfl⟩
                (have ec : ∀ x, a1.eval (.const x) = x := fun _ => rfl); (have ef : ∀ x, a1.eval (.func x) = .func (.func x) #[] #[] := fun _ => rfl); generalize a1.eval = ρ at *
                clear h15
                go_simp <;> (intros; first | (exfalso; omega) | rfl)
              · intro vs p hI0 hp
                have hI := Roll.inw_pure (by decide) rfl hI0
                clear hI0
                have e1 : (Roll.putD Drr11 vs [] b0).eval (.tmp 1) = .slice (some ⟨b, off, none⟩) tn tc := (Roll.eval_old rfl).trans (hlv.at 1 (1, .slice (some ⟨b, off, none⟩) tn tc) rfl)
                clear hp hlv hN
                unfold Roll.Goes
                simp only [Lrr11, List.getD_cons_zero, List.getD_cons_succ]
                generalize Roll.putD Drr11 vs [] b0 = a1 at *
                refine Roll.goes_val (w' := p) (.slice (some ⟨b, off, none⟩) tn tc) rfl ?_ ⟨(Roll.outw_pure (by decide) rfl), rfl⟩
                (have ec : ∀ x, a1.eval (.const x) = x := fun _ => rfl); (have ef : ∀ x, a1.eval (.func x) = .func (.func x) #[] #[] := fun _ => rfl); generalize a1.eval = ρ at *
                skip
                go_simp <;> (intros; first | (exfalso; omega) | rfl)
              · intro vs p hI0 hp
                have hI := Roll.inw_pure (by decide) rfl hI0
                clear hI0
                have e5 : (Roll.putD Drr11 vs [] b0).eval (.tmp 5) = .int .i64 (qj : Int) := (Roll.eval_old rfl).trans (hlv.at 3 (5, .int .i64 (qj : Int)) rfl)
                clear hp hlv hN
                unfold Roll.Goes
                simp only [Lrr11, List.getD_cons_zero, List.getD_cons_succ]
                generalize Roll.putD Drr11 vs [] b0 = a1 at *
                refine Roll.goes_val (w' := p) (.int .i64 (qj : Int)) rfl ?_ ⟨(Roll.outw_pure (by decide) rfl), rfl⟩
                (have ec : ∀ x, a1.eval (.const x) = x := fun _ => rfl); (have ef : ∀ x, a1.eval (.func x) = .func (.func x) #[] #[] := fun _ => rfl); generalize a1.eval = ρ at *
                skip
                go_simp <;> (intros; first | (exfalso; omega) | rfl)
              · intro vs p hI0 hp
                have hI := Roll.inw_pure (by decide) rfl hI0
                clear hI0
                have h17 : (vs 17) = .slice (some ⟨b, off, none⟩) tn tc := hp 17 (by simp [Lrr11])
                have h18 : (vs 18) = .int .i64 (qj : Int) := hp 18 (by simp [Lrr11])
                have e78 : (Roll.putD Drr11 vs [17, 18] b0).eval (.tmp 78) = .slice (some ⟨b, off, none⟩) tn tc := (Roll.eval_new 17 rfl (by decide) (by decide) (by omega)).trans h17
                have e79 : (Roll.putD Drr11 vs [17, 18] b0).eval (.tmp 79) = .int .i64 (qj : Int) := (Roll.eval_new 18 rfl (by decide) (by decide) (by omega)).trans h18
                clear hp hlv hN
                unfold Roll.Goes
                simp only [Lrr11, List.getD_cons_zero, List.getD_cons_succ]
                generalize Roll.putD Drr11 vs [17, 18] b0 = a1 at *
                have hqn := HQN.out.1
                have hqn2 := HQN.out.2.1
                have hqc := HQN.out.2.2
                refine Roll.goes_val (w' := p) (.pointer (some ⟨b, off + qj * 3, none⟩)) rfl ?_ ⟨(Roll.outw_pure (by decide) rfl), rfl⟩
                (have ec : ∀ x, a1.eval (.const x) = x := fun _ => rfl); (have ef : ∀ x, a1.eval (.func x) = .func (.func x) #[] #[] := fun _ => rfl); generalize a1.eval = ρ at *
                clear h17 h18
                go_simp <;> (intros; first | (exfalso; omega) | rfl)
              · intro vs p hI0 hp
                have hI := Roll.inw_pure (by decide) rfl hI0
                clear hI0
                have h19 : (vs 19) = .pointer (some ⟨b, off + qj * 3, none⟩) := hp 19 (by simp [Lrr11])
                have e80 : (Roll.putD Drr11 vs [19] b0).eval (.tmp 80) = .pointer (some ⟨b, off + qj * 3, none⟩) := (Roll.eval_new 19 rfl (by decide) (by decide) (by omega)).trans h19
                clear hp hlv hN
                unfold Roll.Goes
                simp only [Lrr11, List.getD_cons_zero, List.getD_cons_succ]
                generalize Roll.putD Drr11 vs [19] b0 = a1 at *
                refine Roll.goes_val (w' := p) (.pointer (some ⟨b, off + qj * 3 + 2, none⟩)) rfl ?_ ⟨(Roll.outw_pure (by decide) rfl), rfl⟩
                (have ec : ∀ x, a1.eval (.const x) = x := fun _ => rfl); (have ef : ∀ x, a1.eval (.func x) = .func (.func x) #[] #[] := fun _ => rfl); generalize a1.eval = ρ at *
                clear h19
                go_simp <;> (intros; first | (exfalso; omega) | rfl)
              · intro vs p hI0 hp
                have hI := Roll.inw_pure (by decide) rfl hI0
                clear hI0
                have h20 : (vs 20) = .pointer (some ⟨b, off + qj * 3 + 2, none⟩) := hp 20 (by simp [Lrr11])
                have e81 : (Roll.putD Drr11 vs [20] b0).eval (.tmp 81) = .pointer (some ⟨b, off + qj * 3 + 2, none⟩) := (Roll.eval_new 20 rfl (by decide) (by decide) (by omega)).trans h20
                clear hp hlv hN
                unfold Roll.Goes
                simp only [Lrr11, List.getD_cons_zero, List.getD_cons_succ]
                generalize Roll.putD Drr11 vs [20] b0 = a1 at *
                have cf : p.cell? ⟨b, off + qj * 3 + 2, none⟩ = some (.int .i64 t0.bytes) := (hI.cell (p := ⟨b, off + qj * 3 + 2, none⟩) HBU.out).trans T2.out
                refine Roll.goes_val (w' := p) (.int .i64 t0.bytes) rfl ?_ ⟨(Roll.outw_pure (by decide) rfl), rfl⟩
                (have ec : ∀ x, a1.eval (.const x) = x := fun _ => rfl); (have ef : ∀ x, a1.eval (.func x) = .func (.func x) #[] #[] := fun _ => rfl); generalize a1.eval = ρ at *
                clear h20
                go_simp <;> (intros; first | (exfalso; omega) | rfl)
              · intro vs p hI0 hp
                have hI := Roll.inw_pre (by decide) rfl hI0
                clear hI0
                have h11 : (vs 11) = .slice (some ⟨rk, ro, none⟩) sl rc := hp 11 (by simp [Lrr11])
                have h16 : (vs 16) = .int .i64 t0.writes := hp 16 (by simp [Lrr11])
                have h21 : (vs 21) = .int .i64 t0.bytes := hp 21 (by simp [Lrr11])
                have e72 : (Roll.putD Drr11 vs [11, 16, 21] b0).eval (.tmp 72) = .slice (some ⟨rk, ro, none⟩) sl rc := (Roll.eval_new 11 rfl (by decide) (by decide) (by omega)).trans h11
                have e77 : (Roll.putD Drr11 vs [11, 16, 21] b0).eval (.tmp 77) = .int .i64 t0.writes := (Roll.eval_new 16 rfl (by decide) (by decide) (by omega)).trans h16
                have e82 : (Roll.putD Drr11 vs [11, 16, 21] b0).eval (.tmp 82) = .int .i64 t0.bytes := (Roll.eval_new 21 rfl (by decide) (by decide) (by omega)).trans h21
                clear hp hlv hN
                unfold Roll.Goes
                simp only [Lrr11, List.getD_cons_zero, List.getD_cons_succ]
                generalize Roll.putD Drr11 vs [11, 16, 21] b0 = a1 at *
                refine Roll.goes_call 65 #[.slice (some ⟨rk, ro, none⟩) sl rc, .int .i64 t0.writes, .int .i64 t0.bytes] p rfl (by have ec : ∀ x, a1.eval (.const x) = x := fun _ => rfl; have ef : ∀ x, a1.eval (.func x) = .func (.func x) #[] #[] := fun _ => rfl; generalize a1.eval = ρ at *; go_simp) ?_
                refine (survives_any (Bf := Bf) rk ro sl rc sk t0.writes t0.bytes HSL8.out HSP.out HRC.out (Nat.lt_of_lt_of_le HRK.out hI.size) (HJ.out p hI)).mono ?_
                rintro y p2 ⟨v2, rfl, a2, c2, rfl, hb2, hbl⟩
                rw [← HSV.out] at hb2
                exact ⟨_, rfl, Roll.outw_pre (by decide) rfl (hI.trans (hbl.mono hI.size)) (Kept.of_below _ hbl), a2, c2, rfl, hb2.dom (fun x hx => Nat.le_trans hI.size hx)⟩
              · intro vs p hI0 hp
                have hI := Roll.inw_k0 rfl hI0
                clear hI0
                have h22 : ∃ a2 c2, (vs 22) = .slice a2 64 c2 ∧ Bs (fun x => u.heap.size ≤ x) p a2 64 c2 sv := hp 22 (by simp [Lrr11])
                have e83 : (Roll.putD Drr11 vs [22] b0).eval (.tmp 83) = vs 22 := (Roll.eval_new 22 rfl (by decide) (by decide) (by omega))
                clear hp hlv hN
                unfold Roll.Goes
                simp only [Lrr11, List.getD_cons_zero, List.getD_cons_succ]
                generalize Roll.putD Drr11 vs [22] b0 = a1 at *
                obtain ⟨a2, c2, hv2, hb2⟩ := h22
                rw [hv2] at e83
                have hal : Below p.heap.size p (p.alloc (.cells #[.slice a2 64 c2] 32)) := (Below.refl _ _).alloc (Nat.le_refl _) _
                refine Roll.goes_val (w' := p.alloc (.cells #[.slice a2 64 c2] 32)) (.slice (some ⟨p.heap.size, 0, none⟩) 1 1) rfl (by have ec : ∀ x, a1.eval (.const x) = x := fun _ => rfl; have ef : ∀ x, a1.eval (.func x) = .func (.func x) #[] #[] := fun _ => rfl; have hbs := run_bs56; generalize a1.eval = ρ at *; go_simp <;> (intros; first | (exfalso; omega) | rfl)) ⟨Roll.outw_k0 rfl ⟨p.heap.size, a2, c2, rfl, hI.size, heap_new rfl, hb2.small.kept (Kept.of_below (fun _ => False) hal) (fun _ _ _ h => h), hI.trans (hal.mono hI.size)⟩ (Kept.of_below _ hal), trivial⟩
            · intro vs p hI hR
              have h0 : (vs 0) = .pointer (some ⟨g, 0, none⟩) := hR 0 (by omega)
              have h1 : (vs 1) = .pointer (some ⟨g, 0, none⟩) := hR 1 (by omega)
              have h2 : (vs 2) = .pointer (some ⟨g, 0, none⟩) := hR 2 (by omega)
              have h3 : (vs 3) = .slice (some ⟨gs, so, none⟩) SN co := hR 3 (by omega)
              have h4 : (vs 4) = .int .i64 (k : Int) := hR 4 (by omega)
              have h5 : (vs 5) = .pointer (some ⟨g, 0, none⟩) := hR 5 (by omega)
              have h6 : (vs 6) = .pointer (some ⟨g, 0, none⟩) := hR 6 (by omega)
              have h7 : (vs 7) = .pointer (some ⟨g, 0, none⟩) := hR 7 (by omega)
              have h8 : (vs 8) = .slice (some ⟨gs, so, none⟩) SN co := hR 8 (by omega)
              have h9 : (vs 9) = .int .i64 (k : Int) := hR 9 (by omega)
              have h10 : (vs 10) = .pointer (some ⟨gs, so + k, none⟩) := hR 10 (by omega)
              have h11 : (vs 11) = .slice (some ⟨rk, ro, none⟩) sl rc := hR 11 (by omega)
              have h12 : (vs 12) = .slice (some ⟨b, off, none⟩) tn tc := hR 12 (by omega)
              have h13 : (vs 13) = .int .i64 (qj : Int) := hR 13 (by omega)
              have h14 : (vs 14) = .pointer (some ⟨b, off + qj * 3, none⟩) := hR 14 (by omega)
              have h15 : (vs 15) = .pointer (some ⟨b, off + qj * 3 + 1, none⟩) := hR 15 (by omega)
              have h16 : (vs 16) = .int .i64 t0.writes := hR 16 (by omega)
              have h17 : (vs 17) = .slice (some ⟨b, off, none⟩) tn tc := hR 17 (by omega)
              have h18 : (vs 18) = .int .i64 (qj : Int) := hR 18 (by omega)
              have h19 : (vs 19) = .pointer (some ⟨b, off + qj * 3, none⟩) := hR 19 (by omega)
              have h20 : (vs 20) = .pointer (some ⟨b, off + qj * 3 + 2, none⟩) := hR 20 (by omega)
              have h21 : (vs 21) = .int .i64 t0.bytes := hR 21 (by omega)
              have h22 : ∃ a2 c2, (vs 22) = .slice a2 64 c2 ∧ Bs (fun x => u.heap.size ≤ x) p a2 64 c2 sv := hR 22 (by omega)
              have h23 : True := hR 23 (by omega)
              clear hR
              simp only [List.range_succ, List.range_zero, List.nil_append, List.cons_append, Roll.putD, Act.put, List.getD_cons_zero, List.getD_cons_succ, List.setIfInBounds_toArray, List.set_cons_zero, List.set_cons_succ, List.drop_succ_cons, List.drop_zero, Drr11]
              simp only [h0, h1, h2, h3, h4, h5, h6, h7, h8, h9, h10, h11, h12, h13, h14, h15, h16, h17, h18, h19, h20, h21]
              clear h0 h1 h2 h3 h4 h5 h6 h7 h8 h9 h10 h11 h12 h13 h14 h15 h16 h17 h18 h19 h20 h21
              generalize vs 23 = v8 at *
              obtain ⟨r8, a2, c2, rfl, g1, g2, g3, hPB⟩ := hI
              clear h22 h23
              have cV2 : p.cell? ⟨gs, so + k, none⟩ = some (.slice (some ⟨rk, ro, none⟩) sl rc) := (hPB.cell (p := ⟨gs, so + k, none⟩) UGS.out.1).trans UK.out
              have fV2 : p.frozen? ⟨gs, so + k, none⟩ = false := ((Kept.of_below (fun _ => False) hPB).frozen (p := ⟨gs, so + k, none⟩) UGS.out.1 (fun h => h)).trans (UF.out _)
              have HP : Hid (Lv w0 (p.setCell ⟨gs, so + k, none⟩ (.slice (some ⟨r8, 0, none⟩) 1 1)) (L.set i0 (refO g (dR d ts (k + 1))))) := Lib.hid (by
                obtain ⟨P2, hP2⟩ : ∃ P2, P2 = (p).setCell ⟨gs, so + k, none⟩ (.slice (some ⟨r8, 0, none⟩) 1 1) := ⟨_, rfl⟩
                rw [← hP2]
                have hT := HT.out
                have hgs8 : ¬ gs = rk := UGS.out.2
                have hgq : gs < u.heap.size := UGS.out.1
                have hrq : rk < u.heap.size := HRK.out
                have hW : Below u.heap.size u (p) := hPB
                have hks : Kept (fun j => j = gs) (p) P2 := by rw [hP2]; exact (Kept.refl (fun j => j = gs) _).setCell (fun _ => rfl) _
                have hkq : Kept (fun j => j = gs) u P2 := (Kept.of_below _ hW).trans hks (fun _ _ h => h)
                have hin : InR P2 (fun x => Bf x ∨ (u.heap.size ≤ x ∧ x < r8)) (r8) (.slice (some ⟨r8, 0, none⟩) 1 1) ([sv]) := inR_one (hks.heap g2 (by omega)) ((g3.kept hks (fun x _ hx e => by omega)).dom (fun x hx => .inr hx))
                have hr8 : r8 = row k ∨ u.heap.size ≤ r8 := (.inr g1)
                have hB2 : ∀ x, (fun x => Bf x ∨ (u.heap.size ≤ x ∧ x < r8)) x → Bf x ∨ (u.heap.size ≤ x ∧ x ≠ r8) := (fun x hx => hx.imp id (fun hx => ⟨hx.1, by omega⟩))
                have hp := hT.put (k := k) HKS.out (w' := P2) (r' := r8) (v' := .slice (some ⟨r8, 0, none⟩) 1 1) (s' := [sv]) (Bf' := fun x => Bf x ∨ (u.heap.size ≤ x ∧ x < r8))
                  (hkq.mono (fun j _ h => .inr (by rw [h]))) (fun xs hx => by
                    rw [hP2]
                    rw [HSN.out] at hx ⊢
                    exact (hx.kept (Kept.of_below (fun _ => False) hW) (fun _ _ h => h)).set k HKN.out _)
                  hin hr8 (fun x hx => .inl hx) hB2 (fun x hx => by
                    have h1 := hkq.size
                    have h2 := hks.size
                    have h3 := heap_lt g2
                    rcases hx with hx | hx
                    · have := hT.lt x hx; omega
                    · omega)
                rw [HSE.out, HDX.out] at hp
                have hl2 : (dR d ts (k + 1)).S.length = dd.S.length := by rw [← HSE.out, List.length_set]
                have hf := HSET.out P2 (refO g (dR d ts (k + 1))) (fun x => TBlk g (some gs) (fun j => if j = k then r8 else row j) (fun x => Bf x ∨ (u.heap.size ≤ x ∧ x < r8)) dd.S.length x) ⟨_, _, _, _, hp, fun x hx => by rw [hl2] at hx; exact hx⟩
                  (hkq.mono (fun j _ h => HTB.out j (.inr (.inl (by rw [h])))))
                  (fun j hj => (TBlk.put (z := u.heap.size) HKS.out hr8 hB2 j hj).imp (HTB.out j) id) (fun j hj => hp.blk_lt j (by rw [hl2]; exact hj))
                rw [List.set_set] at hf
                exact hf)
              clear g1 g2 g3 hPB
              go_wp2_with fail
              go_roundw
              case rel => exact ⟨k + 1, by omega, by go_num, HP.out⟩
              case measure => simp [intOf]; omega
          · have hjn2 : (tn : Int) ≤ (j : Int) := by omega
            have HBU : Hid (b < u.heap.size) := Lib.hid (Nat.lt_of_lt_of_le hbw HL.out.size)
            have hqt := (List.getElem?_eq_some_iff.1 hq2)
            have hr3 : w0.rangeAt b (off + qj * 3) [.int .i64 t0.sector, .int .i64 t0.writes, .int .i64 t0.bytes] := by
              have := hrb qj hqt.1
              rw [hqt.2] at this
              exact this
            have T1 : Hid (u.cell? ⟨b, off + qj * 3 + 1, none⟩ = some (.int .i64 t0.writes)) := Lib.hid ((HL.out.args.cell (p := ⟨b, off + qj * 3 + 1, none⟩) hbw).trans (hr3 1 _ rfl))
            have T2 : Hid (u.cell? ⟨b, off + qj * 3 + 2, none⟩ = some (.int .i64 t0.bytes)) := Lib.hid ((HL.out.args.cell (p := ⟨b, off + qj * 3 + 2, none⟩) hbw).trans (hr3 2 _ rfl))
            have HQN : Hid (qj < tn ∧ (qj : Int) < (tn : Int) ∧ tn ≤ tc) := Lib.hid ⟨by omega, by omega, htc⟩
            obtain ⟨sv, hsv⟩ : ∃ sv, sv = surv sk t0.writes t0.bytes := ⟨_, rfl⟩
            have HSV := Lib.hid hsv
            have HRS : Hid ((d.restart ts).S[k]? = some [sv]) := Lib.hid (by
              rw [List.getElem?_eq_getElem HKR.out, restart_sec d ts k HKR.out, restart_get d ts k HKO.out HKR.out, HSKD.out, hq3, hsv])
            have HSE : Hid (dd.S.set k [sv] = (dR d ts (k + 1)).S) := Lib.hid (HMS.out _ HRS.out)
            have HJ : Hid (∀ p, Below u.heap.size u p → ∀ j (hj : j < sk.length), ∃ a c, p.cell? ⟨rk, ro + j, none⟩ = some (.slice a 64 c) ∧ Bs Bf p a 64 c sk[j]) := Lib.hid (fun p hpb j hj => by
              obtain ⟨a, c, e1, e2⟩ := HYJ.out j hj
              obtain ⟨r', ro', rc', e3, e4, _, _, _, e5⟩ := HYS.out.at HSP.out
              cases e3; cases e4
              have hjl : j < ys.length := by rw [HYS.out.1, ← HSL8.out]; exact hj
              have e6 := e5 j hjl
              rw [List.getElem?_eq_getElem hjl] at e1
              rw [Option.some.inj e1] at e6
              exact ⟨a, c, (hpb.cell (p := ⟨rk, ro + j, none⟩) HRK.out).trans e6, e2.kept (Kept.of_below (fun _ => False) hpb) (fun _ _ _ h => h)⟩)
            have hqn0 : ¬ ((qj : Int) < 0) := by omega
            have hqn1 : (0 : Int) ≤ (qj : Int) := by omega
            clear hqt hr3 hsv hq2 hq3
            go_upto_region 11 with fail
            clear cV0 cK0 hco1
            refine Roll.region_v 24 92 Drr11 Lrr11 [(0, .pointer (some ⟨g, 0, none⟩)), (1, .slice (some ⟨b, off, none⟩) tn tc), (4, .int .i64 (k : Int)), (5, .int .i64 (qj : Int))] 23 [true, true, true, true, true, true, true, true, true, true, true, true, true, true, true, true, true, true, true, true, true, true, false, false] (fun p => Below u.heap.size u p) (fun vv p => ∃ s a2 c2, vv = .slice (some ⟨s, 0, none⟩) 1 1 ∧ u.heap.size ≤ s ∧ p.heap[s]? = some (.cells #[.slice a2 64 c2] 32 (0, 0)) ∧ Bs (fun x => u.heap.size ≤ x ∧ x < s) p a2 64 c2 sv ∧ Below u.heap.size u p) (fun p => Below u.heap.size u p) (Kept (fun _ => False)) [fun vv p => (vv 0) = .pointer (some ⟨g, 0, none⟩), fun vv p => (vv 1) = .pointer (some ⟨g, 0, none⟩), fun vv p => (vv 2) = .pointer (some ⟨g, 0, none⟩), fun vv p => (vv 3) = .slice (some ⟨gs, so, none⟩) SN co, fun vv p => (vv 4) = .int .i64 (k : Int), fun vv p => (vv 5) = .pointer (some ⟨g, 0, none⟩), fun vv p => (vv 6) = .pointer (some ⟨g, 0, none⟩), fun vv p => (vv 7) = .pointer (some ⟨g, 0, none⟩), fun vv p => (vv 8) = .slice (some ⟨gs, so, none⟩) SN co, fun vv p => (vv 9) = .int .i64 (k : Int), fun vv p => (vv 10) = .pointer (some ⟨gs, so + k, none⟩), fun vv p => (vv 11) = .slice (some ⟨rk, ro, none⟩) sl rc, fun vv p => (vv 12) = .slice (some ⟨b, off, none⟩) tn tc, fun vv p => (vv 13) = .int .i64 (qj : Int), fun vv p => (vv 14) = .pointer (some ⟨b, off + qj * 3, none⟩), fun vv p => (vv 15) = .pointer (some ⟨b, off + qj * 3 + 1, none⟩), fun vv p => (vv 16) = .int .i64 t0.writes, fun vv p => (vv 17) = .slice (some ⟨b, off, none⟩) tn tc, fun vv p => (vv 18) = .int .i64 (qj : Int), fun vv p => (vv 19) = .pointer (some ⟨b, off + qj * 3, none⟩), fun vv p => (vv 20) = .pointer (some ⟨b, off + qj * 3 + 2, none⟩), fun vv p => (vv 21) = .int .i64 t0.bytes, fun vv p => ∃ a2 c2, (vv 22) = .slice a2 64 c2 ∧ Bs (fun x => u.heap.size ≤ x) p a2 64 c2 sv, fun vv p => True] (by kernel_rfl) (by kernel_rfl) rfl ⟨rfl, rfl, rfl, rfl, trivial⟩ ((below_drewN _ _ _ (Nat.le_refl _)).drew) (by decide) (by kernel_rfl) (fun _ h => h) (fun _ _ h => by obtain ⟨_, _, _, _, _, _, _, h⟩ := h; exact h) (fun _ => Kept.refl _ _) ?_ ?_ ?_
            · exact ⟨fun _ _ _ _ h => h, fun _ _ _ _ h => h, fun _ _ _ _ h => h, fun _ _ _ _ h => h, fun _ _ _ _ h => h, fun _ _ _ _ h => h, fun _ _ _ _ h => h, fun _ _ _ _ h => h, fun _ _ _ _ h => h, fun _ _ _ _ h => h, fun _ _ _ _ h => h, fun _ _ _ _ h => h, fun _ _ _ _ h => h, fun _ _ _ _ h => h, fun _ _ _ _ h => h, fun _ _ _ _ h => h, fun _ _ _ _ h => h, fun _ _ _ _ h => h, fun _ _ _ _ h => h, fun _ _ _ _ h => h, fun _ _ _ _ h => h, fun _ _ _ _ h => h, fun _ _ _ hs h => by obtain ⟨a, c, e1, e2⟩ := h; exact ⟨a, c, e1, e2.kept hs (fun _ _ _ h => h)⟩, fun _ _ _ _ h => h, trivial⟩
            · intro b0 hN hlv
              refine ⟨?_, ?_, ?_, ?_, ?_, ?_, ?_, ?_, ?_, ?_, ?_, ?_, ?_, ?_, ?_, ?_, ?_, ?_, ?_, ?_, ?_, ?_, ?_, ?_, trivial⟩
              · intro vs p hI0 hp
                have hI := Roll.inw_pure (by decide) rfl hI0
                clear hI0
                have e0 : (Roll.putD Drr11 vs [] b0).eval (.tmp 0) = .pointer (some ⟨g, 0, none⟩) := (Roll.eval_old rfl).trans (hlv.at 0 (0, .pointer (some ⟨g, 0, none⟩)) rfl)
                clear hp hlv hN
                unfold Roll.Goes
                simp only [Lrr11, List.getD_cons_zero, List.getD_cons_succ]
                generalize Roll.putD Drr11 vs [] b0 = a1 at *
                refine Roll.goes_val (w' := p) (.pointer (some ⟨g, 0, none⟩)) rfl ?_ ⟨(Roll.outw_pure (by decide) rfl), rfl⟩
                (have ec : ∀ x, a1.eval (.const x) = x := fun _ => rfl); (have ef : ∀ x, a1.eval (.func x) = .func (.func x) #[] #[] := fun _ => rfl); generalize a1.eval = ρ at *
                skip
                go_simp <;> (intros; first | (exfalso; omega) | rfl)
              · intro vs p hI0 hp
                have hI := Roll.inw_pure (by decide) rfl hI0
                clear hI0
                have h0 : (vs 0) = .pointer (some ⟨g, 0, none⟩) := hp 0 (by simp [Lrr11])
                have e61 : (Roll.putD Drr11 vs [0] b0).eval (.tmp 61) = .pointer (some ⟨g, 0, none⟩) := (Roll.eval_new 0 rfl (by decide) (by decide) (by omega)).trans h0
                clear hp hlv hN
                unfold Roll.Goes
                simp only [Lrr11, List.getD_cons_zero, List.getD_cons_succ]
                generalize Roll.putD Drr11 vs [0] b0 = a1 at *
                refine Roll.goes_val (w' := p) (.pointer (some ⟨g, 0, none⟩)) rfl ?_ ⟨(Roll.outw_pure (by decide) rfl), rfl⟩
                (have ec : ∀ x, a1.eval (.const x) = x := fun _ => rfl); (have ef : ∀ x, a1.eval (.func x) = .func (.func x) #[] #[] := fun _ => rfl); generalize a1.eval = ρ at *
                clear h0
                go_simp <;> (intros; first | (exfalso; omega) | rfl)
              · intro vs p hI0 hp
                have hI := Roll.inw_pure (by decide) rfl hI0
                clear hI0
                have h1 : (vs 1) = .pointer (some ⟨g, 0, none⟩) := hp 1 (by simp [Lrr11])
                have e62 : (Roll.putD Drr11 vs [1] b0).eval (.tmp 62) = .pointer (some ⟨g, 0, none⟩) := (Roll.eval_new 1 rfl (by decide) (by decide) (by omega)).trans h1
                clear hp hlv hN
                unfold Roll.Goes
                simp only [Lrr11, List.getD_cons_zero, List.getD_cons_succ]
                generalize Roll.putD Drr11 vs [1] b0 = a1 at *
                refine Roll.goes_val (w' := p) (.pointer (some ⟨g, 0, none⟩)) rfl ?_ ⟨(Roll.outw_pure (by decide) rfl), rfl⟩
                (have ec : ∀ x, a1.eval (.const x) = x := fun _ => rfl); (have ef : ∀ x, a1.eval (.func x) = .func (.func x) #[] #[] := fun _ => rfl); generalize a1.eval = ρ at *
                clear h1
                go_simp <;> (intros; first | (exfalso; omega) | rfl)
              · intro vs p hI0 hp
                have hI := Roll.inw_pure (by decide) rfl hI0
                clear hI0
                have h2 : (vs 2) = .pointer (some ⟨g, 0, none⟩) := hp 2 (by simp [Lrr11])
                have e63 : (Roll.putD Drr11 vs [2] b0).eval (.tmp 63) = .pointer (some ⟨g, 0, none⟩) := (Roll.eval_new 2 rfl (by decide) (by decide) (by omega)).trans h2
                clear hp hlv hN
                unfold Roll.Goes
                simp only [Lrr11, List.getD_cons_zero, List.getD_cons_succ]
                generalize Roll.putD Drr11 vs [2] b0 = a1 at *
                have cf : p.cell? ⟨g, 0, none⟩ = some (.slice (some ⟨gs, so, none⟩) SN co) := (hI.cell (p := ⟨g, 0, none⟩) UGT.out.1).trans UV.out
                refine Roll.goes_val (w' := p) (.slice (some ⟨gs, so, none⟩) SN co) rfl ?_ ⟨(Roll.outw_pure (by decide) rfl), rfl⟩
                (have ec : ∀ x, a1.eval (.const x) = x := fun _ => rfl); (have ef : ∀ x, a1.eval (.func x) = .func (.func x) #[] #[] := fun _ => rfl); generalize a1.eval = ρ at *
                clear h2
                go_simp <;> (intros; first | (exfalso; omega) | rfl)
              · intro vs p hI0 hp
                have hI := Roll.inw_pure (by decide) rfl hI0
                clear hI0
                have e4 : (Roll.putD Drr11 vs [] b0).eval (.tmp 4) = .int .i64 (k : Int) := (Roll.eval_old rfl).trans (hlv.at 2 (4, .int .i64 (k : Int)) rfl)
                clear hp hlv hN
                unfold Roll.Goes
                simp only [Lrr11, List.getD_cons_zero, List.getD_cons_succ]
                generalize Roll.putD Drr11 vs [] b0 = a1 at *
                refine Roll.goes_val (w' := p) (.int .i64 (k : Int)) rfl ?_ ⟨(Roll.outw_pure (by decide) rfl), rfl⟩
                (have ec : ∀ x, a1.eval (.const x) = x := fun _ => rfl); (have ef : ∀ x, a1.eval (.func x) = .func (.func x) #[] #[] := fun _ => rfl); generalize a1.eval = ρ at *
                skip
                go_simp <;> (intros; first | (exfalso; omega) | rfl)
              · intro vs p hI0 hp
                have hI := Roll.inw_pure (by decide) rfl hI0
                clear hI0
                have e0 : (Roll.putD Drr11 vs [] b0).eval (.tmp 0) = .pointer (some ⟨g, 0, none⟩) := (Roll.eval_old rfl).trans (hlv.at 0 (0, .pointer (some ⟨g, 0, none⟩)) rfl)
                clear hp hlv hN
                unfold Roll.Goes
                simp only [Lrr11, List.getD_cons_zero, List.getD_cons_succ]
                generalize Roll.putD Drr11 vs [] b0 = a1 at *
                refine Roll.goes_val (w' := p) (.pointer (some ⟨g, 0, none⟩)) rfl ?_ ⟨(Roll.outw_pure (by decide) rfl), rfl⟩
                (have ec : ∀ x, a1.eval (.const x) = x := fun _ => rfl); (have ef : ∀ x, a1.eval (.func x) = .func (.func x) #[] #[] := fun _ => rfl); generalize a1.eval = ρ at *
                skip
                go_simp <;> (intros; first | (exfalso; omega) | rfl)
              · intro vs p hI0 hp
                have hI := Roll.inw_pure (by decide) rfl hI0
                clear hI0
                have h5 : (vs 5) = .pointer (some ⟨g, 0, none⟩) := hp 5 (by simp [Lrr11])
                have e66 : (Roll.putD Drr11 vs [5] b0).eval (.tmp 66) = .pointer (some ⟨g, 0, none⟩) := (Roll.eval_new 5 rfl (by decide) (by decide) (by omega)).trans h5
                clear hp hlv hN
                unfold Roll.Goes
                simp only [Lrr11, List.getD_cons_zero, List.getD_cons_succ]
                generalize Roll.putD Drr11 vs [5] b0 = a1 at *
                refine Roll.goes_val (w' := p) (.pointer (some ⟨g, 0, none⟩)) rfl ?_ ⟨(Roll.outw_pure (by decide) rfl), rfl⟩
                (have ec : ∀ x, a1.eval (.const x) = x := fun _ => rfl); (have ef : ∀ x, a1.eval (.func x) = .func (.func x) #[] #[] := fun _ => rfl); generalize a1.eval = ρ at *
                clear h5
                go_simp <;> (intros; first | (exfalso; omega) | rfl)
              · intro vs p hI0 hp
                have hI := Roll.inw_pure (by decide) rfl hI0
                clear hI0
                have h6 : (vs 6) = .pointer (some ⟨g, 0, none⟩) := hp 6 (by simp [Lrr11])
                have e67 : (Roll.putD Drr11 vs [6] b0).eval (.tmp 67) = .pointer (some ⟨g, 0, none⟩) := (Roll.eval_new 6 rfl (by decide) (by decide) (by omega)).trans h6
                clear hp hlv hN
                unfold Roll.Goes
                simp only [Lrr11, List.getD_cons_zero, List.getD_cons_succ]
                generalize Roll.putD Drr11 vs [6] b0 = a1 at *
                refine Roll.goes_val (w' := p) (.pointer (some ⟨g, 0, none⟩)) rfl ?_ ⟨(Roll.outw_pure (by decide) rfl), rfl⟩
                (have ec : ∀ x, a1.eval (.const x) = x := fun _ => rfl); (have ef : ∀ x, a1.eval (.func x) = .func (.func x) #[] #[] := fun _ => rfl); generalize a1.eval = ρ at *
                clear h6
                go_simp <;> (intros; first | (exfalso; omega) | rfl)
              · intro vs p hI0 hp
                have hI := Roll.inw_pure (by decide) rfl hI0
                clear hI0
                have h7 : (vs 7) = .pointer (some ⟨g, 0, none⟩) := hp 7 (by simp [Lrr11])
                have e68 : (Roll.putD Drr11 vs [7] b0).eval (.tmp 68) = .pointer (some ⟨g, 0, none⟩) := (Roll.eval_new 7 rfl (by decide) (by decide) (by omega)).trans h7
                clear hp hlv hN
                unfold Roll.Goes
                simp only [Lrr11, List.getD_cons_zero, List.getD_cons_succ]
                generalize Roll.putD Drr11 vs [7] b0 = a1 at *
                have cf : p.cell? ⟨g, 0, none⟩ = some (.slice (some ⟨gs, so, none⟩) SN co) := (hI.cell (p := ⟨g, 0, none⟩) UGT.out.1).trans UV.out
                refine Roll.goes_val (w' := p) (.slice (some ⟨gs, so, none⟩) SN co) rfl ?_ ⟨(Roll.outw_pure (by decide) rfl), rfl⟩
                (have ec : ∀ x, a1.eval (.const x) = x := fun _ => rfl); (have ef : ∀ x, a1.eval (.func x) = .func (.func x) #[] #[] := fun _ => rfl); generalize a1.eval = ρ at *
                clear h7
                go_simp <;> (intros; first | (exfalso; omega) | rfl)
              · intro vs p hI0 hp
                have hI := Roll.inw_pure (by decide) rfl hI0
                clear hI0
                have e4 : (Roll.putD Drr11 vs [] b0).eval (.tmp 4) = .int .i64 (k : Int) := (Roll.eval_old rfl).trans (hlv.at 2 (4, .int .i64 (k : Int)) rfl)
                clear hp hlv hN
                unfold Roll.Goes
                simp only [Lrr11, List.getD_cons_zero, List.getD_cons_succ]
                generalize Roll.putD Drr11 vs [] b0 = a1 at *
                refine Roll.goes_val (w' := p) (.int .i64 (k : Int)) rfl ?_ ⟨(Roll.outw_pure (by decide) rfl), rfl⟩
                (have ec : ∀ x, a1.eval (.const x) = x := fun _ => rfl); (have ef : ∀ x, a1.eval (.func x) = .func (.func x) #[] #[] := fun _ => rfl); generalize a1.eval = ρ at *
                skip
                go_simp <;> (intros; first | (exfalso; omega) | rfl)
              · intro vs p hI0 hp
                have hI := Roll.inw_pure (by decide) rfl hI0
                clear hI0
                have h8 : (vs 8) = .slice (some ⟨gs, so, none⟩) SN co := hp 8 (by simp [Lrr11])
                have h9 : (vs 9) = .int .i64 (k : Int) := hp 9 (by simp [Lrr11])
                have e69 : (Roll.putD Drr11 vs [8, 9] b0).eval (.tmp 69) = .slice (some ⟨gs, so, none⟩) SN co := (Roll.eval_new 8 rfl (by decide) (by decide) (by omega)).trans h8
                have e70 : (Roll.putD Drr11 vs [8, 9] b0).eval (.tmp 70) = .int .i64 (k : Int) := (Roll.eval_new 9 rfl (by decide) (by decide) (by omega)).trans h9
                clear hp hlv hN
                unfold Roll.Goes
                simp only [Lrr11, List.getD_cons_zero, List.getD_cons_succ]
                generalize Roll.putD Drr11 vs [8, 9] b0 = a1 at *
                have hkn := HKN.out
                have hkn2 : (k : Int) < (SN : Int) := by omega
                have hco := HCO.out
                refine Roll.goes_val (w' := p) (.pointer (some ⟨gs, so + k, none⟩)) rfl ?_ ⟨(Roll.outw_pure (by decide) rfl), rfl⟩
                (have ec : ∀ x, a1.eval (.const x) = x := fun _ => rfl); (have ef : ∀ x, a1.eval (.func x) = .func (.func x) #[] #[] := fun _ => rfl); generalize a1.eval = ρ at *
                clear h8 h9
                go_simp <;> (intros; first | (exfalso; omega) | rfl)
              · intro vs p hI0 hp
                have hI := Roll.inw_pure (by decide) rfl hI0
                clear hI0
                have h10 : (vs 10) = .pointer (some ⟨gs, so + k, none⟩) := hp 10 (by simp [Lrr11])
                have e71 : (Roll.putD Drr11 vs [10] b0).eval (.tmp 71) = .pointer (some ⟨gs, so + k, none⟩) := (Roll.eval_new 10 rfl (by decide) (by decide) (by omega)).trans h10
                clear hp hlv hN
                unfold Roll.Goes
                simp only [Lrr11, List.getD_cons_zero, List.getD_cons_succ]
                generalize Roll.putD Drr11 vs [10] b0 = a1 at *
                have cf : p.cell? ⟨gs, so + k, none⟩ = some (.slice (some ⟨rk, ro, none⟩) sl rc) := (hI.cell (p := ⟨gs, so + k, none⟩) UGS.out.1).trans UK.out
                refine Roll.goes_val (w' := p) (.slice (some ⟨rk, ro, none⟩) sl rc) rfl ?_ ⟨(Roll.outw_pure (by decide) rfl), rfl⟩
                (have ec : ∀ x, a1.eval (.const x) = x := fun _ => rfl); (have ef : ∀ x, a1.eval (.func x) = .func (.func x) #[] #[] := fun _ => rfl); generalize a1.eval = ρ at *
                clear h10
                go_simp <;> (intros; first | (exfalso; omega) | rfl)
              · intro vs p hI0 hp
                have hI := Roll.inw_pure (by decide) rfl hI0
                clear hI0
                have e1 : (Roll.putD Drr11 vs [] b0).eval (.tmp 1) = .slice (some ⟨b, off, none⟩) tn tc := (Roll.eval_old rfl).trans (hlv.at 1 (1, .slice (some ⟨b, off, none⟩) tn tc) rfl)
                clear hp hlv hN
                unfold Roll.Goes
                simp only [Lrr11, List.getD_cons_zero, List.getD_cons_succ]
                generalize Roll.putD Drr11 vs [] b0 = a1 at *
                refine Roll.goes_val (w' := p) (.slice (some ⟨b, off, none⟩) tn tc) rfl ?_ ⟨(Roll.outw_pure (by decide) rfl), rfl⟩
                (have ec : ∀ x, a1.eval (.const x) = x := fun _ => rfl); (have ef : ∀ x, a1.eval (.func x) = .func (.func x) #[] #[] := fun _ => rfl); generalize a1.eval = ρ at *
                skip
                go_simp <;> (intros; first | (exfalso; omega) | rfl)
              · intro vs p hI0 hp
                have hI := Roll.inw_pure (by decide) rfl hI0
                clear hI0
                have e5 : (Roll.putD Drr11 vs [] b0).eval (.tmp 5) = .int .i64 (qj : Int) := (Roll.eval_old rfl).trans (hlv.at 3 (5, .int .i64 (qj : Int)) rfl)
                clear hp hlv hN
                unfold Roll.Goes
                simp only [Lrr11, List.getD_cons_zero, List.getD_cons_succ]
                generalize Roll.putD Drr11 vs [] b0 = a1 at *
                refine Roll.goes_val (w' := p) (.int .i64 (qj : Int)) rfl ?_ ⟨(Roll.outw_pure (by decide) rfl), rfl⟩
                (have ec : ∀ x, a1.eval (.const x) = x := fun _ => rfl); (have ef : ∀ x, a1.eval (.func x) = .func (.func x) #[] #[] := fun _ => rfl); generalize a1.eval = ρ at *
                skip
                go_simp <;> (intros; first | (exfalso; omega) | rfl)
              · intro vs p hI0 hp
                have hI := Roll.inw_pure (by decide) rfl hI0
                clear hI0
                have h12 : (vs 12) = .slice (some ⟨b, off, none⟩) tn tc := hp 12 (by simp [Lrr11])
                have h13 : (vs 13) = .int .i64 (qj : Int) := hp 13 (by simp [Lrr11])
                have e73 : (Roll.putD Drr11 vs [12, 13] b0).eval (.tmp 73) = .slice (some ⟨b, off, none⟩) tn tc := (Roll.eval_new 12 rfl (by decide) (by decide) (by omega)).trans h12
                have e74 : (Roll.putD Drr11 vs [12, 13] b0).eval (.tmp 74) = .int .i64 (qj : Int) := (Roll.eval_new 13 rfl (by decide) (by decide) (by omega)).trans h13
                clear hp hlv hN
                unfold Roll.Goes
                simp only [Lrr11, List.getD_cons_zero, List.getD_cons_succ]
                generalize Roll.putD Drr11 vs [12, 13] b0 = a1 at *
                have hqn := HQN.out.1
                have hqn2 := HQN.out.2.1
                have hqc := HQN.out.2.2
                refine Roll.goes_val (w' := p) (.pointer (some ⟨b, off + qj * 3, none⟩)) rfl ?_ ⟨(Roll.outw_pure (by decide) rfl), rfl⟩
                (have ec : ∀ x, a1.eval (.const x) = x := fun _ => rfl); (have ef : ∀ x, a1.eval (.func x) = .func (.func x) #[] #[] := fun _ => rfl); generalize a1.eval = ρ at *
                clear h12 h13
                go_simp <;> (intros; first | (exfalso; omega) | rfl)
              · intro vs p hI0 hp
                have hI := Roll.inw_pure (by decide) rfl hI0
                clear hI0
                have h14 : (vs 14) = .pointer (some ⟨b, off + qj * 3, none⟩) := hp 14 (by simp [Lrr11])
                have e75 : (Roll.putD Drr11 vs [14] b0).eval (.tmp 75) = .pointer (some ⟨b, off + qj * 3, none⟩) := (Roll.eval_new 14 rfl (by decide) (by decide) (by omega)).trans h14
                clear hp hlv hN
                unfold Roll.Goes
                simp only [Lrr11, List.getD_cons_zero, List.getD_cons_succ]
                generalize Roll.putD Drr11 vs [14] b0 = a1 at *
                refine Roll.goes_val (w' := p) (.pointer (some ⟨b, off + qj * 3 + 1, none⟩)) rfl ?_ ⟨(Roll.outw_pure (by decide) rfl), rfl⟩
                (have ec : ∀ x, a1.eval (.const x) = x := fun _ => rfl); (have ef : ∀ x, a1.eval (.func x) = .func (.func x) #[] #[] := fun _ => rfl); generalize a1.eval = ρ at *
                clear h14
                go_simp <;> (intros; first | (exfalso; omega) | rfl)
              · intro vs p hI0 hp
                have hI := Roll.inw_pure (by decide) rfl hI0
                clear hI0
                have h15 : (vs 15) = .pointer (some ⟨b, off + qj * 3 + 1, none⟩) := hp 15 (by simp [Lrr11])
                have e76 : (Roll.putD Drr11 vs [15] b0).eval (.tmp 76) = .pointer (some ⟨b, off + qj * 3 + 1, none⟩) := (Roll.eval_new 15 rfl (by decide) (by decide) (by omega)).trans h15
                clear hp hlv hN
                unfold Roll.Goes
                simp only [Lrr11, List.getD_cons_zero, List.getD_cons_succ]
                generalize Roll.putD Drr11 vs [15] b0 = a1 at *
                have cf : p.cell? ⟨b, off + qj * 3 + 1, none⟩ = some (.int .i64 t0.writes) := (hI.cell (p := ⟨b, off + qj * 3 + 1, none⟩) HBU.out).trans T1.out
                refine Roll.goes_val (w' := p) (.int .i64 t0.writes) rfl ?_ ⟨(Roll.outw_pure (by decide) rfl), rfl⟩
                (have ec : ∀ x, a1.eval (.const x) = x := fun _ => rfl); (have ef : ∀ x, a1.eval (.func x) = .func (.func x) #[] #[] := fun _ => rfl); generalize a1.eval = ρ at *
                clear h15
                go_simp <;> (intros; first | (exfalso; omega) | rfl)
              · intro vs p hI0 hp
                have hI := Roll.inw_pure (by decide) rfl hI0
                clear hI0
                have e1 : (Roll.putD Drr11 vs [] b0).eval (.tmp 1) = .slice (some ⟨b, off, none⟩) tn tc := (Roll.eval_old rfl).trans (hlv.at 1 (1, .slice (some ⟨b, off, none⟩) tn tc) rfl)
                clear hp hlv hN
                unfold Roll.Goes
                simp only [Lrr11, List.getD_cons_zero, List.getD_cons_succ]
                generalize Roll.putD Drr11 vs [] b0 = a1 at *
                refine Roll.goes_val (w' := p) (.slice (some ⟨b, off, none⟩) tn tc) rfl ?_ ⟨(Roll.outw_pure (by decide) rfl), rfl⟩
                (have ec : ∀ x, a1.eval (.const x) = x := fun _ => rfl); (have ef : ∀ x, a1.eval (.func x) = .func (.func x) #[] #[] := fun _ => rfl); generalize a1.eval = ρ at *
                skip
                go_simp <;> (intros; first | (exfalso; omega) | rfl)
              · intro vs p hI0 hp
                have hI := Roll.inw_pure (by decide) rfl hI0
                clear hI0
                have e5 : (Roll.putD Drr11 vs [] b0).eval (.tmp 5) = .int .i64 (qj : Int) := (Roll.eval_old rfl).trans (hlv.at 3 (5, .int .i64 (qj : Int)) rfl)
                clear hp hlv hN
                unfold Roll.Goes
                simp only [Lrr11, List.getD_cons_zero, List.getD_cons_succ]
                generalize Roll.putD Drr11 vs [] b0 = a1 at *
                refine Roll.goes_val (w' := p) (.int .i64 (qj : Int)) rfl ?_ ⟨(Roll.outw_pure (by decide) rfl), rfl⟩
                (have ec : ∀ x, a1.eval (.const x) = x := fun _ => rfl); (have ef : ∀ x, a1.eval (.func x) = .func (.func x) #[] #[] := fun _ => rfl); generalize a1.eval = ρ at *
                skip
                go_simp <;> (intros; first | (exfalso; omega) | rfl)
              · intro vs p hI0 hp
                have hI := Roll.inw_pure (by decide) rfl hI0
                clear hI0
                have h17 : (vs 17) = .slice (some ⟨b, off, none⟩) tn tc := hp 17 (by simp [Lrr11])
                have h18 : (vs 18) = .int .i64 (qj : Int) := hp 18 (by simp [Lrr11])
                have e78 : (Roll.putD Drr11 vs [17, 18] b0).eval (.tmp 78) = .slice (some ⟨b, off, none⟩) tn tc := (Roll.eval_new 17 rfl (by decide) (by decide) (by omega)).trans h17
                have e79 : (Roll.putD Drr11 vs [17, 18] b0).eval (.tmp 79) = .int .i64 (qj : Int) := (Roll.eval_new 18 rfl (by decide) (by decide) (by omega)).trans h18
                clear hp hlv hN
                unfold Roll.Goes
                simp only [Lrr11, List.getD_cons_zero, List.getD_cons_succ]
                generalize Roll.putD Drr11 vs [17, 18] b0 = a1 at *
                have hqn := HQN.out.1
                have hqn2 := HQN.out.2.1
                have hqc := HQN.out.2.2
                refine Roll.goes_val (w' := p) (.pointer (some ⟨b, off + qj * 3, none⟩)) rfl ?_ ⟨(Roll.outw_pure (by decide) rfl), rfl⟩
                (have ec : ∀ x, a1.eval (.const x) = x := fun _ => rfl); (have ef : ∀ x, a1.eval (.func x) = .func (.func x) #[] #[] := fun _ => rfl); generalize a1.eval = ρ at *
                clear h17 h18
                go_simp <;> (intros; first | (exfalso; omega) | rfl)
              · intro vs p hI0 hp
                have hI := Roll.inw_pure (by decide) rfl hI0
                clear hI0
                have h19 : (vs 19) = .pointer (some ⟨b, off + qj * 3, none⟩) := hp 19 (by simp [Lrr11])
                have e80 : (Roll.putD Drr11 vs [19] b0).eval (.tmp 80) = .pointer (some ⟨b, off + qj * 3, none⟩) := (Roll.eval_new 19 rfl (by decide) (by decide) (by omega)).trans h19
                clear hp hlv hN
                unfold Roll.Goes
                simp only [Lrr11, List.getD_cons_zero, List.getD_cons_succ]
                generalize Roll.putD Drr11 vs [19] b0 = a1 at *
                refine Roll.goes_val (w' := p) (.pointer (some ⟨b, off + qj * 3 + 2, none⟩)) rfl ?_ ⟨(Roll.outw_pure (by decide) rfl), rfl⟩
                (have ec : ∀ x, a1.eval (.const x) = x := fun _ => rfl); (have ef : ∀ x, a1.eval (.func x) = .func (.func x) #[] #[] := fun _ => rfl); generalize a1.eval = ρ at *
                clear h19
                go_simp <;> (intros; first | (exfalso; omega) | rfl)
              · intro vs p hI0 hp
                have hI := Roll.inw_pure (by decide) rfl hI0
                clear hI0
                have h20 : (vs 20) = .pointer (some ⟨b, off + qj * 3 + 2, none⟩) := hp 20 (by simp [Lrr11])
                have e81 : (Roll.putD Drr11 vs [20] b0).eval (.tmp 81) = .pointer (some ⟨b, off + qj * 3 + 2, none⟩) := (Roll.eval_new 20 rfl (by decide) (by decide) (by omega)).trans h20
                clear hp hlv hN
                unfold Roll.Goes
                simp only [Lrr11, List.getD_cons_zero, List.getD_cons_succ]
                generalize Roll.putD Drr11 vs [20] b0 = a1 at *
                have cf : p.cell? ⟨b, off + qj * 3 + 2, none⟩ = some (.int .i64 t0.bytes) := (hI.cell (p := ⟨b, off + qj * 3 + 2, none⟩) HBU.out).trans T2.out
                refine Roll.goes_val (w' := p) (.int .i64 t0.bytes) rfl ?_ ⟨(Roll.outw_pure (by decide) rfl), rfl⟩
                (have ec : ∀ x, a1.eval (.const x) = x := fun _ => rfl); (have ef : ∀ x, a1.eval (.func x) = .func (.func x) #[] #[] := fun _ => rfl); generalize a1.eval = ρ at *
                clear h20
                go_simp <;> (intros; first | (exfalso; omega) | rfl)
              · intro vs p hI0 hp
                have hI := Roll.inw_pre (by decide) rfl hI0
                clear hI0
                have h11 : (vs 11) = .slice (some ⟨rk, ro, none⟩) sl rc := hp 11 (by simp [Lrr11])
                have h16 : (vs 16) = .int .i64 t0.writes := hp 16 (by simp [Lrr11])
                have h21 : (vs 21) = .int .i64 t0.bytes := hp 21 (by simp [Lrr11])
                have e72 : (Roll.putD Drr11 vs [11, 16, 21] b0).eval (.tmp 72) = .slice (some ⟨rk, ro, none⟩) sl rc := (Roll.eval_new 11 rfl (by decide) (by decide) (by omega)).trans h11
                have e77 : (Roll.putD Drr11 vs [11, 16, 21] b0).eval (.tmp 77) = .int .i64 t0.writes := (Roll.eval_new 16 rfl (by decide) (by decide) (by omega)).trans h16
                have e82 : (Roll.putD Drr11 vs [11, 16, 21] b0).eval (.tmp 82) = .int .i64 t0.bytes := (Roll.eval_new 21 rfl (by decide) (by decide) (by omega)).trans h21
                clear hp hlv hN
                unfold Roll.Goes
                simp only [Lrr11, List.getD_cons_zero, List.getD_cons_succ]
                generalize Roll.putD Drr11 vs [11, 16, 21] b0 = a1 at *
                refine Roll.goes_call 65 #[.slice (some ⟨rk, ro, none⟩) sl rc, .int .i64 t0.writes, .int .i64 t0.bytes] p rfl (by have ec : ∀ x, a1.eval (.const x) = x := fun _ => rfl; have ef : ∀ x, a1.eval (.func x) = .func (.func x) #[] #[] := fun _ => rfl; generalize a1.eval = ρ at *; go_simp) ?_
                refine (survives_any (Bf := Bf) rk ro sl rc sk t0.writes t0.bytes HSL8.out HSP.out HRC.out (Nat.lt_of_lt_of_le HRK.out hI.size) (HJ.out p hI)).mono ?_
                rintro y p2 ⟨v2, rfl, a2, c2, rfl, hb2, hbl⟩
                rw [← HSV.out] at hb2
                exact ⟨_, rfl, Roll.outw_pre (by decide) rfl (hI.trans (hbl.mono hI.size)) (Kept.of_below _ hbl), a2, c2, rfl, hb2.dom (fun x hx => Nat.le_trans hI.size hx)⟩
              · intro vs p hI0 hp
                have hI := Roll.inw_k0 rfl hI0
                clear hI0
                have h22 : ∃ a2 c2, (vs 22) = .slice a2 64 c2 ∧ Bs (fun x => u.heap.size ≤ x) p a2 64 c2 sv := hp 22 (by simp [Lrr11])
                have e83 : (Roll.putD Drr11 vs [22] b0).eval (.tmp 83) = vs 22 := (Roll.eval_new 22 rfl (by decide) (by decide) (by omega))
                clear hp hlv hN
                unfold Roll.Goes
                simp only [Lrr11, List.getD_cons_zero, List.getD_cons_succ]
                generalize Roll.putD Drr11 vs [22] b0 = a1 at *
                obtain ⟨a2, c2, hv2, hb2⟩ := h22
                rw [hv2] at e83
                have hal : Below p.heap.size p (p.alloc (.cells #[.slice a2 64 c2] 32)) := (Below.refl _ _).alloc (Nat.le_refl _) _
                refine Roll.goes_val (w' := p.alloc (.cells #[.slice a2 64 c2] 32)) (.slice (some ⟨p.heap.size, 0, none⟩) 1 1) rfl (by have ec : ∀ x, a1.eval (.const x) = x := fun _ => rfl; have ef : ∀ x, a1.eval (.func x) = .func (.func x) #[] #[] := fun _ => rfl; have hbs := run_bs56; generalize a1.eval = ρ at *; go_simp <;> (intros; first | (exfalso; omega) | rfl)) ⟨Roll.outw_k0 rfl ⟨p.heap.size, a2, c2, rfl, hI.size, heap_new rfl, hb2.small.kept (Kept.of_below (fun _ => False) hal) (fun _ _ _ h => h), hI.trans (hal.mono hI.size)⟩ (Kept.of_below _ hal), trivial⟩
            · intro vs p hI hR
              have h0 : (vs 0) = .pointer (some ⟨g, 0, none⟩) := hR 0 (by omega)
              have h1 : (vs 1) = .pointer (some ⟨g, 0, none⟩) := hR 1 (by omega)
              have h2 : (vs 2) = .pointer (some ⟨g, 0, none⟩) := hR 2 (by omega)
              have h3 : (vs 3) = .slice (some ⟨gs, so, none⟩) SN co := hR 3 (by omega)
              have h4 : (vs 4) = .int .i64 (k : Int) := hR 4 (by omega)
              have h5 : (vs 5) = .pointer (some ⟨g, 0, none⟩) := hR 5 (by omega)
              have h6 : (vs 6) = .pointer (some ⟨g, 0, none⟩) := hR 6 (by omega)
              have h7 : (vs 7) = .pointer (some ⟨g, 0, none⟩) := hR 7 (by omega)
              have h8 : (vs 8) = .slice (some ⟨gs, so, none⟩) SN co := hR 8 (by omega)
              have h9 : (vs 9) = .int .i64 (k : Int) := hR 9 (by omega)
              have h10 : (vs 10) = .pointer (some ⟨gs, so + k, none⟩) := hR 10 (by omega)
              have h11 : (vs 11) = .slice (some ⟨rk, ro, none⟩) sl rc := hR 11 (by omega)
              have h12 : (vs 12) = .slice (some ⟨b, off, none⟩) tn tc := hR 12 (by omega)
              have h13 : (vs 13) = .int .i64 (qj : Int) := hR 13 (by omega)
              have h14 : (vs 14) = .pointer (some ⟨b, off + qj * 3, none⟩) := hR 14 (by omega)
              have h15 : (vs 15) = .pointer (some ⟨b, off + qj * 3 + 1, none⟩) := hR 15 (by omega)
              have h16 : (vs 16) = .int .i64 t0.writes := hR 16 (by omega)
              have h17 : (vs 17) = .slice (some ⟨b, off, none⟩) tn tc := hR 17 (by omega)
              have h18 : (vs 18) = .int .i64 (qj : Int) := hR 18 (by omega)
              have h19 : (vs 19) = .pointer (some ⟨b, off + qj * 3, none⟩) := hR 19 (by omega)
              have h20 : (vs 20) = .pointer (some ⟨b, off + qj * 3 + 2, none⟩) := hR 20 (by omega)
              have h21 : (vs 21) = .int .i64 t0.bytes := hR 21 (by omega)
              have h22 : ∃ a2 c2, (vs 22) = .slice a2 64 c2 ∧ Bs (fun x => u.heap.size ≤ x) p a2 64 c2 sv := hR 22 (by omega)
              have h23 : True := hR 23 (by omega)
              clear hR
              simp only [List.range_succ, List.range_zero, List.nil_append, List.cons_append, Roll.putD, Act.put, List.getD_cons_zero, List.getD_cons_succ, List.setIfInBounds_toArray, List.set_cons_zero, List.set_cons_succ, List.drop_succ_cons, List.drop_zero, Drr11]
              simp only [h0, h1, h2, h3, h4, h5, h6, h7, h8, h9, h10, h11, h12, h13, h14, h15, h16, h17, h18, h19, h20, h21]
              clear h0 h1 h2 h3 h4 h5 h6 h7 h8 h9 h10 h11 h12 h13 h14 h15 h16 h17 h18 h19 h20 h21
              generalize vs 23 = v8 at *
              obtain ⟨r8, a2, c2, rfl, g1, g2, g3, hPB⟩ := hI
              clear h22 h23
              have cV2 : p.cell? ⟨gs, so + k, none⟩ = some (.slice (some ⟨rk, ro, none⟩) sl rc) := (hPB.cell (p := ⟨gs, so + k, none⟩) UGS.out.1).trans UK.out
              have fV2 : p.frozen? ⟨gs, so + k, none⟩ = false := ((Kept.of_below (fun _ => False) hPB).frozen (p := ⟨gs, so + k, none⟩) UGS.out.1 (fun h => h)).trans (UF.out _)
              have HP : Hid (Lv w0 (p.setCell ⟨gs, so + k, none⟩ (.slice (some ⟨r8, 0, none⟩) 1 1)) (L.set i0 (refO g (dR d ts (k + 1))))) := Lib.hid (by
                obtain ⟨P2, hP2⟩ : ∃ P2, P2 = (p).setCell ⟨gs, so + k, none⟩ (.slice (some ⟨r8, 0, none⟩) 1 1) := ⟨_, rfl⟩
                rw [← hP2]
                have hT := HT.out
                have hgs8 : ¬ gs = rk := UGS.out.2
                have hgq : gs < u.heap.size := UGS.out.1
                have hrq : rk < u.heap.size := HRK.out
                have hW : Below u.heap.size u (p) := hPB
                have hks : Kept (fun j => j = gs) (p) P2 := by rw [hP2]; exact (Kept.refl (fun j => j = gs) _).setCell (fun _ => rfl) _
                have hkq : Kept (fun j => j = gs) u P2 := (Kept.of_below _ hW).trans hks (fun _ _ h => h)
                have hin : InR P2 (fun x => Bf x ∨ (u.heap.size ≤ x ∧ x < r8)) (r8) (.slice (some ⟨r8, 0, none⟩) 1 1) ([sv]) := inR_one (hks.heap g2 (by omega)) ((g3.kept hks (fun x _ hx e => by omega)).dom (fun x hx => .inr hx))
                have hr8 : r8 = row k ∨ u.heap.size ≤ r8 := (.inr g1)
                have hB2 : ∀ x, (fun x => Bf x ∨ (u.heap.size ≤ x ∧ x < r8)) x → Bf x ∨ (u.heap.size ≤ x ∧ x ≠ r8) := (fun x hx => hx.imp id (fun hx => ⟨hx.1, by omega⟩))
                have hp := hT.put (k := k) HKS.out (w' := P2) (r' := r8) (v' := .slice (some ⟨r8, 0, none⟩) 1 1) (s' := [sv]) (Bf' := fun x => Bf x ∨ (u.heap.size ≤ x ∧ x < r8))
                  (hkq.mono (fun j _ h => .inr (by rw [h]))) (fun xs hx => by
                    rw [hP2]
                    rw [HSN.out] at hx ⊢
                    exact (hx.kept (Kept.of_below (fun _ => False) hW) (fun _ _ h => h)).set k HKN.out _)
                  hin hr8 (fun x hx => .inl hx) hB2 (fun x hx => by
                    have h1 := hkq.size
                    have h2 := hks.size
                    have h3 := heap_lt g2
                    rcases hx with hx | hx
                    · have := hT.lt x hx; omega
                    · omega)
                rw [HSE.out, HDX.out] at hp
                have hl2 : (dR d ts (k + 1)).S.length = dd.S.length := by rw [← HSE.out, List.length_set]
                have hf := HSET.out P2 (refO g (dR d ts (k + 1))) (fun x => TBlk g (some gs) (fun j => if j = k then r8 else row j) (fun x => Bf x ∨ (u.heap.size ≤ x ∧ x < r8)) dd.S.length x) ⟨_, _, _, _, hp, fun x hx => by rw [hl2] at hx; exact hx⟩
                  (hkq.mono (fun j _ h => HTB.out j (.inr (.inl (by rw [h])))))
                  (fun j hj => (TBlk.put (z := u.heap.size) HKS.out hr8 hB2 j hj).imp (HTB.out j) id) (fun j hj => hp.blk_lt j (by rw [hl2]; exact hj))
                rw [List.set_set] at hf
                exact hf)
              clear g1 g2 g3 hPB
              go_wp2_with fail
              go_roundw
              case rel => exact ⟨k + 1, by omega, by go_num, HP.out⟩
              case measure => simp [intOf]; omega
    · obtain rfl : k = SN := by omega
      have HMZ : Hid (mixR (d.restart ts).S d.S k = (d.restart ts).S) := Lib.hid (by unfold mixR; rw [List.take_of_length_le (by rw [HSR0.out]; exact Nat.le_refl _), List.drop_of_length_le (by rw [HSN0.out]; exact Nat.le_refl _), List.append_nil])
      have HLI : Hid ((L.set i0 (refO g dd))[i0]? = some (refO g dd)) := Lib.hid (by rw [List.getElem?_set_self]; exact HIL.out)
      obtain ⟨B, ⟨gso, vo, row, Bf, hT, hTB⟩, _, _, hset⟩ := HL.out.get HLI.out
      obtain ⟨xs, hx, _⟩ := hT.outer
      rw [HSN.out] at hx
      obtain ⟨gs, so, co, rfl, rfl, f1, f2, _, _⟩ := hx.at hsn1
      obtain ⟨g1, c0, c1, c2, f0⟩ := hT.cells3
      have fz1 := f0 1
      have fz2 := f0 2
      have HP : Hid (Lv w0 ((u.setCell ⟨g, 1, none⟩ (.bool false)).setCell ⟨g, 2, none⟩ (.int .i64 (-1))) (L.set i0 (refO g (d.restart ts)))) := Lib.hid (by
        have e1 := heap_setCell_same u g 1 _ _ (.bool false) hT.self
        have e2 := heap_setCell_same _ g 2 _ _ (.int .i64 (-1)) e1
        have hK : Kept (fun j => j = g) u ((u.setCell ⟨g, 1, none⟩ (.bool false)).setCell ⟨g, 2, none⟩ (.int .i64 (-1))) := ((Kept.refl (fun j => j = g) u).setCell (fun _ => rfl) _).setCell (fun _ => rfl) _
        have hT' : Trk ((u.setCell ⟨g, 1, none⟩ (.bool false)).setCell ⟨g, 2, none⟩ (.int .i64 (-1))) 87 (refX (d.restart ts)) g (some gs) _ row Bf dd.S := hT.restruct (ext' := refX (d.restart ts)) e2 hK
        have e3 : dd.S = (d.restart ts).S := by rw [hdd]; exact HMZ.out
        rw [e3] at hT' hTB
        have hf := hset _ (refO g (d.restart ts)) (TBlk g (some gs) row Bf (d.restart ts).S.length) ⟨some gs, _, row, Bf, hT', fun _ h => h⟩ (hK.mono (fun j _ e => hTB j (.inl e))) (fun j hj => .inl (hTB j hj)) (fun j hj => hT'.blk_lt j hj)
        rw [List.set_set] at hf
        exact hf)
      clear hT hx hset hTB hdd f0
      go_wp2_with fail
      go_end0
      exact ⟨rfl, HP.out⟩
end Go.Proofs.Ytbnodhcgdgcebaa

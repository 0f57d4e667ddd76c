/-
  The reference's Flush.
-/
import Derived.Test.YtbnodhcgdgcebaaYC
namespace Go.Proofs.Ytbnodhcgdgcebaa
open Go.RowKit
set_option linter.unusedSimpArgs false
set_option linter.unusedVariables false
def Drf7 : List (Option Tmp) := [some 26, some 27, some 28, some 29, some 30, some 31, some 32, some 33, some 34, some 35, none]
def Lrf7 : List (List Nat) := [[], [0], [1], [2], [], [], [], [5, 6], [7], [3, 4], [9, 8]]
/-- a disk of which the first k sectors have been flushed -/
def dF (d : DM) (k : Nat) : DM := ⟨mixF d.S k, d.on, d.fuse⟩
theorem set_self {L : List Obj} {i : Nat} {o : Obj} (h : L[i]? = some o) : L.set i o = L := by
  apply List.ext_getElem?
  intro j
  rw [List.getElem?_set]
  by_cases e : i = j
  · subst e; rw [if_pos rfl, if_pos (List.getElem?_eq_some_iff.1 h).1, h]
  · rw [if_neg e]
theorem mixF_mem (S : List (List (List UInt8))) (i : Nat) (h : ∀ s ∈ S, s ≠ [] ∧ s.length ≤ 100001) : ∀ s ∈ mixF S i, s ≠ [] ∧ s.length ≤ 100001 := by
  intro s hs
  unfold mixF at hs
  rcases List.mem_append.1 hs with hs | hs
  · obtain ⟨s', _, rfl⟩ := List.mem_map.1 hs
    simp
  · exact h s (List.mem_of_mem_drop hs)
theorem rflush_off {w : World} {g : Nat} {gso : Option Nat} {vo : Value} {row : Nat → Nat} {Bf : Nat → Prop} {d : DM} (h : Trk w 87 (refX d) g gso vo row Bf d.S) (hon : d.on = false) :
    Calls Try.prog 48 #[.pointer (some ⟨g, 0, none⟩)] w fun e w' => e = .returned (.int .i64 10) ∧ w = w' := by
  obtain ⟨g1, c0, c1, c2, f0⟩ := h.cells3
  rw [hon] at c1
  clear h hon f0 c2
  go_enter Try.func48, Try.ntmps48
  go_wp2
  go_ret
  exact ⟨rfl, rfl⟩
set_option maxRecDepth 100000 in
set_option maxHeartbeats 4000000 in
theorem rflush_lv {w0 w : World} {L : List Obj} {i0 g : Nat} {d : DM} (h : Lv w0 w L) (hi : L[i0]? = some (refO g d)) (hon : d.on = true) (hok : d.Ok 100000) :
    Calls Try.prog 48 #[.pointer (some ⟨g, 0, none⟩)] w fun e w' => e = .returned (.int .i64 0) ∧ Lv w0 w' (L.set i0 (refO g d.flush)) := by
  have HIL : Hid (i0 < L.length) := Lib.hid (List.getElem?_eq_some_iff.1 hi).1
  have HL0 : Hid (Lv w0 w (L.set i0 (refO g (dF d 0)))) := Lib.hid (by
    have e : dF d 0 = d := by unfold dF mixF; simp
    rw [e, set_self hi]; exact h)
  obtain ⟨SN, hSN⟩ : ∃ SN, d.S.length = SN := ⟨_, rfl⟩
  have HSN0 := Lib.hid hSN
  have hsn1 : 0 < SN := by rw [← hSN]; exact hok.1
  have hsn2 : SN ≤ 4096 := by rw [← hSN]; exact hok.2.1
  have HN0 : Hid (∀ s ∈ d.S, s ≠ [] ∧ s.length ≤ 100001) := Lib.hid (fun s hs => ⟨(hok.2.2.2 s hs).1, (hok.2.2.2 s hs).2.1⟩)
  have HFU : Hid (d.fuse ≤ 9223372036854775807) := Lib.hid hok.2.2.1
  have HON := Lib.hid hon
  obtain ⟨g1, c1⟩ : g < w.heap.size ∧ w.cell? ⟨g, 1, none⟩ = some (.bool false) := by
    obtain ⟨_, ⟨_, _, _, _, hT, _⟩, _, _, _⟩ := h.get hi
    obtain ⟨g1, _, c1, _, _⟩ := hT.cells3
    rw [hon] at c1
    exact ⟨g1, c1⟩
  clear h hi hSN hok hon
  go_enter Try.func48, Try.ntmps48
  go_upto_region 4 with fail
  clear c1
  go_loopw [3] (fun t wr => ∃ k : Nat, k ≤ SN ∧ t = .int .i64 (k : Int) ∧ Lv w0 wr (L.set i0 (refO g (dF d k)))) (fun t _ => SN - (intOf t).toNat)
  case atStart => exact ⟨0, Nat.zero_le _, rfl, HL0.out⟩
  case round =>
    obtain ⟨k, hk, rfl, hL⟩ := hrel
    have HL := Lib.hid hL
    clear hL HL0
    rename World => u
    obtain ⟨dd, hdd⟩ : ∃ dd, dd = dF d k := ⟨_, rfl⟩
    have HSN : Hid (dd.S.length = SN) := Lib.hid (by rw [hdd]; exact (mixF_len d.S k (by rw [HSN0.out]; exact hk)).trans HSN0.out)
    have HNE0 : Hid (∀ s ∈ dd.S, s ≠ [] ∧ s.length ≤ 100001) := Lib.hid (by rw [hdd]; exact mixF_mem d.S k HN0.out)
    rw [← hdd] at HL
    by_cases hlk : k < SN
    · have hlk2 : (k : Int) < (SN : Int) := by omega
      have hwk : IntKind.i64.wrap ((k : Int) + 1) = (k : Int) + 1 := i64_id _ (by omega) (by omega)
      have hk : k < dd.S.length := by rw [HSN.out]; exact hlk
      have HLI : Hid ((L.set i0 (refO g dd))[i0]? = some (refO g dd)) := Lib.hid (by rw [List.getElem?_set_self]; exact HIL.out)
      obtain ⟨B, ⟨gso, vo, row, Bf, hT, hTB⟩, hblt, _, hset⟩ := HL.out.get HLI.out
      have hsp : 0 < dd.S[k].length := List.length_pos_iff.2 (HNE0.out _ (List.getElem_mem hk)).1
      have hsb : dd.S[k].length ≤ 100001 := (HNE0.out _ (List.getElem_mem hk)).2
      obtain ⟨gs, so, co, ro, rc, rfl, rfl, f1, f2, f3, f4, f5, f6, f7, f8, f9⟩ := hT.look hk hsp
      obtain ⟨sk, hsk⟩ : ∃ sk, sk = dd.S[k]'hk := ⟨_, rfl⟩
      clear f9
      rw [← hsk] at f2 f7 f8 hsp hsb
      obtain ⟨rk, hrk⟩ : ∃ rk, row k = rk := ⟨_, rfl⟩
      obtain ⟨sl, hsl⟩ : ∃ sl, sk.length = sl := ⟨_, rfl⟩
      have hin0 := f8
      obtain ⟨ys, hys, hyj⟩ := f8
      rw [hrk, hsl] at f7
      rw [HSN.out] at f6 f1
      rw [hsl] at f2 hsp hsb
      rw [hrk] at f5 hys hin0
      rw [hsl] at hys
      have HSK : Hid (dd.S[k]? = some sk) := Lib.hid (by rw [List.getElem?_eq_getElem hk, hsk])
      have HIN0 := Lib.hid hin0
      have HT := Lib.hid hT
      have HTB := Lib.hid hTB
      have HSET := Lib.hid hset
      have HRR := Lib.hid hrk
      have HSL8 := Lib.hid hsl
      have HYS := Lib.hid hys
      have HYJ := Lib.hid hyj
      have HCO := Lib.hid f1
      have HRC := Lib.hid f2
      have HSLB := Lib.hid hsb
      have HSP := Lib.hid hsp
      have HKS := Lib.hid hk
      have HKN : Hid (k < SN) := Lib.hid hlk
      have HRK := Lib.hid f5
      have UV := Lib.hid f6
      have UK := Lib.hid f7
      have cV0 := f6
      have UGT : Hid (g < u.heap.size ∧ ¬ g = rk) := Lib.hid ⟨f3, fun e => (hT.ap2 k hk).1 (hrk.trans e.symm)⟩
      have UGS : Hid (gs < u.heap.size ∧ ¬ gs = rk) := Lib.hid ⟨f4, fun e => (hT.ap2 k hk).2 (by rw [e, hrk])⟩
      have HBR : Hid (¬ Bf rk) := Lib.hid (by rw [← hrk]; exact hT.bf.2.2 k hk)
      have HBGS : Hid (¬ Bf gs) := Lib.hid (hT.bf.2.1 gs rfl)
      have UF : Hid (∀ j, u.frozen? ⟨gs, j, none⟩ = false) := Lib.hid (by obtain ⟨xs, hx, _⟩ := hT.outer; exact hx.frozen)
      clear hT hTB hblt hset hsp hsb f1 f2 f3 f4 f5 f6 f7 hsk hrk hsl hys hyj hin0 hk
      have HDX : Hid (refX dd = refX (dF d (k + 1))) := Lib.hid (by rw [hdd]; rfl)
      obtain ⟨lk, hlkb⟩ : ∃ lk, lk = lastB sk := ⟨_, rfl⟩
      have HSE : Hid (dd.S.set k [lk] = (dF d (k + 1)).S) := Lib.hid (by
        have hko : k < d.S.length := by rw [HSN0.out]; exact hlk
        have e := mixF_get d.S k hko
        have e2 := HSK.out
        rw [hdd] at e2
        have e3 : sk = d.S[k] := Option.some.inj (e2.symm.trans e)
        rw [hlkb, e3, hdd]
        exact mixF_set d.S k hko)
      have HLAST : Hid (∀ wz, Kept (fun _ => False) u wz → Calls Try.prog 64 #[.pointer (some ⟨g, 0, none⟩), .int .i64 (k : Int)] wz fun e w' => ∃ a c, e = .returned (.slice a 64 c) ∧ Bs Bf wz a 64 c lk ∧ ∃ d, w' = wz.drewN d) := Lib.hid (fun wz hz => by
        have e2 : dd.S[k]'HKS.out = sk := by have := HSK.out; rw [List.getElem?_eq_getElem HKS.out] at this; exact Option.some.inj this
        have := last_any (HT.out.kept hz (fun _ _ h => h)) k HKS.out (by rw [e2, HSL8.out]; exact HSP.out)
        rw [e2, ← hlkb] at this
        exact this)
      have cK0 := UK.out
      have hco1 := HCO.out.1
      by_cases hs1 : sl = 1
      · have hs2 : ¬ (1 : Int) < (sl : Int) := by omega
        have HLs : Hid (Lv w0 u (L.set i0 (refO g (dF d (k + 1))))) := Lib.hid (by
          have e1 : dd.S.set k [lk] = dd.S := by
            have e3 : [lk] = sk := by
              have := HSL8.out
              rw [hs1] at this
              obtain ⟨x, hx⟩ := List.length_eq_one_iff.1 this
              rw [hlkb, hx]; rfl
            rw [e3]
            apply List.ext_getElem?
            intro j
            rw [List.getElem?_set]
            by_cases e : k = j
            · subst e; rw [if_pos rfl, if_pos HKS.out, HSK.out]
            · rw [if_neg e]
          have e2 : dF d (k + 1) = dd := by
            have e4 := HSE.out
            rw [e1] at e4
            rw [hdd] at e4 ⊢
            unfold dF at *
            simp only at e4
            rw [← e4]
          rw [e2]; exact HL.out)
        clear hdd hlkb
        go_wp2_with fail
        go_roundw
        case rel => exact ⟨k + 1, by omega, by go_num, HLs.out⟩
        case measure => simp [intOf]; omega
      · have hs2 : (1 : Int) < (sl : Int) := by have := HSP.out; omega
        clear hdd hlkb
        go_upto_region 7 with fail
        -- CUT 1
        clear cV0 cK0 hco1
        refine Roll.region_v 9 38 Drf7 Lrf7 [(0, .pointer (some ⟨g, 0, none⟩)), (3, .int .i64 (k : Int))] 8 [true, true, true, true, true, true, true, false, false] (fun p => Below u.heap.size u p) (fun vv p => ∃ s a2 c2, vv = .slice (some ⟨s, 0, none⟩) 1 1 ∧ u.heap.size ≤ s ∧ p.heap[s]? = some (.cells #[.slice a2 64 c2] 32 (0, 0)) ∧ Bs Bf p a2 64 c2 lk ∧ Below u.heap.size u p) (fun p => Below u.heap.size u p) (Kept (fun _ => False)) [fun vv p => (vv 0) = .pointer (some ⟨g, 0, none⟩), fun vv p => (vv 1) = .pointer (some ⟨g, 0, none⟩), fun vv p => (vv 2) = .pointer (some ⟨g, 0, none⟩), fun vv p => (vv 3) = .slice (some ⟨gs, so, none⟩) SN co, fun vv p => (vv 4) = .int .i64 (k : Int), fun vv p => (vv 5) = .pointer (some ⟨g, 0, none⟩), fun vv p => (vv 6) = .int .i64 (k : Int), fun vv p => ∃ a2 c2, (vv 7) = .slice a2 64 c2 ∧ Bs Bf p a2 64 c2 lk, fun vv p => True] (by kernel_rfl) (by kernel_rfl) rfl ⟨rfl, rfl, trivial⟩ ((Below.refl _ _).drew) (by decide) (by kernel_rfl) (fun _ h => h) (fun _ _ h => by obtain ⟨_, _, _, _, _, _, _, h⟩ := h; exact h) (fun _ => Kept.refl _ _) ?_ ?_ ?_
        · exact ⟨fun _ _ _ _ h => h, fun _ _ _ _ h => h, fun _ _ _ _ h => h, fun _ _ _ _ h => h, fun _ _ _ _ h => h, fun _ _ _ _ h => h, fun _ _ _ _ h => h, fun _ _ _ hs h => by obtain ⟨a, c, e1, e2⟩ := h; exact ⟨a, c, e1, e2.kept hs (fun _ _ _ h => h)⟩, fun _ _ _ _ h => h, trivial⟩
        · intro b0 hN hlv
          refine ⟨?_, ?_, ?_, ?_, ?_, ?_, ?_, ?_, ?_, trivial⟩
          · intro vs p hI0 hp
            have hI := Roll.inw_pure (by decide) rfl hI0
            clear hI0
            have e0 : (Roll.putD Drf7 vs [] b0).eval (.tmp 0) = .pointer (some ⟨g, 0, none⟩) := (Roll.eval_old rfl).trans (hlv.at 0 (0, .pointer (some ⟨g, 0, none⟩)) rfl)
            clear hp hlv hN
            unfold Roll.Goes
            simp only [Lrf7, List.getD_cons_zero, List.getD_cons_succ]
            generalize Roll.putD Drf7 vs [] b0 = a1 at *
            refine Roll.goes_val (w' := p) (.pointer (some ⟨g, 0, none⟩)) rfl ?_ ⟨(Roll.outw_pure (by decide) rfl), rfl⟩
            (have ec : ∀ x, a1.eval (.const x) = x := fun _ => rfl); (have ef : ∀ x, a1.eval (.func x) = .func (.func x) #[] #[] := fun _ => rfl); generalize a1.eval = ρ at *
            skip
            go_simp <;> (intros; first | (exfalso; omega) | rfl)
          · intro vs p hI0 hp
            have hI := Roll.inw_pure (by decide) rfl hI0
            clear hI0
            have h0 : (vs 0) = .pointer (some ⟨g, 0, none⟩) := hp 0 (by simp [Lrf7])
            have e26 : (Roll.putD Drf7 vs [0] b0).eval (.tmp 26) = .pointer (some ⟨g, 0, none⟩) := (Roll.eval_new 0 rfl (by decide) (by decide) (by omega)).trans h0
            clear hp hlv hN
            unfold Roll.Goes
            simp only [Lrf7, List.getD_cons_zero, List.getD_cons_succ]
            generalize Roll.putD Drf7 vs [0] b0 = a1 at *
            refine Roll.goes_val (w' := p) (.pointer (some ⟨g, 0, none⟩)) rfl ?_ ⟨(Roll.outw_pure (by decide) rfl), rfl⟩
            (have ec : ∀ x, a1.eval (.const x) = x := fun _ => rfl); (have ef : ∀ x, a1.eval (.func x) = .func (.func x) #[] #[] := fun _ => rfl); generalize a1.eval = ρ at *
            clear h0
            go_simp <;> (intros; first | (exfalso; omega) | rfl)
          · intro vs p hI0 hp
            have hI := Roll.inw_pure (by decide) rfl hI0
            clear hI0
            have h1 : (vs 1) = .pointer (some ⟨g, 0, none⟩) := hp 1 (by simp [Lrf7])
            have e27 : (Roll.putD Drf7 vs [1] b0).eval (.tmp 27) = .pointer (some ⟨g, 0, none⟩) := (Roll.eval_new 1 rfl (by decide) (by decide) (by omega)).trans h1
            clear hp hlv hN
            unfold Roll.Goes
            simp only [Lrf7, List.getD_cons_zero, List.getD_cons_succ]
            generalize Roll.putD Drf7 vs [1] b0 = a1 at *
            refine Roll.goes_val (w' := p) (.pointer (some ⟨g, 0, none⟩)) rfl ?_ ⟨(Roll.outw_pure (by decide) rfl), rfl⟩
            (have ec : ∀ x, a1.eval (.const x) = x := fun _ => rfl); (have ef : ∀ x, a1.eval (.func x) = .func (.func x) #[] #[] := fun _ => rfl); generalize a1.eval = ρ at *
            clear h1
            go_simp <;> (intros; first | (exfalso; omega) | rfl)
          · intro vs p hI0 hp
            have hI := Roll.inw_pure (by decide) rfl hI0
            clear hI0
            have h2 : (vs 2) = .pointer (some ⟨g, 0, none⟩) := hp 2 (by simp [Lrf7])
            have e28 : (Roll.putD Drf7 vs [2] b0).eval (.tmp 28) = .pointer (some ⟨g, 0, none⟩) := (Roll.eval_new 2 rfl (by decide) (by decide) (by omega)).trans h2
            clear hp hlv hN
            unfold Roll.Goes
            simp only [Lrf7, List.getD_cons_zero, List.getD_cons_succ]
            generalize Roll.putD Drf7 vs [2] b0 = a1 at *
            have cf : p.cell? ⟨g, 0, none⟩ = some (.slice (some ⟨gs, so, none⟩) SN co) := (hI.cell (p := ⟨g, 0, none⟩) UGT.out.1).trans UV.out
            refine Roll.goes_val (w' := p) (.slice (some ⟨gs, so, none⟩) SN co) rfl ?_ ⟨(Roll.outw_pure (by decide) rfl), rfl⟩
            (have ec : ∀ x, a1.eval (.const x) = x := fun _ => rfl); (have ef : ∀ x, a1.eval (.func x) = .func (.func x) #[] #[] := fun _ => rfl); generalize a1.eval = ρ at *
            clear h2
            go_simp <;> (intros; first | (exfalso; omega) | rfl)
          · intro vs p hI0 hp
            have hI := Roll.inw_pure (by decide) rfl hI0
            clear hI0
            have e3 : (Roll.putD Drf7 vs [] b0).eval (.tmp 3) = .int .i64 (k : Int) := (Roll.eval_old rfl).trans (hlv.at 1 (3, .int .i64 (k : Int)) rfl)
            clear hp hlv hN
            unfold Roll.Goes
            simp only [Lrf7, List.getD_cons_zero, List.getD_cons_succ]
            generalize Roll.putD Drf7 vs [] b0 = a1 at *
            refine Roll.goes_val (w' := p) (.int .i64 (k : Int)) rfl ?_ ⟨(Roll.outw_pure (by decide) rfl), rfl⟩
            (have ec : ∀ x, a1.eval (.const x) = x := fun _ => rfl); (have ef : ∀ x, a1.eval (.func x) = .func (.func x) #[] #[] := fun _ => rfl); generalize a1.eval = ρ at *
            skip
            go_simp <;> (intros; first | (exfalso; omega) | rfl)
          · intro vs p hI0 hp
            have hI := Roll.inw_pure (by decide) rfl hI0
            clear hI0
            have e0 : (Roll.putD Drf7 vs [] b0).eval (.tmp 0) = .pointer (some ⟨g, 0, none⟩) := (Roll.eval_old rfl).trans (hlv.at 0 (0, .pointer (some ⟨g, 0, none⟩)) rfl)
            clear hp hlv hN
            unfold Roll.Goes
            simp only [Lrf7, List.getD_cons_zero, List.getD_cons_succ]
            generalize Roll.putD Drf7 vs [] b0 = a1 at *
            refine Roll.goes_val (w' := p) (.pointer (some ⟨g, 0, none⟩)) rfl ?_ ⟨(Roll.outw_pure (by decide) rfl), rfl⟩
            (have ec : ∀ x, a1.eval (.const x) = x := fun _ => rfl); (have ef : ∀ x, a1.eval (.func x) = .func (.func x) #[] #[] := fun _ => rfl); generalize a1.eval = ρ at *
            skip
            go_simp <;> (intros; first | (exfalso; omega) | rfl)
          · intro vs p hI0 hp
            have hI := Roll.inw_pure (by decide) rfl hI0
            clear hI0
            have e3 : (Roll.putD Drf7 vs [] b0).eval (.tmp 3) = .int .i64 (k : Int) := (Roll.eval_old rfl).trans (hlv.at 1 (3, .int .i64 (k : Int)) rfl)
            clear hp hlv hN
            unfold Roll.Goes
            simp only [Lrf7, List.getD_cons_zero, List.getD_cons_succ]
            generalize Roll.putD Drf7 vs [] b0 = a1 at *
            refine Roll.goes_val (w' := p) (.int .i64 (k : Int)) rfl ?_ ⟨(Roll.outw_pure (by decide) rfl), rfl⟩
            (have ec : ∀ x, a1.eval (.const x) = x := fun _ => rfl); (have ef : ∀ x, a1.eval (.func x) = .func (.func x) #[] #[] := fun _ => rfl); generalize a1.eval = ρ at *
            skip
            go_simp <;> (intros; first | (exfalso; omega) | rfl)
          · intro vs p hI0 hp
            have hI := Roll.inw_pre (by decide) rfl hI0
            clear hI0
            have h5 : (vs 5) = .pointer (some ⟨g, 0, none⟩) := hp 5 (by simp [Lrf7])
            have h6 : (vs 6) = .int .i64 (k : Int) := hp 6 (by simp [Lrf7])
            have e31 : (Roll.putD Drf7 vs [5, 6] b0).eval (.tmp 31) = .pointer (some ⟨g, 0, none⟩) := (Roll.eval_new 5 rfl (by decide) (by decide) (by omega)).trans h5
            have e32 : (Roll.putD Drf7 vs [5, 6] b0).eval (.tmp 32) = .int .i64 (k : Int) := (Roll.eval_new 6 rfl (by decide) (by decide) (by omega)).trans h6
            clear hp hlv hN
            unfold Roll.Goes
            simp only [Lrf7, List.getD_cons_zero, List.getD_cons_succ]
            generalize Roll.putD Drf7 vs [5, 6] b0 = a1 at *
            refine Roll.goes_call 64 #[.pointer (some ⟨g, 0, none⟩), .int .i64 (k : Int)] p rfl (by have ec : ∀ x, a1.eval (.const x) = x := fun _ => rfl; have ef : ∀ x, a1.eval (.func x) = .func (.func x) #[] #[] := fun _ => rfl; generalize a1.eval = ρ at *; go_simp) ?_
            refine (HLAST.out p (Kept.of_below (fun _ => False) hI)).mono ?_
            rintro y p2 ⟨a2, c2, rfl, hb2, dd2, rfl⟩
            have hbl : Below p.heap.size p (p.drewN dd2) := below_drewN _ _ _ (Nat.le_refl _)
            exact ⟨_, rfl, Roll.outw_pre (by decide) rfl (hI.trans (hbl.mono hI.size)) (Kept.of_below _ hbl), a2, c2, rfl, hb2.kept (kept_drewN (fun _ => False) _ _) (fun _ _ _ h => h)⟩
          · intro vs p hI0 hp
            have hI := Roll.inw_k0 rfl hI0
            clear hI0
            have h7 : ∃ a2 c2, (vs 7) = .slice a2 64 c2 ∧ Bs Bf p a2 64 c2 lk := hp 7 (by simp [Lrf7])
            have e33 : (Roll.putD Drf7 vs [7] b0).eval (.tmp 33) = vs 7 := (Roll.eval_new 7 rfl (by decide) (by decide) (by omega))
            clear hp hlv hN
            unfold Roll.Goes
            simp only [Lrf7, List.getD_cons_zero, List.getD_cons_succ]
            generalize Roll.putD Drf7 vs [7] b0 = a1 at *
            obtain ⟨a2, c2, hv2, hb2⟩ := h7
            rw [hv2] at e33
            have hal : Below p.heap.size p (p.alloc (.cells #[.slice a2 64 c2] 32)) := (Below.refl _ _).alloc (Nat.le_refl _) _
            refine Roll.goes_val (w' := p.alloc (.cells #[.slice a2 64 c2] 32)) (.slice (some ⟨p.heap.size, 0, none⟩) 1 1) rfl (by have ec : ∀ x, a1.eval (.const x) = x := fun _ => rfl; have ef : ∀ x, a1.eval (.func x) = .func (.func x) #[] #[] := fun _ => rfl; have hbs := run_bs56; generalize a1.eval = ρ at *; go_simp <;> (intros; first | (exfalso; omega) | rfl)) ⟨Roll.outw_k0 rfl ⟨p.heap.size, a2, c2, rfl, hI.size, heap_new rfl, hb2.kept (Kept.of_below (fun _ => False) hal) (fun _ _ _ h => h), hI.trans (hal.mono hI.size)⟩ (Kept.of_below _ hal), trivial⟩
        · intro vs p hI hR
          have h0 : (vs 0) = .pointer (some ⟨g, 0, none⟩) := hR 0 (by omega)
          have h1 : (vs 1) = .pointer (some ⟨g, 0, none⟩) := hR 1 (by omega)
          have h2 : (vs 2) = .pointer (some ⟨g, 0, none⟩) := hR 2 (by omega)
          have h3 : (vs 3) = .slice (some ⟨gs, so, none⟩) SN co := hR 3 (by omega)
          have h4 : (vs 4) = .int .i64 (k : Int) := hR 4 (by omega)
          have h5 : (vs 5) = .pointer (some ⟨g, 0, none⟩) := hR 5 (by omega)
          have h6 : (vs 6) = .int .i64 (k : Int) := hR 6 (by omega)
          have h7 : ∃ a2 c2, (vs 7) = .slice a2 64 c2 ∧ Bs Bf p a2 64 c2 lk := hR 7 (by omega)
          have h8 : True := hR 8 (by omega)
          clear hR
          simp only [List.range_succ, List.range_zero, List.nil_append, List.cons_append, Roll.putD, Act.put, List.getD_cons_zero, List.getD_cons_succ, List.setIfInBounds_toArray, List.set_cons_zero, List.set_cons_succ, List.drop_succ_cons, List.drop_zero, Drf7]
          simp only [h0, h1, h2, h3, h4, h5, h6]
          clear h0 h1 h2 h3 h4 h5 h6
          generalize vs 8 = v8 at *
          obtain ⟨r8, a2, c2, rfl, g1, g2, g3, hPB⟩ := hI
          clear h7 h8
          have cV2 : p.cell? ⟨gs, so + k, none⟩ = some (.slice (some ⟨rk, ro, none⟩) sl rc) := (hPB.cell (p := ⟨gs, so + k, none⟩) UGS.out.1).trans UK.out
          have fV2 : p.frozen? ⟨gs, so + k, none⟩ = false := ((Kept.of_below (fun _ => False) hPB).frozen (p := ⟨gs, so + k, none⟩) UGS.out.1 (fun h => h)).trans (UF.out _)
          have HP : Hid (Lv w0 (p.setCell ⟨gs, so + k, none⟩ (.slice (some ⟨r8, 0, none⟩) 1 1)) (L.set i0 (refO g (dF d (k + 1))))) := Lib.hid (by
            obtain ⟨P2, hP2⟩ : ∃ P2, P2 = (p).setCell ⟨gs, so + k, none⟩ (.slice (some ⟨r8, 0, none⟩) 1 1) := ⟨_, rfl⟩
            rw [← hP2]
            have hT := HT.out
            have hgs8 : ¬ gs = rk := UGS.out.2
            have hgq : gs < u.heap.size := UGS.out.1
            have hrq : rk < u.heap.size := HRK.out
            have hW : Below u.heap.size u (p) := hPB
            have hks : Kept (fun j => j = gs) (p) P2 := by rw [hP2]; exact (Kept.refl (fun j => j = gs) _).setCell (fun _ => rfl) _
            have hkq : Kept (fun j => j = gs) u P2 := (Kept.of_below _ hW).trans hks (fun _ _ h => h)
            have hin : InR P2 (Bf) (r8) (.slice (some ⟨r8, 0, none⟩) 1 1) ([lk]) := inR_one (hks.heap g2 (by omega)) (g3.kept hks (fun x _ hx e => by rw [e] at hx; exact HBGS.out hx))
            have hr8 : r8 = row k ∨ u.heap.size ≤ r8 := (.inr g1)
            have hB2 : ∀ x, (Bf) x → Bf x ∨ (u.heap.size ≤ x ∧ x ≠ r8) := (fun x hx => .inl hx)
            have hp := hT.put (k := k) HKS.out (w' := P2) (r' := r8) (v' := .slice (some ⟨r8, 0, none⟩) 1 1) (s' := [lk]) (Bf' := Bf)
              (hkq.mono (fun j _ h => .inr (by rw [h]))) (fun xs hx => by
                rw [hP2]
                rw [HSN.out] at hx ⊢
                exact (hx.kept (Kept.of_below (fun _ => False) hW) (fun _ _ h => h)).set k HKN.out _)
              hin hr8 (fun x hx => hx) hB2 (fun x hx => Nat.lt_of_lt_of_le (hT.lt x hx) hkq.size)
            rw [HSE.out, HDX.out] at hp
            have hl2 : (dF d (k + 1)).S.length = dd.S.length := by rw [← HSE.out, List.length_set]
            have hf := HSET.out P2 (refO g (dF d (k + 1))) (fun x => TBlk g (some gs) (fun j => if j = k then r8 else row j) (Bf) dd.S.length x) ⟨_, _, _, _, hp, fun x hx => by rw [hl2] at hx; exact hx⟩
              (hkq.mono (fun j _ h => HTB.out j (.inr (.inl (by rw [h])))))
              (fun j hj => (TBlk.put (z := u.heap.size) HKS.out hr8 hB2 j hj).imp (HTB.out j) id) (fun j hj => hp.blk_lt j (by rw [hl2]; exact hj))
            rw [List.set_set] at hf
            exact hf)
          clear g1 g2 g3 hPB
          go_wp2_with fail
          go_roundw
          case rel => exact ⟨k + 1, by omega, by go_num, HP.out⟩
          case measure => simp [intOf]; omega
    · obtain rfl : k = SN := by omega
      obtain ⟨_, ⟨gso, vo, row, Bf, hT, _⟩, _, _, _⟩ := HL.out.get (i := i0) (o := refO g dd) (by rw [List.getElem?_set_self]; exact HIL.out)
      obtain ⟨xs, hx, _⟩ := hT.outer
      rw [HSN.out] at hx
      obtain ⟨gs, so, co, _, rfl, f1, f2, _, _⟩ := hx.at hsn1
      have cV0 : u.cell? ⟨g, 0, none⟩ = some (.slice (some ⟨gs, so, none⟩) k co) := by rw [cell_of_row u g 0 _ _ _ hT.self]; simp [HSN.out]
      clear hT hx
      have HFL : Hid ((dF d k).burn = d.flush) := Lib.hid (by
        unfold dF DM.flush mixF
        rw [List.take_of_length_le (by rw [HSN0.out]; exact Nat.le_refl _), List.drop_of_length_le (by rw [HSN0.out]; exact Nat.le_refl _), List.append_nil])
      rw [hdd] at HL HSN
      have HON2 : Hid ((dF d k).on = true) := HON
      have HFU2 : Hid ((dF d k).fuse ≤ 9223372036854775807) := HFU
      clear hdd
      go_wp2_with (first
        | (have hL := HL.out; go_at_call 63; refine (spend_lv hL (i := i0) (d := dF d k) (by rw [List.getElem?_set_self]; exact HIL.out) HON2.out (by rw [HSN.out]; exact hsn1) HFU2.out).mono ?_; rintro e w9 ⟨rfl, hl⟩; rw [List.set_set, HFL.out] at hl; have HL9 := Lib.hid hl; clear hl hL))
      go_ret
      exact ⟨rfl, HL9.out⟩
end Go.Proofs.Ytbnodhcgdgcebaa

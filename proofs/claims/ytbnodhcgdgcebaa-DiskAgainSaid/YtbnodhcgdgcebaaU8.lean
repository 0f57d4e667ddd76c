/-
  The law DiskAgain.
-/
import Derived.Test.YtbnodhcgdgcebaaU5
namespace Go.Proofs.Ytbnodhcgdgcebaa
open Go.RowKit
set_option linter.unusedSimpArgs false
set_option linter.unusedVariables false
/-- each sector is named, with so many writes that all of them survive -/
def allT (i : Nat) : List TM := (List.range i).map fun j : Nat => (⟨(j : Int), 1000, 0⟩ : TM)
theorem allT_len (i : Nat) : (allT i).length = i := by simp [allT]
theorem allT_succ (i : Nat) : allT (i + 1) = allT i ++ [⟨(i : Int), 1000, 0⟩] := by simp [allT, List.range_succ]
theorem allT_first (i k : Nat) : firstOf (allT i) k = if k < i then some ⟨(k : Int), 1000, 0⟩ else none := by
  induction i with
  | zero => rfl
  | succ i ih =>
    rw [allT_succ, firstOf_snoc, ih]
    by_cases h : k < i
    · rw [if_pos h]
      simp [Nat.lt_succ_of_lt h]
    · rw [if_neg h]
      by_cases e : i = k
      · subst e
        simp
      · have h1 : ¬ ((i : Int) = (k : Int)) := by omega
        have h2 : ¬ k < i + 1 := by omega
        simp [h1, h2]
theorem surv_all (s : List (List UInt8)) (h : s ≠ []) (hl : s.length ≤ 1000) : surv s 1000 0 = lastB s := by
  have hp : 0 < s.length := List.length_pos_iff.2 h
  unfold surv
  have e : min (1000 : Int).toNat (s.length - 1) = s.length - 1 := by
    have : (1000 : Int).toNat = 1000 := rfl
    rw [this]; omega
  have key : s[s.length - 1 + 1]? = none := List.getElem?_eq_none (by omega)
  rw [e]
  simp only [key]
  unfold lastB
  rw [List.getD_eq_getElem?_getD, List.getLastD_eq_getLast?, List.getLast?_eq_getElem?]
theorem again_flush (d : DM) (h : d.Ok 40) : (d.restart (allT d.S.length)).S.map lastB = d.flush.S.map lastB := by
  apply List.ext_getElem (by rw [List.length_map, List.length_map, restart_len, flush_len])
  intro k h1 h2
  have hk : k < d.S.length := by simpa [restart_len] using h1
  obtain ⟨e1, e2, e3⟩ := h.2.2.2 _ (List.getElem_mem hk)
  rw [List.getElem_map, List.getElem_map, restart_get d _ k hk, allT_first, if_pos hk]
  simp only
  rw [surv_all _ e1 (by omega)]
  unfold DM.flush
  simp only [DM.burn_S, List.getElem_map]
  rfl
theorem restart_same (e : DM) (h : ∀ s ∈ e.S, s ≠ [] ∧ s.tail = []) (ts : List TM) : (e.restart ts).S.map lastB = e.S.map lastB := by
  apply List.ext_getElem (by rw [List.length_map, List.length_map, restart_len])
  intro k h1 h2
  have hk : k < e.S.length := by simpa [restart_len] using h1
  obtain ⟨e1, e2⟩ := h _ (List.getElem_mem hk)
  rw [List.getElem_map, List.getElem_map, restart_get e _ k hk]
  match hs : e.S[k], e1, e2 with
  | [x], _, _ =>
    cases firstOf ts k with
    | none => rfl
    | some t => simp [surv, lastB]
theorem flush_single (d : DM) : ∀ s ∈ d.flush.S, s ≠ [] ∧ s.tail = [] := by
  intro s hs
  unfold DM.flush at hs
  rw [DM.burn_S] at hs
  obtain ⟨s', _, rfl⟩ := List.mem_map.1 hs
  exact ⟨by simp, rfl⟩
theorem restart_single (d : DM) (ts : List TM) : ∀ s ∈ (d.restart ts).S, s ≠ [] ∧ s.tail = [] := by
  intro s hs
  obtain ⟨s', _, rfl⟩ := List.mem_map.1 hs
  exact ⟨by simp, rfl⟩
theorem run_torn3 (k : Int) (W : World) : (Instr.build 67 #[(0, .int .i64 k), (1, .int .i64 1000)]).run Try.prog W = .ok (.agg #[.int .i64 k, .int .i64 1000, .int .i64 0]) W := by kernel_rfl
set_option maxRecDepth 100000 in
set_option maxHeartbeats 8000000 in
theorem diskagain_any (x : Int) (a : Option Addr) (n c : Nat) (ms : List OM) (ta : Option Addr) (tn tc : Nat) (ts : List TM) (ua : Option Addr) (un uc : Nat) (us : List TM) (w0 : World) (h1 : -9223372036854775808 ≤ x) (h2 : x ≤ 9223372036854775807) (hO : Ops (fun b => b < w0.heap.size) w0 a n c ms) (hT : Ts (fun b => b < w0.heap.size) w0 ta tn tc ts) (hU : Ts (fun b => b < w0.heap.size) w0 ua un uc us) :
    Calls Try.prog 9 #[.int .i64 x, .slice a n c, .slice ta tn tc, .slice ua un uc] w0 fun e w' => e = .returned (.bool true) ∧ Below w0.heap.size w0 w' := by
  have HO := Lib.hid hO
  have HL0 := Lib.hid (Lv.refl w0)
  have hsb := secs_bd x
  obtain ⟨S, hS⟩ : ∃ S, S = secs x := ⟨_, rfl⟩
  rw [← hS] at hsb
  have hsb1 := hsb.1
  have hsb2 := hsb.2
  have HS := Lib.hid hS
  have htc : tn ≤ tc := hT.2.1.2.1
  have htm : tc ≤ 9223372036854775807 := hT.2.1.2.2.1
  have huc : un ≤ uc := hU.2.1.2.1
  have hum : uc ≤ 9223372036854775807 := hU.2.1.2.2.1
  obtain ⟨M, hM⟩ : ∃ M, M = min tn 40 := ⟨_, rfl⟩
  obtain ⟨V, hV⟩ : ∃ V, V = min un 40 := ⟨_, rfl⟩
  have hmin1 : min (tn : Int) 40 = (M : Int) := by omega
  have hmin2 : min (un : Int) 40 = (V : Int) := by omega
  have hM2 : (M : Int) ≤ (tn : Int) := by omega
  have hV2 : (V : Int) ≤ (un : Int) := by omega
  have HT := Lib.hid (hT.upto M (by omega))
  have HU := Lib.hid (hU.upto V (by omega))
  have HG1 : Hid True := Lib.hid trivial
  have HG2 : Hid True := Lib.hid trivial
  have Hmin1 := Lib.hid hmin1
  have Hmin2 := Lib.hid hmin2
  clear hO hT hU hS hsb hM hV hmin1 hmin2
  go_enter Try.func9, Try.ntmps9
  go_upto_region 9 with (first
    | (have hL := HL0.out; go_at_call 35; refine (written_lv hL x h1 h2 HO.out).mono ?_; rintro e w1 ⟨g, d, rfl, hl, hon, hfz, hSL, hok⟩; rw [← HS.out] at hSL; have HL1 := Lib.hid hl; have HOD := Lib.hid hon; have HFD := Lib.hid hfz; have HSD := Lib.hid hSL; have HOK := Lib.hid hok; clear hl hon hfz hSL hok HL0 hL)
    | (have hL := HL1.out; go_at_call 37; refine (clone_lv hL (i := 0) (d := d) rfl (HOK.out.mono (by omega))).mono ?_; rintro e w1 ⟨ga, rfl, hl⟩; have HL2 := Lib.hid hl; clear hl HL1 hL)
    | (have hL := HL2.out; go_at_call 37; refine (clone_lv hL (i := 1) (d := d) rfl (HOK.out.mono (by omega))).mono ?_; rintro e w1 ⟨gb, rfl, hl⟩; have HL3 := Lib.hid hl; clear hl HL2 hL))
  go_wp2_with fail
  go_loopw [12, 13] (fun u t wr => ∃ (i : Nat) (v0 : Value), i ≤ S ∧ v0 = u ∧ t = .int .i64 (i : Int) ∧ Lv w0 wr [accO v0 (allT i), diskO gb d, diskO ga d, diskO g d]) (fun _ t _ => S - (intOf t).toNat)
  case atStart => exact ⟨0, _, Nat.zero_le _, rfl, rfl, HL3.out.acc0⟩
  case round =>
    obtain ⟨i, v0, hi, hv0, rfl, hL⟩ := hrel
    subst hv0
    have HL := Lib.hid hL
    clear hL HL3
    by_cases hlt : i < S
    · have hn2 : (i : Int) < (S : Int) := by omega
      have hw1 : IntKind.i64.wrap ((i : Int) + 1) = (i : Int) + 1 := i64_id _ (by omega) (by omega)
      obtain ⟨tm, htm0⟩ : ∃ tm : TM, tm = ⟨(i : Int), 1000, 0⟩ := ⟨_, rfl⟩
      have HAL : Hid (allT (i + 1) = allT i ++ [tm]) := Lib.hid (by rw [htm0]; exact allT_succ i)
      have HTC : Hid (tcells [tm] = [.int .i64 (i : Int), .int .i64 1000, .int .i64 0]) := Lib.hid (by rw [htm0]; rfl)
      have HBD : Hid ((allT i).length + [tm].length ≤ 1000000) := Lib.hid (by rw [allT_len]; simp only [List.length_cons, List.length_nil]; omega)
      have HTK : Hid (∀ t ∈ [tm], TOk t) := Lib.hid (fun t ht => by rw [List.mem_singleton.1 ht, htm0]; exact ⟨by simp only; omega, by simp only; omega⟩)
      have HSRC : Hid (Src Try.prog 3 33 (.slice (some ⟨wr.heap.size, 0, none⟩) 1 1) 1 (tcells [tm]) (wr.alloc (.cells #[.int .i64 (i : Int), .int .i64 1000, .int .i64 0] 67))) := Lib.hid (src_new (us := [tm]) (g := wr.heap.size) (by rw [HTC.out]; exact heap_new rfl))
      have HLn : Hid (Lv w0 (wr.alloc (.cells #[.int .i64 (i : Int), .int .i64 1000, .int .i64 0] 67)) [accO v0 (allT i), diskO gb d, diskO ga d, diskO g d]) := Lib.hid (HL.out.below ((Below.refl _ _).alloc (Nat.le_refl _) _))
      have hb1 := run_torn3
      have hb2 := run_bld67
      have HG3 : Hid True := Lib.hid trivial
      clear htm0
      go_wp2_with (first
        | (have x1 := HG3; go_at_call 20; refine (len_lv HL.out (i := 3) (d := d) rfl).mono ?_; rintro e w2 ⟨rfl, rfl⟩; rw [HSD.out]; have HG4 := x1; clear HG3 x1)
        | (have x1 := HG4; at_builtin; refine wpList_acc HLn.out (i := 0) (v := v0) (ts := allT i) rfl rfl (.tmp 37) (.tmp 40) rfl rfl [tm] HTK.out HSRC.out HBD.out ?_; clear HLn HG4 x1; intro v2 w2 hl2; have HL2 := Lib.hid hl2; clear hl2))
      go_roundw
      case rel => exact ⟨i + 1, _, by omega, rfl, by go_num, by rw [HAL.out]; exact HL2.out⟩
      case measure => simp [intOf]; omega
    · obtain rfl : i = S := by omega
      have hl2 := HL.out.accTorn (i := 0) rfl
      obtain ⟨Zo, ⟨ao, co, hvo, hto⟩, _⟩ := hl2.get (i := 0) rfl
      rw [allT_len] at hvo hto
      subst hvo
      have HLb : Hid (Lv w0 wr [tornO (.slice ao i co) (allT i), diskO gb d, diskO ga d, diskO g d]) := Lib.hid hl2
      have HE1 : Hid ((d.restart (allT i)).S.map lastB = d.flush.S.map lastB) := Lib.hid (by rw [← HSD.out]; exact again_flush d HOK.out)
      have HFO : Hid (d.flush.on = true) := Lib.hid ((flush_on HFD.out).trans HOD.out)
      have HE2 : Hid ((d.restart (allT i)).S.map lastB = (d.flush.restart []).S.map lastB) := Lib.hid (by rw [HE1.out, restart_same _ (flush_single d)])
      have HE3 : Hid (((d.restart (ts.take M)).restart (us.take V)).S.map lastB = (d.restart (ts.take M)).S.map lastB) := Lib.hid (restart_same _ (restart_single d _) _)
      have HN1 : Hid ((d.restart (allT i)).S.length = d.flush.S.length) := Lib.hid (by rw [restart_len, flush_len])
      have HN2 : Hid ((d.restart (allT i)).S.length = (d.flush.restart []).S.length) := Lib.hid (by rw [restart_len, restart_len, flush_len])
      have HN3 : Hid (((d.restart (ts.take M)).restart (us.take V)).S.length = (d.restart (ts.take M)).S.length) := Lib.hid (by rw [restart_len])
      have HOc : Hid ((d.restart (ts.take M)).Ok 100000) := Lib.hid ((DM.restart_ok HOK.out _).mono (by omega))
      obtain ⟨D1, hD1⟩ : ∃ D1, D1 = d.restart (allT i) := ⟨_, rfl⟩
      obtain ⟨D2, hD2⟩ : ∃ D2, D2 = d.flush := ⟨_, rfl⟩
      obtain ⟨D3, hD3⟩ : ∃ D3, D3 = D2.restart [] := ⟨_, rfl⟩
      obtain ⟨D4, hD4⟩ : ∃ D4, D4 = d.restart (ts.take M) := ⟨_, rfl⟩
      obtain ⟨D5, hD5⟩ : ∃ D5, D5 = D4.restart (us.take V) := ⟨_, rfl⟩
      have O1 : Hid (D1.on = true) := Lib.hid (by rw [hD1]; rfl)
      have O3 : Hid (D3.on = true) := Lib.hid (by rw [hD3]; rfl)
      have O4 : Hid (D4.on = true) := Lib.hid (by rw [hD4]; rfl)
      have O5 : Hid (D5.on = true) := Lib.hid (by rw [hD5]; rfl)
      rw [← hD1, ← hD2] at HE1 HN1
      rw [← hD1, ← hD2, ← hD3] at HE2 HN2
      rw [← hD4, ← hD5] at HE3 HN3
      rw [← hD4] at HOc
      rw [← hD2] at HFO
      obtain ⟨X1, hX1⟩ : ∃ X1, X1 = ts.take M := ⟨_, rfl⟩
      obtain ⟨X2, hX2⟩ : ∃ X2, X2 = us.take V := ⟨_, rfl⟩
      obtain ⟨X3, hX3⟩ : ∃ X3, X3 = allT i := ⟨_, rfl⟩
      rw [← hX1] at HT hD4
      rw [← hX2] at HU hD5
      rw [← hX3] at HLb hD1
      have HD1 := Lib.hid hD1
      have HD2 := Lib.hid hD2
      have HD3 := Lib.hid hD3
      have HD4 := Lib.hid hD4
      have HD5 := Lib.hid hD5
      clear hl2 hto HL hX1 hX2 hX3 hD1 hD2 hD3 hD4 hD5
      have HG3 : Hid True := Lib.hid trivial
      go_upto_region 14 with (first
        | (have x1 := HG3; go_at_call 20; refine (len_lv HLb.out (i := 3) (d := d) rfl).mono ?_; rintro e w2 ⟨rfl, rfl⟩; rw [HSD.out]; clear HG3 x1)
        | (have hL := HLb.out; go_at_call 27; obtain ⟨Zt, ht⟩ := hL.ts (i := 0) rfl; refine (restart_lv hL (i := 2) (d := d) rfl ht (.inr ⟨0, _, by decide, rfl, rfl⟩)).mono ?_; rintro e w1 ⟨rfl, hl⟩; rw [← HD1.out] at hl; have HLc : Hid (Lv w0 w1 [diskO gb d, diskO ga D1, diskO g d]) := Lib.hid hl.tail; clear hl HLb hL ht))
      go_upto_region 15 with (first
        | (have hL := HLc.out; go_at_call 30; refine (flush_lv hL (i := 0) (d := d) rfl HOD.out).mono ?_; rintro e w2 ⟨rfl, hl⟩; rw [← HD2.out] at hl; have HLd : Hid (Lv w0 w2 [diskO gb D2, diskO ga D1, diskO g d]) := Lib.hid hl; clear hl HLc hL))
      go_upto_region 17 with (first
        | (have hL := HLd.out; go_at_call 38; refine (equal_lv hL (i1 := 1) (i2 := 0) (d1 := D1) (d2 := D2) rfl rfl HN1.out (O1.out.trans HFO.out.symm) O1.out HE1.out).mono ?_; rintro e w1 ⟨rfl, hl⟩; have HLe := Lib.hid hl; clear hl HLd hL))
      go_upto_region 18 with (first
        | (have hL := HLe.out; go_at_call 27; refine (restart_nil_lv hL (i := 0) (d := D2) rfl).mono ?_; rintro e w1 ⟨rfl, hl⟩; rw [← HD3.out] at hl; have HLf : Hid (Lv w0 w1 [diskO gb D3, diskO ga D1, diskO g d]) := Lib.hid hl; clear hl HLe hL))
      go_upto_region 19 with (first
        | (have x1 := HG1; refine wpList_min2 rfl (.tmp 60) (.const (.int .i64 40)) 3 3 rfl (tn : Int) 40 (M : Int) rfl rfl Hmin1.out ?_; clear HG1 x1)
        | (have hL := HLf.out; go_at_call 27; refine (restart_lv hL (i := 2) (d := d) rfl (HT.out.kept (Kept.of_below (fun x => w0.heap.size ≤ x) hL.args) (fun x hx _ h => by omega)) (.inl (fun x hx => hx))).mono ?_; rintro e w1 ⟨rfl, hl⟩; rw [← HD4.out] at hl; have HLg : Hid (Lv w0 w1 [diskO gb D3, diskO ga D1, diskO g D4]) := Lib.hid hl; clear hl HLf hL))
      go_upto_region 22 with (first
        | (have hL := HLg.out; go_at_call 37; refine (clone_lv hL (i := 2) (d := D4) rfl HOc.out).mono ?_; rintro e w1 ⟨gc, rfl, hl⟩; have HLh := Lib.hid hl; clear hl HLg hL))
      go_upto_region 23 with (first
        | (have x1 := HG2; refine wpList_min2 rfl (.tmp 71) (.const (.int .i64 40)) 3 3 rfl (un : Int) 40 (V : Int) rfl rfl Hmin2.out ?_; clear HG2 x1)
        | (have hL := HLh.out; go_at_call 27; refine (restart_lv hL (i := 0) (d := D4) rfl (HU.out.kept (Kept.of_below (fun x => w0.heap.size ≤ x) hL.args) (fun x hx _ h => by omega)) (.inl (fun x hx => hx))).mono ?_; rintro e w1 ⟨rfl, hl⟩; rw [← HD5.out] at hl; have HLi : Hid (Lv w0 w1 [diskO gc D5, diskO gb D3, diskO ga D1, diskO g D4]) := Lib.hid hl; clear hl HLh hL))
      go_wp2_with (first
        | (have hL := HLi.out; go_at_call 38; refine (equal_lv hL (i1 := 2) (i2 := 1) (d1 := D1) (d2 := D3) rfl rfl HN2.out (O1.out.trans O3.out.symm) O1.out HE2.out).mono ?_; rintro e w1 ⟨rfl, hl⟩; have HLj := Lib.hid hl; clear hl HLi hL)
        | (have hL := HLj.out; go_at_call 38; refine (equal_lv hL (i1 := 0) (i2 := 3) (d1 := D5) (d2 := D4) rfl rfl HN3.out (O5.out.trans O4.out.symm) O5.out HE3.out).mono ?_; rintro e w1 ⟨rfl, hl⟩; have HLk := Lib.hid hl; clear hl HLj hL)
        | (have hL := HLk.out; go_at_call 17; refine (lives_any _).mono ?_; rintro e w1 ⟨rfl, hb⟩; have HB := Lib.hid (hL.args.trans (hb.mono hL.size)); clear hb hL))
      go_ret
      exact ⟨rfl, HB.out⟩
end Go.Proofs.Ytbnodhcgdgcebaa

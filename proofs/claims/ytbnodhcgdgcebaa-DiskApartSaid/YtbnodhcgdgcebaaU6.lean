/-
  The law DiskApart.
-/
import Derived.Test.YtbnodhcgdgcebaaU5
namespace Go.Proofs.Ytbnodhcgdgcebaa
open Go.RowKit
set_option linter.unusedSimpArgs false
set_option linter.unusedVariables false
theorem first_filter (ts : List TM) (k : Nat) : firstOf ts k = firstOf (ts.filter fun t => t.sector == (k : Int)) k := by
  unfold firstOf
  rw [List.find?_filter]
  congr 1
  funext t
  cases (t.sector == (k : Int)) <;> rfl
set_option maxRecDepth 100000 in
set_option maxHeartbeats 8000000 in
theorem diskapart_any (x : Int) (a : Option Addr) (n c : Nat) (ms : List OM) (ta : Option Addr) (tn tc : Nat) (ts : List TM) (s : Int) (w0 : World) (h1 : -9223372036854775808 ≤ x) (h2 : x ≤ 9223372036854775807) (hO : Ops (fun b => b < w0.heap.size) w0 a n c ms) (hT : Ts (fun b => b < w0.heap.size) w0 ta tn tc ts) (h3 : -9223372036854775808 ≤ s) (h4 : s ≤ 9223372036854775807) :
    Calls Try.prog 8 #[.int .i64 x, .slice a n c, .slice ta tn tc, .int .i64 s] w0 fun e w' => e = .returned (.bool true) ∧ Below w0.heap.size w0 w' := by
  have HO := Lib.hid hO
  have HT := Lib.hid hT
  have HL0 := Lib.hid (Lv.refl w0)
  have hsb := secs_bd x
  obtain ⟨S, hS⟩ : ∃ S, S = secs x := ⟨_, rfl⟩
  rw [← hS] at hsb
  have hsb1 := hsb.1
  have hsb2 := hsb.2
  have hS1 : (1 : Int) ≤ (S : Int) := by omega
  have HS := Lib.hid hS
  have htc : tn ≤ tc := hT.2.1.2.1
  have htm : tc ≤ 9223372036854775807 := hT.2.1.2.2.1
  obtain ⟨kk, hkk, hkb⟩ := around_nat s (S : Int) (by omega)
  have HKK := Lib.hid hkk
  have HK0 : Hid (kk < S) := Lib.hid (by omega)
  have hk64 : (kk : Int) ≤ 9223372036854775807 := by omega
  clear hO hT hS hkk hkb hsb
  go_enter Try.func8, Try.ntmps8
  go_wp2_with (first
    | (have hL := HL0.out; go_at_call 35; refine (written_lv hL x h1 h2 HO.out).mono ?_; rintro e w1 ⟨g, d, rfl, hl, hon, hfz, hSL, hok⟩; rw [← HS.out] at hSL; have HL1 := Lib.hid hl; have HON := Lib.hid hon; have HSL := Lib.hid hSL; have HOK := Lib.hid (hok.mono (show 40 ≤ 100000 by omega)); clear hl hon hfz hSL hok HL0 hL)
    | (have hL := HL1.out; go_at_call 20; refine (len_lv hL (i := 0) (d := d) rfl).mono ?_; rintro e w2 ⟨rfl, rfl⟩; rw [HSL.out]; clear hL)
    | (go_at_call 14; refine (around_any s (S : Int) _ h3 h4 (by omega) (by omega)).mono ?_; rintro e w2 ⟨rfl, rfl⟩; rw [HKK.out]))
  go_loopw [11, 12] (fun u t wr => ∃ (i : Nat) (v0 : Value), i ≤ tn ∧ i ≤ 40 ∧ v0 = u ∧ t = .int .i64 (i : Int) ∧ Lv w0 wr [accO v0 ((ts.take i).filter fun t => t.sector == (kk : Int)), diskO g d]) (fun _ t _ => 40 - (intOf t).toNat)
  case atStart => exact ⟨0, _, Nat.zero_le _, by omega, rfl, rfl, by rw [List.take_zero]; exact HL1.out.acc0⟩
  case round =>
    obtain ⟨i, v0, hi, hi40, hv0, rfl, hL⟩ := hrel
    subst hv0
    have HL := Lib.hid hL
    have HKS : Hid (kk < d.S.length) := Lib.hid (by rw [HSL.out]; exact HK0.out)
    clear hL HL1
    by_cases hlt : i < tn
    · by_cases hlt40 : i < 40
      · have hn2 : (i : Int) < (tn : Int) := by omega
        have hn3 : (i : Int) < 40 := by omega
        have hw1 : IntKind.i64.wrap ((i : Int) + 1) = (i : Int) + 1 := i64_id _ (by omega) (by omega)
        obtain ⟨b, off, hDb, hbw, rfl, hrb⟩ := HT.out.at (by omega)
        have hil : i < ts.length := by have := HT.out.1; omega
        have hr3 := hrb i hil
        obtain ⟨tm, htm⟩ : ∃ tm, tm = ts[i] := ⟨_, rfl⟩
        have htok : TOk tm := by rw [htm]; exact HT.out.2.2 _ (List.getElem_mem hil)
        rw [← htm] at hr3
        have htk : ts.take (i + 1) = ts.take i ++ [tm] := by rw [List.take_succ_eq_append_getElem hil, htm]
        have hr4 : wr.rangeAt b (off + i * 3) [.int .i64 tm.sector, .int .i64 tm.writes, .int .i64 tm.bytes] := fun j v hv => (HL.out.args.cell (p := ⟨b, off + i * 3 + j, none⟩) hbw).trans (hr3 j v hv)
        have cS : wr.cell? ⟨b, off + i * 3, none⟩ = some (.int .i64 tm.sector) := hr4 0 _ rfl
        have Hr4 := Lib.hid hr4
        have HTK := Lib.hid htok
        have HLN : Hid (((ts.take i).filter fun t => t.sector == (kk : Int)).length ≤ 40) := Lib.hid (Nat.le_trans (List.length_filter_le _ _) (by rw [List.length_take]; omega))
        have hbd := run_bld67
        have HG1 : Hid True := Lib.hid trivial
        have HBD : Hid (((ts.take i).filter fun t => t.sector == (kk : Int)).length + [tm].length ≤ 1000000) := Lib.hid (by have := HLN.out; simp only [List.length_cons, List.length_nil]; omega)
        have HON1 : Hid (∀ t ∈ [tm], TOk t) := Lib.hid (fun t ht => by rw [List.mem_singleton.1 ht]; exact HTK.out)
        have HSRC : Hid (Src Try.prog 3 33 (.slice (some ⟨wr.heap.size, 0, none⟩) 1 1) 1 (tcells [tm]) (wr.alloc (.cells #[.int .i64 tm.sector, .int .i64 tm.writes, .int .i64 tm.bytes] 67))) := Lib.hid (src_new (us := [tm]) (g := wr.heap.size) (heap_new rfl))
        have HLn : Hid (Lv w0 (wr.alloc (.cells #[.int .i64 tm.sector, .int .i64 tm.writes, .int .i64 tm.bytes] 67)) [accO v0 ((ts.take i).filter fun t => t.sector == (kk : Int)), diskO g d]) := Lib.hid (HL.out.below ((Below.refl _ _).alloc (Nat.le_refl _) _))
        by_cases hs : tm.sector = (kk : Int)
        · have HTA : Hid (((ts.take (i + 1)).filter fun t => t.sector == (kk : Int)) = ((ts.take i).filter fun t => t.sector == (kk : Int)) ++ [tm]) := Lib.hid (by rw [htk, List.filter_append]; simp [hs])
          rw [hs] at cS
          clear hDb hrb hil hr3 htm htok htk hr4 hs
          go_wp2_with (first
            | (have x1 := HG1; refine wpList_load_mid rfl 67 (.tmp 52) rfl b (off + i * 3) rfl _ _ Hr4.out Try.underlying67 rfl (by kernel_rfl) ?_; have HG2 := x1; clear HG1 x1)
            | (have x1 := HG2; have hL := HLn.out; refine wpList_acc hL (i := 0) (v := v0) (ts := ((ts.take i).filter fun t => t.sector == (kk : Int))) rfl rfl (.tmp 49) (.tmp 54) rfl rfl [tm] HON1.out HSRC.out HBD.out ?_; clear HLn hL; intro v2 w2 hl2; have HL2 := Lib.hid hl2; clear hl2))
          go_roundw
          case rel => exact ⟨i + 1, _, by omega, by omega, rfl, by go_num, by rw [HTA.out]; exact HL2.out⟩
          case measure => simp [intOf]; omega
        · have HTA : Hid (((ts.take (i + 1)).filter fun t => t.sector == (kk : Int)) = ((ts.take i).filter fun t => t.sector == (kk : Int))) := Lib.hid (by rw [htk, List.filter_append]; simp [hs])
          have hs2 : (tm.sector == (kk : Int)) = false := by rw [beq_eq_false_iff_ne]; exact hs
          clear hDb hrb hil hr3 htm htok htk hr4
          go_wp2_with fail
          go_roundw
          case rel => exact ⟨i + 1, _, by omega, by omega, rfl, by go_num, by rw [HTA.out]; exact HL.out⟩
          case measure => simp [intOf]; omega
      · have hi4 : 40 ≤ (i : Int) := by omega
        have HG3 : Hid True := Lib.hid trivial
        have hmin : min (tn : Int) 40 = (i : Int) := by omega
        have hti := HT.out.upto i (by omega)
        have HTi := Lib.hid hti
        have hof : firstOf (ts.take i) kk = firstOf ((ts.take i).filter fun t => t.sector == (kk : Int)) kk := first_filter _ _
        obtain ⟨own, hown⟩ : ∃ own, own = ((ts.take i).filter fun t => t.sector == (kk : Int)) := ⟨_, rfl⟩
        rw [← hown] at HL hof
        have hla : ∀ h1 h2, lastB ((d.restart (ts.take i)).S[kk]'h1) = lastB ((d.restart own).S[kk]'h2) := fun h1 h2 => by rw [restart_get d _ kk HKS.out, restart_get d _ kk HKS.out, hof]
        have HLA := Lib.hid hla
        have hl2 := HL.out.accTorn (i := 0) rfl
        obtain ⟨Zo, ⟨ao, co, hvo, hto⟩, _⟩ := hl2.get (i := 0) rfl
        subst hvo
        have HLb : Hid (Lv w0 wr [tornO (.slice ao own.length co) own, diskO g d]) := Lib.hid hl2
        have hno : own.length ≤ 9223372036854775807 := by have := hto.2.1.2.1; have := hto.2.1.2.2.1; unfold maxLen at this; omega
        have K1 : kk < (d.restart (ts.take i)).S.length := by rw [restart_len]; exact HKS.out
        have K2 : kk < (d.restart own).S.length := by rw [restart_len]; exact HKS.out
        generalize own.length = no at *
        clear hti hof hown hla hl2 hto HL
        go_wp2_with (first
          | (have x1 := HG3; refine wpList_min2 rfl (.tmp 63) (.const (.int .i64 40)) 3 3 rfl (tn : Int) 40 (i : Int) rfl rfl hmin ?_; clear HG3 x1)
          | (have hL := HLb.out; go_at_call 37; refine (clone_lv hL (i := 1) (d := d) rfl HOK.out).mono ?_; rintro e w1 ⟨ga, rfl, hl⟩; have HLc := Lib.hid hl; clear hl HLb hL)
          | (have hL := HLc.out; go_at_call 27; refine (restart_lv hL (i := 2) (d := d) rfl (HTi.out.kept (Kept.of_below (fun x => w0.heap.size ≤ x) hL.args) (fun x hx _ h => by omega)) (.inl (fun x hx => hx))).mono ?_; rintro e w1 ⟨rfl, hl⟩; have HLd := Lib.hid hl; clear hl HLc hL)
          | (have hL := HLd.out; go_at_call 27; obtain ⟨Zt, ht⟩ := hL.ts (i := 1) rfl; refine (restart_lv hL (i := 0) (d := d) rfl ht (.inr ⟨1, _, by decide, rfl, rfl⟩)).mono ?_; rintro e w1 ⟨rfl, hl⟩; have HLe := Lib.hid hl; clear hl HLd hL ht)
          | (have hL := HLe.out; go_at_call 21; refine (read_w hL (i := 2) (d := d.restart (ts.take i)) rfl kk K1 rfl).mono ?_; rintro e w1 ⟨ax, cx, rfl, hl⟩; have HLf := Lib.hid hl; clear hl HLe hL)
          | (have hL := HLf.out; go_at_call 21; refine (read_w hL (i := 1) (d := d.restart own) rfl kk K2 rfl).mono ?_; rintro e w1 ⟨ay, cy, rfl, hl⟩; rw [← HLA.out K1 K2] at hl; have HLg := Lib.hid hl; clear hl HLf hL)
          | (have hL := HLg.out; go_at_call 22; obtain ⟨Zq, hq⟩ := hL.bs (i := 1) rfl; obtain ⟨Zr, hr⟩ := hL.bs (i := 0) rfl; refine (sameBytes_any _ _ _ _ _ _ _ _ _ _ _ hq hr).mono ?_; rintro e w2 ⟨rfl, rfl⟩; rw [beq_self_eq_true]; clear hL hq hr)
          | (have hL := HLg.out; go_at_call 17; refine (lives_any _).mono ?_; rintro e w1 ⟨rfl, hb⟩; have HB := Lib.hid (hL.args.trans (hb.mono hL.size)); clear hb hL))
        go_ret
        exact ⟨rfl, HB.out⟩
    · have hin : (tn : Int) ≤ (i : Int) := by omega
      have HG3 : Hid True := Lib.hid trivial
      have hmin : min (tn : Int) 40 = (i : Int) := by omega
      have hti := HT.out.upto i (by omega)
      have HTi := Lib.hid hti
      have hof : firstOf (ts.take i) kk = firstOf ((ts.take i).filter fun t => t.sector == (kk : Int)) kk := first_filter _ _
      obtain ⟨own, hown⟩ : ∃ own, own = ((ts.take i).filter fun t => t.sector == (kk : Int)) := ⟨_, rfl⟩
      rw [← hown] at HL hof
      have hla : ∀ h1 h2, lastB ((d.restart (ts.take i)).S[kk]'h1) = lastB ((d.restart own).S[kk]'h2) := fun h1 h2 => by rw [restart_get d _ kk HKS.out, restart_get d _ kk HKS.out, hof]
      have HLA := Lib.hid hla
      have hl2 := HL.out.accTorn (i := 0) rfl
      obtain ⟨Zo, ⟨ao, co, hvo, hto⟩, _⟩ := hl2.get (i := 0) rfl
      subst hvo
      have HLb : Hid (Lv w0 wr [tornO (.slice ao own.length co) own, diskO g d]) := Lib.hid hl2
      have hno : own.length ≤ 9223372036854775807 := by have := hto.2.1.2.1; have := hto.2.1.2.2.1; unfold maxLen at this; omega
      have K1 : kk < (d.restart (ts.take i)).S.length := by rw [restart_len]; exact HKS.out
      have K2 : kk < (d.restart own).S.length := by rw [restart_len]; exact HKS.out
      generalize own.length = no at *
      clear hti hof hown hla hl2 hto HL
      go_wp2_with (first
        | (have x1 := HG3; refine wpList_min2 rfl (.tmp 63) (.const (.int .i64 40)) 3 3 rfl (tn : Int) 40 (i : Int) rfl rfl hmin ?_; clear HG3 x1)
        | (have hL := HLb.out; go_at_call 37; refine (clone_lv hL (i := 1) (d := d) rfl HOK.out).mono ?_; rintro e w1 ⟨ga, rfl, hl⟩; have HLc := Lib.hid hl; clear hl HLb hL)
        | (have hL := HLc.out; go_at_call 27; refine (restart_lv hL (i := 2) (d := d) rfl (HTi.out.kept (Kept.of_below (fun x => w0.heap.size ≤ x) hL.args) (fun x hx _ h => by omega)) (.inl (fun x hx => hx))).mono ?_; rintro e w1 ⟨rfl, hl⟩; have HLd := Lib.hid hl; clear hl HLc hL)
        | (have hL := HLd.out; go_at_call 27; obtain ⟨Zt, ht⟩ := hL.ts (i := 1) rfl; refine (restart_lv hL (i := 0) (d := d) rfl ht (.inr ⟨1, _, by decide, rfl, rfl⟩)).mono ?_; rintro e w1 ⟨rfl, hl⟩; have HLe := Lib.hid hl; clear hl HLd hL ht)
        | (have hL := HLe.out; go_at_call 21; refine (read_w hL (i := 2) (d := d.restart (ts.take i)) rfl kk K1 rfl).mono ?_; rintro e w1 ⟨ax, cx, rfl, hl⟩; have HLf := Lib.hid hl; clear hl HLe hL)
        | (have hL := HLf.out; go_at_call 21; refine (read_w hL (i := 1) (d := d.restart own) rfl kk K2 rfl).mono ?_; rintro e w1 ⟨ay, cy, rfl, hl⟩; rw [← HLA.out K1 K2] at hl; have HLg := Lib.hid hl; clear hl HLf hL)
        | (have hL := HLg.out; go_at_call 22; obtain ⟨Zq, hq⟩ := hL.bs (i := 1) rfl; obtain ⟨Zr, hr⟩ := hL.bs (i := 0) rfl; refine (sameBytes_any _ _ _ _ _ _ _ _ _ _ _ hq hr).mono ?_; rintro e w2 ⟨rfl, rfl⟩; rw [beq_self_eq_true]; clear hL hq hr)
        | (have hL := HLg.out; go_at_call 17; refine (lives_any _).mono ?_; rintro e w1 ⟨rfl, hb⟩; have HB := Lib.hid (hL.args.trans (hb.mono hL.size)); clear hb hL))
      go_ret
      exact ⟨rfl, HB.out⟩
end Go.Proofs.Ytbnodhcgdgcebaa

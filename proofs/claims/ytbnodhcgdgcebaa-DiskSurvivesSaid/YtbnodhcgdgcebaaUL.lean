/-
  The law DiskSurvives.
-/
import Derived.Test.YtbnodhcgdgcebaaUK
namespace Go.Proofs.Ytbnodhcgdgcebaa
open Go.RowKit
set_option linter.unusedSimpArgs false
set_option linter.unusedVariables false
def Dsv23 : List (Option Tmp) := [some 89, some 90, some 91, some 92, some 93, some 94, some 95, some 96, some 97, some 98, some 99, some 100, some 101, some 102, some 103, some 104, some 105, some 106, some 107, some 108, some 109]
def Lsv23 : List (List Nat) := [[], [], [1], [2], [3], [], [4, 5], [6], [], [8], [9], [10], [], [11, 12], [13], [14], [15], [7, 16], [17], [0, 18], [19]]
def Dsv29 : List (Option Tmp) := [some 133, some 134, some 135, some 136, some 137, some 138, some 139, some 140, some 141, some 142, some 143, some 144, some 145, some 146, some 147, some 148, some 149, some 150, some 151, some 152, some 153, some 154, some 155, some 156, some 157, some 158, some 11]
def Lsv29 : List (List Nat) := [[], [0], [1], [1], [3, 1], [4, 1], [5, 1], [1], [6, 7, 1], [8, 1], [1], [9, 10, 1], [11, 1], [1], [13, 1], [14, 1], [15, 1], [1], [16, 17, 1], [18, 1], [1], [20, 1], [19, 21, 1], [22, 1], [2, 12, 23, 1], [1, 24], [25]]
set_option maxRecDepth 100000 in
set_option maxHeartbeats 16000000 in
theorem disksurvives_any (x : Int) (a : Option Addr) (n c : Nat) (ms : List OM) (w0 : World) (h1 : -9223372036854775808 ≤ x) (h2 : x ≤ 9223372036854775807) (hO : Ops (fun b => b < w0.heap.size) w0 a n c ms) :
    Calls Try.prog 5 #[.int .i64 x, .slice a n c] w0 fun e w' => e = .returned (.bool true) ∧ Below w0.heap.size w0 w' := by
  have HO := Lib.hid hO
  have HL0 := Lib.hid (Lv.refl w0)
  have hsb := secs_bd x
  have hok0 : (DM.new (secs x)).Ok 0 := DM.new_ok hsb.1 (by omega)
  have hlen0 : (DM.new (secs x)).S.length = secs x := by simp [DM.new]
  obtain ⟨SN, hSN⟩ : ∃ SN, SN = secs x := ⟨_, rfl⟩
  rw [← hSN] at hsb hok0 hlen0
  have HSNX := Lib.hid hSN
  have Hok0 := Lib.hid hok0
  have Hlen0 := Lib.hid hlen0
  have hsn1 : 0 < SN := by omega
  have hsn2 : SN ≤ 4096 := by omega
  have hnm : n ≤ 9223372036854775807 := by have := hO.2.1.2.1; have := hO.2.1.2.2.1; unfold maxLen at this; omega
  clear hO hSN hok0 hlen0 hsb
  go_enter Try.func5, Try.ntmps5
  go_upto_region 5 with (have hL := HL0.out; go_at_call 24; refine (tracked_lv hL x h1 h2).mono ?_; rintro e w1 ⟨g, gt, rfl, hl⟩; rw [← HSNX.out] at hl; have HL1 := Lib.hid hl; clear hl HL0 hL)
  go_loopw [7] (fun t wr => ∃ (i : Nat) (d : DM), i ≤ n ∧ i ≤ 60 ∧ t = .int .i64 (i : Int) ∧ Lv w0 wr [trackO 55 [] gt d.S, diskO g d] ∧ d.on = true ∧ d.fuse = 0 ∧ d.S.length = SN ∧ d.Ok i) (fun t _ => 60 - (intOf t).toNat)
  case atStart => exact ⟨0, DM.new SN, Nat.zero_le _, by omega, rfl, HL1.out, rfl, rfl, Hlen0.out, Hok0.out⟩
  case round =>
    obtain ⟨i, d, hi, hi60, rfl, hL, hon, hf0, hSL, hOK⟩ := hrel
    have HL := Lib.hid hL
    have HON := Lib.hid hon
    have HF0 := Lib.hid hf0
    have HSL := Lib.hid hSL
    have HOKi := Lib.hid hOK
    have HOK : Hid (d.Ok 100000) := Lib.hid (hOK.mono (by omega))
    have HTN0 : Hid (∀ s ∈ d.S, 0 < s.length ∧ s.length ≤ 100000) := Lib.hid (fun s hs => ⟨List.length_pos_iff.2 (hOK.2.2.2 s hs).1, by have := (hOK.2.2.2 s hs).2.1; omega⟩)
    have HSN1 : Hid (0 < d.S.length ∧ d.S.length ≤ 4096) := Lib.hid (by rw [hSL]; exact ⟨hsn1, hsn2⟩)
    clear hL hon hf0 hSL hOK HL1
    by_cases hlt : i < n
    · by_cases hlt60 : i < 60
      · have hn2 : (i : Int) < (n : Int) := by omega
        have hn3 : (i : Int) < 60 := by omega
        have hw1 : IntKind.i64.wrap ((i : Int) + 1) = (i : Int) + 1 := i64_id _ (by omega) (by omega)
        obtain ⟨b, off, hDb, hbw, rfl, hrb⟩ := HO.out.at (by omega)
        have hil : i < ms.length := by have := HO.out.1; omega
        have hr5 := hrb i hil
        obtain ⟨m, hm⟩ : ∃ m, m = ms[i] := ⟨_, rfl⟩
        have hmok : OOk (fun b => b < w0.heap.size) w0 m := by rw [hm]; exact HO.out.2.2 _ (List.getElem_mem hil)
        rw [← hm] at hr5
        obtain ⟨ob, hob⟩ : ∃ ob, off + i * 5 = ob := ⟨_, rfl⟩
        rw [hob] at hr5
        have HR50 : Hid (w0.rangeAt b ob m.cells) := Lib.hid hr5
        have hbq : b < wr.heap.size := Nat.lt_of_lt_of_le hbw HL.out.size
        have cK0 : wr.cell? ⟨b, ob + 0, none⟩ = some (.int .i64 m.kind) := (HL.out.args.cell (p := ⟨b, ob + 0, none⟩) hbw).trans (hr5 0 _ rfl)
        have c1 : wr.cell? ⟨b, ob + 1, none⟩ = some (.int .i64 m.k) := (HL.out.args.cell (p := ⟨b, ob + 1, none⟩) hbw).trans (hr5 1 _ rfl)
        have c2 : wr.cell? ⟨b, ob + 2, none⟩ = some (.int .i64 m.n) := (HL.out.args.cell (p := ⟨b, ob + 2, none⟩) hbw).trans (hr5 2 _ rfl)
        have c3 : wr.cell? ⟨b, ob + 3, none⟩ = some (.slice m.ba m.bn m.bc) := (HL.out.args.cell (p := ⟨b, ob + 3, none⟩) hbw).trans (hr5 3 _ rfl)
        have cK : wr.cell? ⟨b, ob, none⟩ = some (.int .i64 m.kind) := cK0
        have HM := Lib.hid hmok
        have HOB := Lib.hid hob
        have HC1 := Lib.hid c1
        have HC2 := Lib.hid c2
        have HC3 := Lib.hid c3
        have Hbw := Lib.hid hbw
        have Hbq := Lib.hid hbq
        clear hDb hrb hr5 hm hmok cK0 c1 c2 c3 hil hbw hbq
        have hm0 := HM.out.1
        have HRG : Hid (wr.rangeAt b ob m.cells) := Lib.hid (fun j v hv => (HL.out.args.cell (p := ⟨b, ob + j, none⟩) Hbw.out).trans (HR50.out j v hv))
        have HMT : Hid (Ts (fun b => b < w0.heap.size) w0 m.la m.ln m.lc m.l) := Lib.hid HM.out.2.2.2.2
        have HCK : Hid (∀ w', Below w0.heap.size w0 w' → w'.cell? ⟨b, ob, none⟩ = some (.int .i64 m.kind)) := Lib.hid (fun w' hb => (hb.cell (p := ⟨b, ob + 0, none⟩) Hbw.out).trans (HR50.out 0 _ rfl))
        have c4 : wr.cell? ⟨b, ob + 4, none⟩ = some (.slice m.la m.ln m.lc) := (HL.out.args.cell (p := ⟨b, ob + 4, none⟩) Hbw.out).trans (HR50.out 4 _ rfl)
        obtain ⟨r, hr, hrb⟩ := around_nat m.kind 4 (by omega)
        rcases (show r = 0 ∨ r = 1 ∨ r = 2 ∨ r = 3 by omega) with rfl | rfl | rfl | rfl
        · have Hr : Hid (around m.kind 4 = 0) := Lib.hid hr
          clear hr hrb c4
          have HG1 : Hid True := Lib.hid trivial
          go_upto_region 17 with (first
            | (go_at_call 14; refine (around_any m.kind 4 _ hm0.1 hm0.2 (by omega) (by omega)).mono ?_; rintro e w2 ⟨rfl, rfl⟩; rw [Hr.out])
            | (have x1 := HG1; refine wpList_load_mid rfl 35 (.tmp 50) rfl b ob rfl _ _ HRG.out Try.underlying35 rfl (by kernel_rfl) ?_; clear HG1 x1)
            | (have hL := HL.out; go_at_call 25; refine (twrite_lv hL m HM.out rfl HTN0.out HSN1.out.1 HSN1.out.2 HON.out HOK.out).mono ?_; rintro e w3 ⟨kk, l2, hkk, rfl, hl2, hl⟩; rw [set_modify _ _ hkk, ← write_S] at hl; have HL3 := Lib.hid hl; have HL2 := Lib.hid hl2; clear hl hl2 hL))
          obtain ⟨D1, hD1⟩ : ∃ D1, D1 = d.write kk l2 := ⟨_, rfl⟩
          rw [← hD1] at HL3
          have HO1 : Hid (D1.on = true) := Lib.hid (by rw [hD1]; exact (write_on HF0.out).trans HON.out)
          have HF1 : Hid (D1.fuse = 0) := Lib.hid (by rw [hD1]; exact (write_fuse HF0.out).trans HF0.out)
          have HS1L : Hid (D1.S.length = SN) := Lib.hid (by rw [hD1]; exact (write_len d kk l2).trans HSL.out)
          have HK1 : Hid (D1.Ok (i + 1)) := Lib.hid (by rw [hD1]; exact DM.write_ok HOKi.out HL2.out)
          have HLx := HL3
          clear hD1 HL cK
          have HTL : Hid (D1.S.length = SN) := HS1L
          have HTN : Hid (∀ s ∈ D1.S, 0 < s.length ∧ s.length ≤ 100000) := Lib.hid (fun s hs => ⟨List.length_pos_iff.2 (HK1.out.2.2.2 s hs).1, by have := (HK1.out.2.2.2 s hs).2.1; omega⟩)
          go_loopw [8] (fun t wr => ∃ k : Nat, k ≤ SN ∧ t = .int .i64 (k : Int) ∧ Lv w0 wr [trackO 55 [] gt D1.S, diskO g D1]) (fun t _ => SN - (intOf t).toNat)
          case atStart => exact ⟨0, Nat.zero_le _, rfl, HLx.out⟩
          case round =>
            obtain ⟨k, hk, rfl, hL⟩ := hrel
            have HL := Lib.hid hL
            clear hL HLx
            rename World => q
            by_cases hlk : k < SN
            · have hlk2 : (k : Int) < (SN : Int) := by omega
              have hwk : IntKind.i64.wrap ((k : Int) + 1) = (k : Int) + 1 := i64_id _ (by omega) (by omega)
              have HKD : Hid (k < D1.S.length) := Lib.hid (by rw [HS1L.out]; exact hlk)
              have HKN : Hid (k < SN) := Lib.hid hlk
              have HKS : Hid (k < D1.S.length) := Lib.hid (by rw [HTL.out]; exact hlk)
              obtain ⟨B, ⟨gso, vo, row, Bf, hT, hTB⟩, hblt, _, hset⟩ := HL.out.get (i := 0) rfl
              have hsp := HTN.out _ (List.getElem_mem HKS.out)
              obtain ⟨gs, so, co, ro, rc, rfl, rfl, f1, f2, f3, f4, f5, f6, f7, f8, f9⟩ := hT.look HKS.out hsp.1
              obtain ⟨sk, hsk⟩ : ∃ sk, sk = D1.S[k]'HKS.out := ⟨_, rfl⟩
              clear f9
              rw [← hsk] at f2 f7 f8 hsp
              have HSK := Lib.hid hsk
              obtain ⟨rk, hrk⟩ : ∃ rk, row k = rk := ⟨_, rfl⟩
              obtain ⟨sl, hsl⟩ : ∃ sl, sk.length = sl := ⟨_, rfl⟩
              obtain ⟨ys, hys, hyj⟩ := f8
              rw [hrk, hsl] at f7
              rw [HTL.out] at f6 f1
              rw [hsl] at f2 hsp
              rw [hrk] at f5 hys
              rw [hsl] at hys
              have HT := Lib.hid hT
              have HTB := Lib.hid hTB
              have HSET := Lib.hid hset
              have HRR := Lib.hid hrk
              have HSL8 := Lib.hid hsl
              have HYS := Lib.hid hys
              have HCO := Lib.hid f1
              have HRC := Lib.hid f2
              have HSP := Lib.hid hsp
              have HGT := Lib.hid f3
              have HGSQ := Lib.hid f4
              have HRKQ := Lib.hid f5
              have CV := Lib.hid f6
              have CK := Lib.hid f7
              have cV0 := f6
              have HJ : Hid (∀ j (hj : j < sk.length), ∃ a c, q.cell? ⟨rk, ro + j, none⟩ = some (.slice a 64 c) ∧ Bs Bf q a 64 c sk[j]) := Lib.hid (fun j hj => by
                obtain ⟨a, c, e1, e2⟩ := hyj j hj
                obtain ⟨r', ro', rc', e3, e4, _, _, _, e5⟩ := hys.at (by omega)
                cases e3; cases e4
                have hjl : j < ys.length := by rw [hys.1]; omega
                have e6 := e5 j hjl
                rw [List.getElem?_eq_getElem hjl] at e1
                rw [Option.some.inj e1] at e6
                exact ⟨a, c, e6, e2⟩)
              have HNE : Hid (¬ gt = rk ∧ ¬ gs = rk ∧ ¬ Bf gs) := Lib.hid ⟨fun e => (hT.ap2 k HKS.out).1 (hrk.trans e.symm), fun e => (hT.ap2 k HKS.out).2 (by rw [e, hrk]), hT.bf.2.1 gs rfl⟩
              have FK : Hid (∀ j, q.frozen? ⟨gs, j, none⟩ = false) := Lib.hid (by obtain ⟨xs, hx, _⟩ := hT.outer; exact hx.frozen)
              clear hT hTB hblt hset hsp f1 f2 f3 f4 f5 f6 f7 hsk hrk hsl hys hyj
              go_upto_region 20 with (first
                | (have hL := HL.out; go_at_call 21; refine (read_nb hL (i := 1) (d := D1) rfl k HKD.out HO1.out).mono ?_; rintro e u0 ⟨gb, rfl, hgb, hbb, hbl⟩; have HGB0 := Lib.hid hgb; have HBB0 := Lib.hid hbb; have HBL0 := Lib.hid hbl; clear hgb hbb hbl hL))
              rename World => u
              obtain ⟨bk, hbk⟩ : ∃ bk, bk = lastB (D1.S[k]'HKD.out) := ⟨_, rfl⟩
              rw [← hbk] at HBB0
              have HBK := Lib.hid hbk
              have HGB : Hid (q.heap.size ≤ gb) := HGB0
              have HBB : Hid (Bs (fun b => b = gb) u (some ⟨gb, 0, none⟩) 64 64 bk) := HBB0
              have HBL : Hid (Below q.heap.size q u) := HBL0
              have cKu : u.cell? ⟨b, ob, none⟩ = some (.int .i64 m.kind) := HCK.out u (HL.out.args.trans (HBL.out.mono HL.out.size))
              clear hbk
              have G1u : Hid (gt < u.heap.size) := Lib.hid (Nat.lt_of_lt_of_le HGT.out (HBL.out).size)
              have G2u : Hid (gs < u.heap.size) := Lib.hid (Nat.lt_of_lt_of_le HGSQ.out (HBL.out).size)
              have G3u : Hid (rk < u.heap.size) := Lib.hid (Nat.lt_of_lt_of_le HRKQ.out (HBL.out).size)
              have CVu : Hid (u.cell? ⟨gt, 0, none⟩ = some (.slice (some ⟨gs, so, none⟩) SN co)) := Lib.hid (((HBL.out).cell (p := ⟨gt, 0, none⟩) HGT.out).trans CV.out)
              have CKu : Hid (u.cell? ⟨gs, so + k, none⟩ = some (.slice (some ⟨rk, ro, none⟩) sl rc)) := Lib.hid (((HBL.out).cell (p := ⟨gs, so + k, none⟩) HGSQ.out).trans CK.out)
              obtain ⟨s1, hs1⟩ : ∃ s1, sl = s1 + 1 := ⟨sl - 1, by have := HSP.out.1; omega⟩
              have HWS : Hid (IntKind.i64.wrap ((sl : Int) - 1) = (s1 : Int)) := Lib.hid (by have := HRC.out; rw [i64_id _ (by omega) (by omega)]; omega)
              have HS1 : Hid (s1 < sl ∧ (s1 : Int) < (sl : Int)) := Lib.hid (by omega)
              have hs1l : s1 < sk.length := by rw [HSL8.out]; omega
              obtain ⟨aj, cj, hcj, hbj⟩ := HJ.out s1 hs1l
              have CJ : Hid (u.cell? ⟨rk, ro + s1, none⟩ = some (.slice aj 64 cj)) := Lib.hid ((HBL.out.cell (p := ⟨rk, ro + s1, none⟩) HRKQ.out).trans hcj)
              have HBJ : Hid (Bs Bf u aj 64 cj bk) := Lib.hid (by
                have e : bk = sk[s1] := by
                  have e2 : s1 = sk.length - 1 := by rw [HSL8.out]; omega
                  rw [HBK.out, ← HSK.out]
                  unfold lastB
                  rw [List.getLastD_eq_getLast?, List.getLast?_eq_getElem?, ← e2, List.getElem?_eq_getElem hs1l]
                  rfl
                rw [e]; exact hbj.kept (Kept.of_below (fun _ => False) HBL.out) (fun _ _ _ h => h))
              clear hs1 hs1l hcj hbj cV0
              go_upto_region 23 with (first | (go_at_call 14; refine (around_any m.kind 4 _ hm0.1 hm0.2 (by omega) (by omega)).mono ?_; rintro e w2 ⟨rfl, rfl⟩; rw [Hr.out]))
              clear cKu
              refine Roll.region_w 21 170 Dsv23 Lsv23 [(6, .pointer (some ⟨gt, 0, none⟩)), (8, .int .i64 (k : Int)), (9, .slice (some ⟨gb, 0, none⟩) 64 64)] 20 [true, true, true, true, true, true, true, true, true, true, true, true, true, true, true, true, true, true, true, false, false] (fun p => Below u.heap.size u p) (fun vv p => Below u.heap.size u p) (fun p => Below u.heap.size u p) (Kept (fun _ => False)) [fun vv p => (vv 0) = .slice (some ⟨gb, 0, none⟩) 64 64, fun vv p => (vv 1) = .pointer (some ⟨gt, 0, none⟩), fun vv p => (vv 2) = .pointer (some ⟨gt, 0, none⟩), fun vv p => (vv 3) = .pointer (some ⟨gt, 0, none⟩), fun vv p => (vv 4) = .slice (some ⟨gs, so, none⟩) SN co, fun vv p => (vv 5) = .int .i64 (k : Int), fun vv p => (vv 6) = .pointer (some ⟨gs, so + k, none⟩), fun vv p => (vv 7) = .slice (some ⟨rk, ro, none⟩) sl rc, fun vv p => (vv 8) = .pointer (some ⟨gt, 0, none⟩), fun vv p => (vv 9) = .pointer (some ⟨gt, 0, none⟩), fun vv p => (vv 10) = .pointer (some ⟨gt, 0, none⟩), fun vv p => (vv 11) = .slice (some ⟨gs, so, none⟩) SN co, fun vv p => (vv 12) = .int .i64 (k : Int), fun vv p => (vv 13) = .pointer (some ⟨gs, so + k, none⟩), fun vv p => (vv 14) = .slice (some ⟨rk, ro, none⟩) sl rc, fun vv p => (vv 15) = .int .i64 (sl : Int), fun vv p => (vv 16) = .int .i64 (s1 : Int), fun vv p => (vv 17) = .pointer (some ⟨rk, ro + s1, none⟩), fun vv p => (vv 18) = .slice aj 64 cj, fun vv p => (vv 19) = .bool true, fun vv p => (vv 20) = .bool false] (by kernel_rfl) (by kernel_rfl) rfl ⟨rfl, rfl, rfl, trivial⟩ ((Below.refl _ _).drew) (by decide) (by kernel_rfl) (fun _ h => h) (fun _ _ h => h) (fun _ => Kept.refl _ _) ?_ ?_ ?_
              · exact ⟨fun _ _ _ _ h => h, fun _ _ _ _ h => h, fun _ _ _ _ h => h, fun _ _ _ _ h => h, fun _ _ _ _ h => h, fun _ _ _ _ h => h, fun _ _ _ _ h => h, fun _ _ _ _ h => h, fun _ _ _ _ h => h, fun _ _ _ _ h => h, fun _ _ _ _ h => h, fun _ _ _ _ h => h, fun _ _ _ _ h => h, fun _ _ _ _ h => h, fun _ _ _ _ h => h, fun _ _ _ _ h => h, fun _ _ _ _ h => h, fun _ _ _ _ h => h, fun _ _ _ _ h => h, fun _ _ _ _ h => h, fun _ _ _ _ h => h, trivial⟩
              · intro b0 hN hlv
                refine ⟨?_, ?_, ?_, ?_, ?_, ?_, ?_, ?_, ?_, ?_, ?_, ?_, ?_, ?_, ?_, ?_, ?_, ?_, ?_, ?_, ?_, trivial⟩
                · intro vs p hI0 hp
                  have hI := Roll.inw_pure (by decide) rfl hI0
                  clear hI0
                  have e9 : (Roll.putD Dsv23 vs [] b0).eval (.tmp 9) = .slice (some ⟨gb, 0, none⟩) 64 64 := (Roll.eval_old rfl).trans (hlv.at 2 (9, .slice (some ⟨gb, 0, none⟩) 64 64) rfl)
                  clear hp hlv hN
                  unfold Roll.Goes
                  simp only [Lsv23, List.getD_cons_zero, List.getD_cons_succ]
                  generalize Roll.putD Dsv23 vs [] b0 = a1 at *
                  refine Roll.goes_val (w' := p) (.slice (some ⟨gb, 0, none⟩) 64 64) rfl ?_ ⟨(Roll.outw_pure (by decide) rfl), rfl⟩
                  (have ec : ∀ x, a1.eval (.const x) = x := fun _ => rfl); (have ef : ∀ x, a1.eval (.func x) = .func (.func x) #[] #[] := fun _ => rfl); generalize a1.eval = ρ at *
                  skip
                  go_simp <;> (intros; first | (exfalso; omega) | rfl)
                · intro vs p hI0 hp
                  have hI := Roll.inw_pure (by decide) rfl hI0
                  clear hI0
                  have e6 : (Roll.putD Dsv23 vs [] b0).eval (.tmp 6) = .pointer (some ⟨gt, 0, none⟩) := (Roll.eval_old rfl).trans (hlv.at 0 (6, .pointer (some ⟨gt, 0, none⟩)) rfl)
                  clear hp hlv hN
                  unfold Roll.Goes
                  simp only [Lsv23, List.getD_cons_zero, List.getD_cons_succ]
                  generalize Roll.putD Dsv23 vs [] b0 = a1 at *
                  refine Roll.goes_val (w' := p) (.pointer (some ⟨gt, 0, none⟩)) rfl ?_ ⟨(Roll.outw_pure (by decide) rfl), rfl⟩
                  (have ec : ∀ x, a1.eval (.const x) = x := fun _ => rfl); (have ef : ∀ x, a1.eval (.func x) = .func (.func x) #[] #[] := fun _ => rfl); generalize a1.eval = ρ at *
                  skip
                  go_simp <;> (intros; first | (exfalso; omega) | rfl)
                · intro vs p hI0 hp
                  have hI := Roll.inw_pure (by decide) rfl hI0
                  clear hI0
                  have h1 : (vs 1) = .pointer (some ⟨gt, 0, none⟩) := hp 1 (by simp [Lsv23])
                  have e90 : (Roll.putD Dsv23 vs [1] b0).eval (.tmp 90) = .pointer (some ⟨gt, 0, none⟩) := (Roll.eval_new 1 rfl (by decide) (by decide) (by omega)).trans h1
                  clear hp hlv hN
                  unfold Roll.Goes
                  simp only [Lsv23, List.getD_cons_zero, List.getD_cons_succ]
                  generalize Roll.putD Dsv23 vs [1] b0 = a1 at *
                  refine Roll.goes_val (w' := p) (.pointer (some ⟨gt, 0, none⟩)) rfl ?_ ⟨(Roll.outw_pure (by decide) rfl), rfl⟩
                  (have ec : ∀ x, a1.eval (.const x) = x := fun _ => rfl); (have ef : ∀ x, a1.eval (.func x) = .func (.func x) #[] #[] := fun _ => rfl); generalize a1.eval = ρ at *
                  clear h1
                  go_simp <;> (intros; first | (exfalso; omega) | rfl)
                · intro vs p hI0 hp
                  have hI := Roll.inw_pure (by decide) rfl hI0
                  clear hI0
                  have h2 : (vs 2) = .pointer (some ⟨gt, 0, none⟩) := hp 2 (by simp [Lsv23])
                  have e91 : (Roll.putD Dsv23 vs [2] b0).eval (.tmp 91) = .pointer (some ⟨gt, 0, none⟩) := (Roll.eval_new 2 rfl (by decide) (by decide) (by omega)).trans h2
                  clear hp hlv hN
                  unfold Roll.Goes
                  simp only [Lsv23, List.getD_cons_zero, List.getD_cons_succ]
                  generalize Roll.putD Dsv23 vs [2] b0 = a1 at *
                  refine Roll.goes_val (w' := p) (.pointer (some ⟨gt, 0, none⟩)) rfl ?_ ⟨(Roll.outw_pure (by decide) rfl), rfl⟩
                  (have ec : ∀ x, a1.eval (.const x) = x := fun _ => rfl); (have ef : ∀ x, a1.eval (.func x) = .func (.func x) #[] #[] := fun _ => rfl); generalize a1.eval = ρ at *
                  clear h2
                  go_simp <;> (intros; first | (exfalso; omega) | rfl)
                · intro vs p hI0 hp
                  have hI := Roll.inw_pure (by decide) rfl hI0
                  clear hI0
                  have h3 : (vs 3) = .pointer (some ⟨gt, 0, none⟩) := hp 3 (by simp [Lsv23])
                  have e92 : (Roll.putD Dsv23 vs [3] b0).eval (.tmp 92) = .pointer (some ⟨gt, 0, none⟩) := (Roll.eval_new 3 rfl (by decide) (by decide) (by omega)).trans h3
                  clear hp hlv hN
                  unfold Roll.Goes
                  simp only [Lsv23, List.getD_cons_zero, List.getD_cons_succ]
                  generalize Roll.putD Dsv23 vs [3] b0 = a1 at *
                  have cf : p.cell? ⟨gt, 0, none⟩ = some (.slice (some ⟨gs, so, none⟩) SN co) := (hI.cell (p := ⟨gt, 0, none⟩) G1u.out).trans CVu.out
                  refine Roll.goes_val (w' := p) (.slice (some ⟨gs, so, none⟩) SN co) rfl ?_ ⟨(Roll.outw_pure (by decide) rfl), rfl⟩
                  (have ec : ∀ x, a1.eval (.const x) = x := fun _ => rfl); (have ef : ∀ x, a1.eval (.func x) = .func (.func x) #[] #[] := fun _ => rfl); generalize a1.eval = ρ at *
                  clear h3
                  go_simp <;> (intros; first | (exfalso; omega) | rfl)
                · intro vs p hI0 hp
                  have hI := Roll.inw_pure (by decide) rfl hI0
                  clear hI0
                  have e8 : (Roll.putD Dsv23 vs [] b0).eval (.tmp 8) = .int .i64 (k : Int) := (Roll.eval_old rfl).trans (hlv.at 1 (8, .int .i64 (k : Int)) rfl)
                  clear hp hlv hN
                  unfold Roll.Goes
                  simp only [Lsv23, List.getD_cons_zero, List.getD_cons_succ]
                  generalize Roll.putD Dsv23 vs [] b0 = a1 at *
                  refine Roll.goes_val (w' := p) (.int .i64 (k : Int)) rfl ?_ ⟨(Roll.outw_pure (by decide) rfl), rfl⟩
                  (have ec : ∀ x, a1.eval (.const x) = x := fun _ => rfl); (have ef : ∀ x, a1.eval (.func x) = .func (.func x) #[] #[] := fun _ => rfl); generalize a1.eval = ρ at *
                  skip
                  go_simp <;> (intros; first | (exfalso; omega) | rfl)
                · intro vs p hI0 hp
                  have hI := Roll.inw_pure (by decide) rfl hI0
                  clear hI0
                  have h4 : (vs 4) = .slice (some ⟨gs, so, none⟩) SN co := hp 4 (by simp [Lsv23])
                  have h5 : (vs 5) = .int .i64 (k : Int) := hp 5 (by simp [Lsv23])
                  have e93 : (Roll.putD Dsv23 vs [4, 5] b0).eval (.tmp 93) = .slice (some ⟨gs, so, none⟩) SN co := (Roll.eval_new 4 rfl (by decide) (by decide) (by omega)).trans h4
                  have e94 : (Roll.putD Dsv23 vs [4, 5] b0).eval (.tmp 94) = .int .i64 (k : Int) := (Roll.eval_new 5 rfl (by decide) (by decide) (by omega)).trans h5
                  clear hp hlv hN
                  unfold Roll.Goes
                  simp only [Lsv23, List.getD_cons_zero, List.getD_cons_succ]
                  generalize Roll.putD Dsv23 vs [4, 5] b0 = a1 at *
                  have hkn := HKN.out
                  have hkn2 : (k : Int) < (SN : Int) := by omega
                  have hco := HCO.out
                  refine Roll.goes_val (w' := p) (.pointer (some ⟨gs, so + k, none⟩)) rfl ?_ ⟨(Roll.outw_pure (by decide) rfl), rfl⟩
                  (have ec : ∀ x, a1.eval (.const x) = x := fun _ => rfl); (have ef : ∀ x, a1.eval (.func x) = .func (.func x) #[] #[] := fun _ => rfl); generalize a1.eval = ρ at *
                  clear h4 h5
                  go_simp <;> (intros; first | (exfalso; omega) | rfl)
                · intro vs p hI0 hp
                  have hI := Roll.inw_pure (by decide) rfl hI0
                  clear hI0
                  have h6 : (vs 6) = .pointer (some ⟨gs, so + k, none⟩) := hp 6 (by simp [Lsv23])
                  have e95 : (Roll.putD Dsv23 vs [6] b0).eval (.tmp 95) = .pointer (some ⟨gs, so + k, none⟩) := (Roll.eval_new 6 rfl (by decide) (by decide) (by omega)).trans h6
                  clear hp hlv hN
                  unfold Roll.Goes
                  simp only [Lsv23, List.getD_cons_zero, List.getD_cons_succ]
                  generalize Roll.putD Dsv23 vs [6] b0 = a1 at *
                  have cf : p.cell? ⟨gs, so + k, none⟩ = some (.slice (some ⟨rk, ro, none⟩) sl rc) := (hI.cell (p := ⟨gs, so + k, none⟩) G2u.out).trans CKu.out
                  refine Roll.goes_val (w' := p) (.slice (some ⟨rk, ro, none⟩) sl rc) rfl ?_ ⟨(Roll.outw_pure (by decide) rfl), rfl⟩
                  (have ec : ∀ x, a1.eval (.const x) = x := fun _ => rfl); (have ef : ∀ x, a1.eval (.func x) = .func (.func x) #[] #[] := fun _ => rfl); generalize a1.eval = ρ at *
                  clear h6
                  go_simp <;> (intros; first | (exfalso; omega) | rfl)
                · intro vs p hI0 hp
                  have hI := Roll.inw_pure (by decide) rfl hI0
                  clear hI0
                  have e6 : (Roll.putD Dsv23 vs [] b0).eval (.tmp 6) = .pointer (some ⟨gt, 0, none⟩) := (Roll.eval_old rfl).trans (hlv.at 0 (6, .pointer (some ⟨gt, 0, none⟩)) rfl)
                  clear hp hlv hN
                  unfold Roll.Goes
                  simp only [Lsv23, List.getD_cons_zero, List.getD_cons_succ]
                  generalize Roll.putD Dsv23 vs [] b0 = a1 at *
                  refine Roll.goes_val (w' := p) (.pointer (some ⟨gt, 0, none⟩)) rfl ?_ ⟨(Roll.outw_pure (by decide) rfl), rfl⟩
                  (have ec : ∀ x, a1.eval (.const x) = x := fun _ => rfl); (have ef : ∀ x, a1.eval (.func x) = .func (.func x) #[] #[] := fun _ => rfl); generalize a1.eval = ρ at *
                  skip
                  go_simp <;> (intros; first | (exfalso; omega) | rfl)
                · intro vs p hI0 hp
                  have hI := Roll.inw_pure (by decide) rfl hI0
                  clear hI0
                  have h8 : (vs 8) = .pointer (some ⟨gt, 0, none⟩) := hp 8 (by simp [Lsv23])
                  have e97 : (Roll.putD Dsv23 vs [8] b0).eval (.tmp 97) = .pointer (some ⟨gt, 0, none⟩) := (Roll.eval_new 8 rfl (by decide) (by decide) (by omega)).trans h8
                  clear hp hlv hN
                  unfold Roll.Goes
                  simp only [Lsv23, List.getD_cons_zero, List.getD_cons_succ]
                  generalize Roll.putD Dsv23 vs [8] b0 = a1 at *
                  refine Roll.goes_val (w' := p) (.pointer (some ⟨gt, 0, none⟩)) rfl ?_ ⟨(Roll.outw_pure (by decide) rfl), rfl⟩
                  (have ec : ∀ x, a1.eval (.const x) = x := fun _ => rfl); (have ef : ∀ x, a1.eval (.func x) = .func (.func x) #[] #[] := fun _ => rfl); generalize a1.eval = ρ at *
                  clear h8
                  go_simp <;> (intros; first | (exfalso; omega) | rfl)
                · intro vs p hI0 hp
                  have hI := Roll.inw_pure (by decide) rfl hI0
                  clear hI0
                  have h9 : (vs 9) = .pointer (some ⟨gt, 0, none⟩) := hp 9 (by simp [Lsv23])
                  have e98 : (Roll.putD Dsv23 vs [9] b0).eval (.tmp 98) = .pointer (some ⟨gt, 0, none⟩) := (Roll.eval_new 9 rfl (by decide) (by decide) (by omega)).trans h9
                  clear hp hlv hN
                  unfold Roll.Goes
                  simp only [Lsv23, List.getD_cons_zero, List.getD_cons_succ]
                  generalize Roll.putD Dsv23 vs [9] b0 = a1 at *
                  refine Roll.goes_val (w' := p) (.pointer (some ⟨gt, 0, none⟩)) rfl ?_ ⟨(Roll.outw_pure (by decide) rfl), rfl⟩
                  (have ec : ∀ x, a1.eval (.const x) = x := fun _ => rfl); (have ef : ∀ x, a1.eval (.func x) = .func (.func x) #[] #[] := fun _ => rfl); generalize a1.eval = ρ at *
                  clear h9
                  go_simp <;> (intros; first | (exfalso; omega) | rfl)
                · intro vs p hI0 hp
                  have hI := Roll.inw_pure (by decide) rfl hI0
                  clear hI0
                  have h10 : (vs 10) = .pointer (some ⟨gt, 0, none⟩) := hp 10 (by simp [Lsv23])
                  have e99 : (Roll.putD Dsv23 vs [10] b0).eval (.tmp 99) = .pointer (some ⟨gt, 0, none⟩) := (Roll.eval_new 10 rfl (by decide) (by decide) (by omega)).trans h10
                  clear hp hlv hN
                  unfold Roll.Goes
                  simp only [Lsv23, List.getD_cons_zero, List.getD_cons_succ]
                  generalize Roll.putD Dsv23 vs [10] b0 = a1 at *
                  have cf : p.cell? ⟨gt, 0, none⟩ = some (.slice (some ⟨gs, so, none⟩) SN co) := (hI.cell (p := ⟨gt, 0, none⟩) G1u.out).trans CVu.out
                  refine Roll.goes_val (w' := p) (.slice (some ⟨gs, so, none⟩) SN co) rfl ?_ ⟨(Roll.outw_pure (by decide) rfl), rfl⟩
                  (have ec : ∀ x, a1.eval (.const x) = x := fun _ => rfl); (have ef : ∀ x, a1.eval (.func x) = .func (.func x) #[] #[] := fun _ => rfl); generalize a1.eval = ρ at *
                  clear h10
                  go_simp <;> (intros; first | (exfalso; omega) | rfl)
                · intro vs p hI0 hp
                  have hI := Roll.inw_pure (by decide) rfl hI0
                  clear hI0
                  have e8 : (Roll.putD Dsv23 vs [] b0).eval (.tmp 8) = .int .i64 (k : Int) := (Roll.eval_old rfl).trans (hlv.at 1 (8, .int .i64 (k : Int)) rfl)
                  clear hp hlv hN
                  unfold Roll.Goes
                  simp only [Lsv23, List.getD_cons_zero, List.getD_cons_succ]
                  generalize Roll.putD Dsv23 vs [] b0 = a1 at *
                  refine Roll.goes_val (w' := p) (.int .i64 (k : Int)) rfl ?_ ⟨(Roll.outw_pure (by decide) rfl), rfl⟩
                  (have ec : ∀ x, a1.eval (.const x) = x := fun _ => rfl); (have ef : ∀ x, a1.eval (.func x) = .func (.func x) #[] #[] := fun _ => rfl); generalize a1.eval = ρ at *
                  skip
                  go_simp <;> (intros; first | (exfalso; omega) | rfl)
                · intro vs p hI0 hp
                  have hI := Roll.inw_pure (by decide) rfl hI0
                  clear hI0
                  have h11 : (vs 11) = .slice (some ⟨gs, so, none⟩) SN co := hp 11 (by simp [Lsv23])
                  have h12 : (vs 12) = .int .i64 (k : Int) := hp 12 (by simp [Lsv23])
                  have e100 : (Roll.putD Dsv23 vs [11, 12] b0).eval (.tmp 100) = .slice (some ⟨gs, so, none⟩) SN co := (Roll.eval_new 11 rfl (by decide) (by decide) (by omega)).trans h11
                  have e101 : (Roll.putD Dsv23 vs [11, 12] b0).eval (.tmp 101) = .int .i64 (k : Int) := (Roll.eval_new 12 rfl (by decide) (by decide) (by omega)).trans h12
                  clear hp hlv hN
                  unfold Roll.Goes
                  simp only [Lsv23, List.getD_cons_zero, List.getD_cons_succ]
                  generalize Roll.putD Dsv23 vs [11, 12] b0 = a1 at *
                  have hkn := HKN.out
                  have hkn2 : (k : Int) < (SN : Int) := by omega
                  have hco := HCO.out
                  refine Roll.goes_val (w' := p) (.pointer (some ⟨gs, so + k, none⟩)) rfl ?_ ⟨(Roll.outw_pure (by decide) rfl), rfl⟩
                  (have ec : ∀ x, a1.eval (.const x) = x := fun _ => rfl); (have ef : ∀ x, a1.eval (.func x) = .func (.func x) #[] #[] := fun _ => rfl); generalize a1.eval = ρ at *
                  clear h11 h12
                  go_simp <;> (intros; first | (exfalso; omega) | rfl)
                · intro vs p hI0 hp
                  have hI := Roll.inw_pure (by decide) rfl hI0
                  clear hI0
                  have h13 : (vs 13) = .pointer (some ⟨gs, so + k, none⟩) := hp 13 (by simp [Lsv23])
                  have e102 : (Roll.putD Dsv23 vs [13] b0).eval (.tmp 102) = .pointer (some ⟨gs, so + k, none⟩) := (Roll.eval_new 13 rfl (by decide) (by decide) (by omega)).trans h13
                  clear hp hlv hN
                  unfold Roll.Goes
                  simp only [Lsv23, List.getD_cons_zero, List.getD_cons_succ]
                  generalize Roll.putD Dsv23 vs [13] b0 = a1 at *
                  have cf : p.cell? ⟨gs, so + k, none⟩ = some (.slice (some ⟨rk, ro, none⟩) sl rc) := (hI.cell (p := ⟨gs, so + k, none⟩) G2u.out).trans CKu.out
                  refine Roll.goes_val (w' := p) (.slice (some ⟨rk, ro, none⟩) sl rc) rfl ?_ ⟨(Roll.outw_pure (by decide) rfl), rfl⟩
                  (have ec : ∀ x, a1.eval (.const x) = x := fun _ => rfl); (have ef : ∀ x, a1.eval (.func x) = .func (.func x) #[] #[] := fun _ => rfl); generalize a1.eval = ρ at *
                  clear h13
                  go_simp <;> (intros; first | (exfalso; omega) | rfl)
                · intro vs p hI0 hp
                  have hI := Roll.inw_pure (by decide) rfl hI0
                  clear hI0
                  have h14 : (vs 14) = .slice (some ⟨rk, ro, none⟩) sl rc := hp 14 (by simp [Lsv23])
                  have e103 : (Roll.putD Dsv23 vs [14] b0).eval (.tmp 103) = .slice (some ⟨rk, ro, none⟩) sl rc := (Roll.eval_new 14 rfl (by decide) (by decide) (by omega)).trans h14
                  clear hp hlv hN
                  unfold Roll.Goes
                  simp only [Lsv23, List.getD_cons_zero, List.getD_cons_succ]
                  generalize Roll.putD Dsv23 vs [14] b0 = a1 at *
                  refine Roll.goes_val (w' := p) (.int .i64 (sl : Int)) rfl ?_ ⟨(Roll.outw_pure (by decide) rfl), rfl⟩
                  (have ec : ∀ x, a1.eval (.const x) = x := fun _ => rfl); (have ef : ∀ x, a1.eval (.func x) = .func (.func x) #[] #[] := fun _ => rfl); generalize a1.eval = ρ at *
                  clear h14
                  go_simp <;> (intros; first | (exfalso; omega) | rfl)
                · intro vs p hI0 hp
                  have hI := Roll.inw_pure (by decide) rfl hI0
                  clear hI0
                  have h15 : (vs 15) = .int .i64 (sl : Int) := hp 15 (by simp [Lsv23])
                  have e104 : (Roll.putD Dsv23 vs [15] b0).eval (.tmp 104) = .int .i64 (sl : Int) := (Roll.eval_new 15 rfl (by decide) (by decide) (by omega)).trans h15
                  clear hp hlv hN
                  unfold Roll.Goes
                  simp only [Lsv23, List.getD_cons_zero, List.getD_cons_succ]
                  generalize Roll.putD Dsv23 vs [15] b0 = a1 at *
                  have hws := HWS.out
                  refine Roll.goes_val (w' := p) (.int .i64 (s1 : Int)) rfl ?_ ⟨(Roll.outw_pure (by decide) rfl), rfl⟩
                  (have ec : ∀ x, a1.eval (.const x) = x := fun _ => rfl); (have ef : ∀ x, a1.eval (.func x) = .func (.func x) #[] #[] := fun _ => rfl); generalize a1.eval = ρ at *
                  clear h15
                  go_simp <;> (intros; first | (exfalso; omega) | rfl)
                · intro vs p hI0 hp
                  have hI := Roll.inw_pure (by decide) rfl hI0
                  clear hI0
                  have h7 : (vs 7) = .slice (some ⟨rk, ro, none⟩) sl rc := hp 7 (by simp [Lsv23])
                  have h16 : (vs 16) = .int .i64 (s1 : Int) := hp 16 (by simp [Lsv23])
                  have e96 : (Roll.putD Dsv23 vs [7, 16] b0).eval (.tmp 96) = .slice (some ⟨rk, ro, none⟩) sl rc := (Roll.eval_new 7 rfl (by decide) (by decide) (by omega)).trans h7
                  have e105 : (Roll.putD Dsv23 vs [7, 16] b0).eval (.tmp 105) = .int .i64 (s1 : Int) := (Roll.eval_new 16 rfl (by decide) (by decide) (by omega)).trans h16
                  clear hp hlv hN
                  unfold Roll.Goes
                  simp only [Lsv23, List.getD_cons_zero, List.getD_cons_succ]
                  generalize Roll.putD Dsv23 vs [7, 16] b0 = a1 at *
                  have hjn := HS1.out
                  have hrc := HRC.out
                  refine Roll.goes_val (w' := p) (.pointer (some ⟨rk, ro + s1, none⟩)) rfl ?_ ⟨(Roll.outw_pure (by decide) rfl), rfl⟩
                  (have ec : ∀ x, a1.eval (.const x) = x := fun _ => rfl); (have ef : ∀ x, a1.eval (.func x) = .func (.func x) #[] #[] := fun _ => rfl); generalize a1.eval = ρ at *
                  clear h7 h16
                  go_simp <;> (intros; first | (exfalso; omega) | rfl)
                · intro vs p hI0 hp
                  have hI := Roll.inw_pure (by decide) rfl hI0
                  clear hI0
                  have h17 : (vs 17) = .pointer (some ⟨rk, ro + s1, none⟩) := hp 17 (by simp [Lsv23])
                  have e106 : (Roll.putD Dsv23 vs [17] b0).eval (.tmp 106) = .pointer (some ⟨rk, ro + s1, none⟩) := (Roll.eval_new 17 rfl (by decide) (by decide) (by omega)).trans h17
                  clear hp hlv hN
                  unfold Roll.Goes
                  simp only [Lsv23, List.getD_cons_zero, List.getD_cons_succ]
                  generalize Roll.putD Dsv23 vs [17] b0 = a1 at *
                  have cf : p.cell? ⟨rk, ro + s1, none⟩ = some (.slice aj 64 cj) := (hI.cell (p := ⟨rk, ro + s1, none⟩) G3u.out).trans CJ.out
                  refine Roll.goes_val (w' := p) (.slice aj 64 cj) rfl ?_ ⟨(Roll.outw_pure (by decide) rfl), rfl⟩
                  (have ec : ∀ x, a1.eval (.const x) = x := fun _ => rfl); (have ef : ∀ x, a1.eval (.func x) = .func (.func x) #[] #[] := fun _ => rfl); generalize a1.eval = ρ at *
                  clear h17
                  go_simp <;> (intros; first | (exfalso; omega) | rfl)
                · intro vs p hI0 hp
                  have hI := Roll.inw_pre (by decide) rfl hI0
                  clear hI0
                  have h0 : (vs 0) = .slice (some ⟨gb, 0, none⟩) 64 64 := hp 0 (by simp [Lsv23])
                  have h18 : (vs 18) = .slice aj 64 cj := hp 18 (by simp [Lsv23])
                  have e89 : (Roll.putD Dsv23 vs [0, 18] b0).eval (.tmp 89) = .slice (some ⟨gb, 0, none⟩) 64 64 := (Roll.eval_new 0 rfl (by decide) (by decide) (by omega)).trans h0
                  have e107 : (Roll.putD Dsv23 vs [0, 18] b0).eval (.tmp 107) = .slice aj 64 cj := (Roll.eval_new 18 rfl (by decide) (by decide) (by omega)).trans h18
                  clear hp hlv hN
                  unfold Roll.Goes
                  simp only [Lsv23, List.getD_cons_zero, List.getD_cons_succ]
                  generalize Roll.putD Dsv23 vs [0, 18] b0 = a1 at *
                  refine Roll.goes_call 22 #[.slice (some ⟨gb, 0, none⟩) 64 64, .slice aj 64 cj] p rfl (by have ec : ∀ x, a1.eval (.const x) = x := fun _ => rfl; have ef : ∀ x, a1.eval (.func x) = .func (.func x) #[] #[] := fun _ => rfl; generalize a1.eval = ρ at *; go_simp) ?_
                  refine (sameBytes_any _ _ (some ⟨gb, 0, none⟩) 64 64 bk aj 64 cj bk p (HBB.out.kept (Kept.of_below (fun _ => False) hI) (fun _ _ _ h => h)) (HBJ.out.kept (Kept.of_below (fun _ => False) hI) (fun _ _ _ h => h))).mono ?_
                  rintro y p2 ⟨rfl, rfl⟩
                  exact ⟨_, rfl, Roll.outw_pre (by decide) rfl hI (Kept.refl _ _), by show Value.bool _ = _; rw [beq_self_eq_true]⟩
                · intro vs p hI0 hp
                  have hI := Roll.inw_k0 rfl hI0
                  clear hI0
                  have h19 : (vs 19) = .bool true := hp 19 (by simp [Lsv23])
                  have e108 : (Roll.putD Dsv23 vs [19] b0).eval (.tmp 108) = .bool true := (Roll.eval_new 19 rfl (by decide) (by decide) (by omega)).trans h19
                  clear hp hlv hN
                  unfold Roll.Goes
                  simp only [Lsv23, List.getD_cons_zero, List.getD_cons_succ]
                  generalize Roll.putD Dsv23 vs [19] b0 = a1 at *
                  refine Roll.goes_val (w' := p) (.bool false) rfl (by have ec : ∀ x, a1.eval (.const x) = x := fun _ => rfl; have ef : ∀ x, a1.eval (.func x) = .func (.func x) #[] #[] := fun _ => rfl; generalize a1.eval = ρ at *; go_simp <;> (intros; first | (exfalso; omega) | rfl)) ⟨Roll.outw_k0 rfl hI (Kept.refl _ _), rfl⟩
              · intro vs p hI hR
                have h0 : (vs 0) = .slice (some ⟨gb, 0, none⟩) 64 64 := hR 0 (by omega)
                have h1 : (vs 1) = .pointer (some ⟨gt, 0, none⟩) := hR 1 (by omega)
                have h2 : (vs 2) = .pointer (some ⟨gt, 0, none⟩) := hR 2 (by omega)
                have h3 : (vs 3) = .pointer (some ⟨gt, 0, none⟩) := hR 3 (by omega)
                have h4 : (vs 4) = .slice (some ⟨gs, so, none⟩) SN co := hR 4 (by omega)
                have h5 : (vs 5) = .int .i64 (k : Int) := hR 5 (by omega)
                have h6 : (vs 6) = .pointer (some ⟨gs, so + k, none⟩) := hR 6 (by omega)
                have h7 : (vs 7) = .slice (some ⟨rk, ro, none⟩) sl rc := hR 7 (by omega)
                have h8 : (vs 8) = .pointer (some ⟨gt, 0, none⟩) := hR 8 (by omega)
                have h9 : (vs 9) = .pointer (some ⟨gt, 0, none⟩) := hR 9 (by omega)
                have h10 : (vs 10) = .pointer (some ⟨gt, 0, none⟩) := hR 10 (by omega)
                have h11 : (vs 11) = .slice (some ⟨gs, so, none⟩) SN co := hR 11 (by omega)
                have h12 : (vs 12) = .int .i64 (k : Int) := hR 12 (by omega)
                have h13 : (vs 13) = .pointer (some ⟨gs, so + k, none⟩) := hR 13 (by omega)
                have h14 : (vs 14) = .slice (some ⟨rk, ro, none⟩) sl rc := hR 14 (by omega)
                have h15 : (vs 15) = .int .i64 (sl : Int) := hR 15 (by omega)
                have h16 : (vs 16) = .int .i64 (s1 : Int) := hR 16 (by omega)
                have h17 : (vs 17) = .pointer (some ⟨rk, ro + s1, none⟩) := hR 17 (by omega)
                have h18 : (vs 18) = .slice aj 64 cj := hR 18 (by omega)
                have h19 : (vs 19) = .bool true := hR 19 (by omega)
                have h20 : (vs 20) = .bool false := hR 20 (by omega)
                clear hR
                simp only [List.range_succ, List.range_zero, List.nil_append, List.cons_append, Roll.putD, Act.put, List.getD_cons_zero, List.getD_cons_succ, List.setIfInBounds_toArray, List.set_cons_zero, List.set_cons_succ, List.drop_succ_cons, List.drop_zero, Dsv23]
                simp only [h0, h1, h2, h3, h4, h5, h6, h7, h8, h9, h10, h11, h12, h13, h14, h15, h16, h17, h18, h19, h20]
                clear h0 h1 h2 h3 h4 h5 h6 h7 h8 h9 h10 h11 h12 h13 h14 h15 h16 h17 h18 h19 h20
                have HPB := Lib.hid hI
                clear hI
                go_wp2_with fail
                go_roundw
                case rel => exact ⟨k + 1, by omega, by go_num, HL.out.below (HBL.out.trans (HPB.out.mono HBL.out.size))⟩
                case measure => simp [intOf]; omega
            · obtain rfl : k = SN := by omega
              obtain ⟨_, ⟨gso, vo, row, Bf, hT, _⟩, _, _, _⟩ := HL.out.get (i := 0) rfl
              obtain ⟨xs, hx, _⟩ := hT.outer
              rw [HTL.out] at hx
              obtain ⟨gs, so, co, _, rfl, f1, f2, _, _⟩ := hx.at hsn1
              have cV0 : q.cell? ⟨gt, 0, none⟩ = some (.slice (some ⟨gs, so, none⟩) k co) := by rw [cell_of_row q gt 0 _ _ _ hT.self]; simp [HTL.out]
              clear hT hx
              go_wp2_with fail
              go_roundw
              case rel => exact ⟨i + 1, D1, by omega, by omega, by go_num, HL.out, HO1.out, HF1.out, HS1L.out, HK1.out⟩
              case measure => simp [intOf]; omega
        · have Hr : Hid (around m.kind 4 = 1) := Lib.hid hr
          clear hr hrb c4
          have HG1 : Hid True := Lib.hid trivial
          go_upto_region 17 with (first
            | (go_at_call 14; refine (around_any m.kind 4 _ hm0.1 hm0.2 (by omega) (by omega)).mono ?_; rintro e w2 ⟨rfl, rfl⟩; rw [Hr.out])
            | (have x1 := HG1; refine wpList_load_mid rfl 35 (.tmp 50) rfl b ob rfl _ _ HRG.out Try.underlying35 rfl (by kernel_rfl) ?_; clear HG1 x1)
            | (have hL := HL.out; go_at_call 25; refine (twrite_lv hL m HM.out rfl HTN0.out HSN1.out.1 HSN1.out.2 HON.out HOK.out).mono ?_; rintro e w3 ⟨kk, l2, hkk, rfl, hl2, hl⟩; rw [set_modify _ _ hkk, ← write_S] at hl; have HL3 := Lib.hid hl; have HL2 := Lib.hid hl2; clear hl hl2 hL))
          obtain ⟨D1, hD1⟩ : ∃ D1, D1 = d.write kk l2 := ⟨_, rfl⟩
          rw [← hD1] at HL3
          have HO1 : Hid (D1.on = true) := Lib.hid (by rw [hD1]; exact (write_on HF0.out).trans HON.out)
          have HF1 : Hid (D1.fuse = 0) := Lib.hid (by rw [hD1]; exact (write_fuse HF0.out).trans HF0.out)
          have HS1L : Hid (D1.S.length = SN) := Lib.hid (by rw [hD1]; exact (write_len d kk l2).trans HSL.out)
          have HK1 : Hid (D1.Ok (i + 1)) := Lib.hid (by rw [hD1]; exact DM.write_ok HOKi.out HL2.out)
          have HLx := HL3
          clear hD1 HL cK
          have HTL : Hid (D1.S.length = SN) := HS1L
          have HTN : Hid (∀ s ∈ D1.S, 0 < s.length ∧ s.length ≤ 100000) := Lib.hid (fun s hs => ⟨List.length_pos_iff.2 (HK1.out.2.2.2 s hs).1, by have := (HK1.out.2.2.2 s hs).2.1; omega⟩)
          go_loopw [8] (fun t wr => ∃ k : Nat, k ≤ SN ∧ t = .int .i64 (k : Int) ∧ Lv w0 wr [trackO 55 [] gt D1.S, diskO g D1]) (fun t _ => SN - (intOf t).toNat)
          case atStart => exact ⟨0, Nat.zero_le _, rfl, HLx.out⟩
          case round =>
            obtain ⟨k, hk, rfl, hL⟩ := hrel
            have HL := Lib.hid hL
            clear hL HLx
            rename World => q
            by_cases hlk : k < SN
            · have hlk2 : (k : Int) < (SN : Int) := by omega
              have hwk : IntKind.i64.wrap ((k : Int) + 1) = (k : Int) + 1 := i64_id _ (by omega) (by omega)
              have HKD : Hid (k < D1.S.length) := Lib.hid (by rw [HS1L.out]; exact hlk)
              have HKN : Hid (k < SN) := Lib.hid hlk
              have HKS : Hid (k < D1.S.length) := Lib.hid (by rw [HTL.out]; exact hlk)
              obtain ⟨B, ⟨gso, vo, row, Bf, hT, hTB⟩, hblt, _, hset⟩ := HL.out.get (i := 0) rfl
              have hsp := HTN.out _ (List.getElem_mem HKS.out)
              obtain ⟨gs, so, co, ro, rc, rfl, rfl, f1, f2, f3, f4, f5, f6, f7, f8, f9⟩ := hT.look HKS.out hsp.1
              obtain ⟨sk, hsk⟩ : ∃ sk, sk = D1.S[k]'HKS.out := ⟨_, rfl⟩
              clear f9
              rw [← hsk] at f2 f7 f8 hsp
              have HSK := Lib.hid hsk
              obtain ⟨rk, hrk⟩ : ∃ rk, row k = rk := ⟨_, rfl⟩
              obtain ⟨sl, hsl⟩ : ∃ sl, sk.length = sl := ⟨_, rfl⟩
              obtain ⟨ys, hys, hyj⟩ := f8
              rw [hrk, hsl] at f7
              rw [HTL.out] at f6 f1
              rw [hsl] at f2 hsp
              rw [hrk] at f5 hys
              rw [hsl] at hys
              have HT := Lib.hid hT
              have HTB := Lib.hid hTB
              have HSET := Lib.hid hset
              have HRR := Lib.hid hrk
              have HSL8 := Lib.hid hsl
              have HYS := Lib.hid hys
              have HCO := Lib.hid f1
              have HRC := Lib.hid f2
              have HSP := Lib.hid hsp
              have HGT := Lib.hid f3
              have HGSQ := Lib.hid f4
              have HRKQ := Lib.hid f5
              have CV := Lib.hid f6
              have CK := Lib.hid f7
              have cV0 := f6
              have HJ : Hid (∀ j (hj : j < sk.length), ∃ a c, q.cell? ⟨rk, ro + j, none⟩ = some (.slice a 64 c) ∧ Bs Bf q a 64 c sk[j]) := Lib.hid (fun j hj => by
                obtain ⟨a, c, e1, e2⟩ := hyj j hj
                obtain ⟨r', ro', rc', e3, e4, _, _, _, e5⟩ := hys.at (by omega)
                cases e3; cases e4
                have hjl : j < ys.length := by rw [hys.1]; omega
                have e6 := e5 j hjl
                rw [List.getElem?_eq_getElem hjl] at e1
                rw [Option.some.inj e1] at e6
                exact ⟨a, c, e6, e2⟩)
              have HNE : Hid (¬ gt = rk ∧ ¬ gs = rk ∧ ¬ Bf gs) := Lib.hid ⟨fun e => (hT.ap2 k HKS.out).1 (hrk.trans e.symm), fun e => (hT.ap2 k HKS.out).2 (by rw [e, hrk]), hT.bf.2.1 gs rfl⟩
              have FK : Hid (∀ j, q.frozen? ⟨gs, j, none⟩ = false) := Lib.hid (by obtain ⟨xs, hx, _⟩ := hT.outer; exact hx.frozen)
              clear hT hTB hblt hset hsp f1 f2 f3 f4 f5 f6 f7 hsk hrk hsl hys hyj
              go_upto_region 20 with (first
                | (have hL := HL.out; go_at_call 21; refine (read_nb hL (i := 1) (d := D1) rfl k HKD.out HO1.out).mono ?_; rintro e u0 ⟨gb, rfl, hgb, hbb, hbl⟩; have HGB0 := Lib.hid hgb; have HBB0 := Lib.hid hbb; have HBL0 := Lib.hid hbl; clear hgb hbb hbl hL))
              rename World => u
              obtain ⟨bk, hbk⟩ : ∃ bk, bk = lastB (D1.S[k]'HKD.out) := ⟨_, rfl⟩
              rw [← hbk] at HBB0
              have HBK := Lib.hid hbk
              have HGB : Hid (q.heap.size ≤ gb) := HGB0
              have HBB : Hid (Bs (fun b => b = gb) u (some ⟨gb, 0, none⟩) 64 64 bk) := HBB0
              have HBL : Hid (Below q.heap.size q u) := HBL0
              have cKu : u.cell? ⟨b, ob, none⟩ = some (.int .i64 m.kind) := HCK.out u (HL.out.args.trans (HBL.out.mono HL.out.size))
              clear hbk
              have G1u : Hid (gt < u.heap.size) := Lib.hid (Nat.lt_of_lt_of_le HGT.out (HBL.out).size)
              have G2u : Hid (gs < u.heap.size) := Lib.hid (Nat.lt_of_lt_of_le HGSQ.out (HBL.out).size)
              have G3u : Hid (rk < u.heap.size) := Lib.hid (Nat.lt_of_lt_of_le HRKQ.out (HBL.out).size)
              have CVu : Hid (u.cell? ⟨gt, 0, none⟩ = some (.slice (some ⟨gs, so, none⟩) SN co)) := Lib.hid (((HBL.out).cell (p := ⟨gt, 0, none⟩) HGT.out).trans CV.out)
              have CKu : Hid (u.cell? ⟨gs, so + k, none⟩ = some (.slice (some ⟨rk, ro, none⟩) sl rc)) := Lib.hid (((HBL.out).cell (p := ⟨gs, so + k, none⟩) HGSQ.out).trans CK.out)
              obtain ⟨s1, hs1⟩ : ∃ s1, sl = s1 + 1 := ⟨sl - 1, by have := HSP.out.1; omega⟩
              have HWS : Hid (IntKind.i64.wrap ((sl : Int) - 1) = (s1 : Int)) := Lib.hid (by have := HRC.out; rw [i64_id _ (by omega) (by omega)]; omega)
              have HS1 : Hid (s1 < sl ∧ (s1 : Int) < (sl : Int)) := Lib.hid (by omega)
              have hs1l : s1 < sk.length := by rw [HSL8.out]; omega
              obtain ⟨aj, cj, hcj, hbj⟩ := HJ.out s1 hs1l
              have CJ : Hid (u.cell? ⟨rk, ro + s1, none⟩ = some (.slice aj 64 cj)) := Lib.hid ((HBL.out.cell (p := ⟨rk, ro + s1, none⟩) HRKQ.out).trans hcj)
              have HBJ : Hid (Bs Bf u aj 64 cj bk) := Lib.hid (by
                have e : bk = sk[s1] := by
                  have e2 : s1 = sk.length - 1 := by rw [HSL8.out]; omega
                  rw [HBK.out, ← HSK.out]
                  unfold lastB
                  rw [List.getLastD_eq_getLast?, List.getLast?_eq_getElem?, ← e2, List.getElem?_eq_getElem hs1l]
                  rfl
                rw [e]; exact hbj.kept (Kept.of_below (fun _ => False) HBL.out) (fun _ _ _ h => h))
              clear hs1 hs1l hcj hbj cV0
              go_upto_region 23 with (first | (go_at_call 14; refine (around_any m.kind 4 _ hm0.1 hm0.2 (by omega) (by omega)).mono ?_; rintro e w2 ⟨rfl, rfl⟩; rw [Hr.out]))
              clear cKu
              refine Roll.region_w 21 170 Dsv23 Lsv23 [(6, .pointer (some ⟨gt, 0, none⟩)), (8, .int .i64 (k : Int)), (9, .slice (some ⟨gb, 0, none⟩) 64 64)] 20 [true, true, true, true, true, true, true, true, true, true, true, true, true, true, true, true, true, true, true, false, false] (fun p => Below u.heap.size u p) (fun vv p => Below u.heap.size u p) (fun p => Below u.heap.size u p) (Kept (fun _ => False)) [fun vv p => (vv 0) = .slice (some ⟨gb, 0, none⟩) 64 64, fun vv p => (vv 1) = .pointer (some ⟨gt, 0, none⟩), fun vv p => (vv 2) = .pointer (some ⟨gt, 0, none⟩), fun vv p => (vv 3) = .pointer (some ⟨gt, 0, none⟩), fun vv p => (vv 4) = .slice (some ⟨gs, so, none⟩) SN co, fun vv p => (vv 5) = .int .i64 (k : Int), fun vv p => (vv 6) = .pointer (some ⟨gs, so + k, none⟩), fun vv p => (vv 7) = .slice (some ⟨rk, ro, none⟩) sl rc, fun vv p => (vv 8) = .pointer (some ⟨gt, 0, none⟩), fun vv p => (vv 9) = .pointer (some ⟨gt, 0, none⟩), fun vv p => (vv 10) = .pointer (some ⟨gt, 0, none⟩), fun vv p => (vv 11) = .slice (some ⟨gs, so, none⟩) SN co, fun vv p => (vv 12) = .int .i64 (k : Int), fun vv p => (vv 13) = .pointer (some ⟨gs, so + k, none⟩), fun vv p => (vv 14) = .slice (some ⟨rk, ro, none⟩) sl rc, fun vv p => (vv 15) = .int .i64 (sl : Int), fun vv p => (vv 16) = .int .i64 (s1 : Int), fun vv p => (vv 17) = .pointer (some ⟨rk, ro + s1, none⟩), fun vv p => (vv 18) = .slice aj 64 cj, fun vv p => (vv 19) = .bool true, fun vv p => (vv 20) = .bool false] (by kernel_rfl) (by kernel_rfl) rfl ⟨rfl, rfl, rfl, trivial⟩ ((Below.refl _ _).drew) (by decide) (by kernel_rfl) (fun _ h => h) (fun _ _ h => h) (fun _ => Kept.refl _ _) ?_ ?_ ?_
              · exact ⟨fun _ _ _ _ h => h, fun _ _ _ _ h => h, fun _ _ _ _ h => h, fun _ _ _ _ h => h, fun _ _ _ _ h => h, fun _ _ _ _ h => h, fun _ _ _ _ h => h, fun _ _ _ _ h => h, fun _ _ _ _ h => h, fun _ _ _ _ h => h, fun _ _ _ _ h => h, fun _ _ _ _ h => h, fun _ _ _ _ h => h, fun _ _ _ _ h => h, fun _ _ _ _ h => h, fun _ _ _ _ h => h, fun _ _ _ _ h => h, fun _ _ _ _ h => h, fun _ _ _ _ h => h, fun _ _ _ _ h => h, fun _ _ _ _ h => h, trivial⟩
              · intro b0 hN hlv
                refine ⟨?_, ?_, ?_, ?_, ?_, ?_, ?_, ?_, ?_, ?_, ?_, ?_, ?_, ?_, ?_, ?_, ?_, ?_, ?_, ?_, ?_, trivial⟩
                · intro vs p hI0 hp
                  have hI := Roll.inw_pure (by decide) rfl hI0
                  clear hI0
                  have e9 : (Roll.putD Dsv23 vs [] b0).eval (.tmp 9) = .slice (some ⟨gb, 0, none⟩) 64 64 := (Roll.eval_old rfl).trans (hlv.at 2 (9, .slice (some ⟨gb, 0, none⟩) 64 64) rfl)
                  clear hp hlv hN
                  unfold Roll.Goes
                  simp only [Lsv23, List.getD_cons_zero, List.getD_cons_succ]
                  generalize Roll.putD Dsv23 vs [] b0 = a1 at *
                  refine Roll.goes_val (w' := p) (.slice (some ⟨gb, 0, none⟩) 64 64) rfl ?_ ⟨(Roll.outw_pure (by decide) rfl), rfl⟩
                  (have ec : ∀ x, a1.eval (.const x) = x := fun _ => rfl); (have ef : ∀ x, a1.eval (.func x) = .func (.func x) #[] #[] := fun _ => rfl); generalize a1.eval = ρ at *
                  skip
                  go_simp <;> (intros; first | (exfalso; omega) | rfl)
                · intro vs p hI0 hp
                  have hI := Roll.inw_pure (by decide) rfl hI0
                  clear hI0
                  have e6 : (Roll.putD Dsv23 vs [] b0).eval (.tmp 6) = .pointer (some ⟨gt, 0, none⟩) := (Roll.eval_old rfl).trans (hlv.at 0 (6, .pointer (some ⟨gt, 0, none⟩)) rfl)
                  clear hp hlv hN
                  unfold Roll.Goes
                  simp only [Lsv23, List.getD_cons_zero, List.getD_cons_succ]
                  generalize Roll.putD Dsv23 vs [] b0 = a1 at *
                  refine Roll.goes_val (w' := p) (.pointer (some ⟨gt, 0, none⟩)) rfl ?_ ⟨(Roll.outw_pure (by decide) rfl), rfl⟩
                  (have ec : ∀ x, a1.eval (.const x) = x := fun _ => rfl); (have ef : ∀ x, a1.eval (.func x) = .func (.func x) #[] #[] := fun _ => rfl); generalize a1.eval = ρ at *
                  skip
                  go_simp <;> (intros; first | (exfalso; omega) | rfl)
                · intro vs p hI0 hp
                  have hI := Roll.inw_pure (by decide) rfl hI0
                  clear hI0
                  have h1 : (vs 1) = .pointer (some ⟨gt, 0, none⟩) := hp 1 (by simp [Lsv23])
                  have e90 : (Roll.putD Dsv23 vs [1] b0).eval (.tmp 90) = .pointer (some ⟨gt, 0, none⟩) := (Roll.eval_new 1 rfl (by decide) (by decide) (by omega)).trans h1
                  clear hp hlv hN
                  unfold Roll.Goes
                  simp only [Lsv23, List.getD_cons_zero, List.getD_cons_succ]
                  generalize Roll.putD Dsv23 vs [1] b0 = a1 at *
                  refine Roll.goes_val (w' := p) (.pointer (some ⟨gt, 0, none⟩)) rfl ?_ ⟨(Roll.outw_pure (by decide) rfl), rfl⟩
                  (have ec : ∀ x, a1.eval (.const x) = x := fun _ => rfl); (have ef : ∀ x, a1.eval (.func x) = .func (.func x) #[] #[] := fun _ => rfl); generalize a1.eval = ρ at *
                  clear h1
                  go_simp <;> (intros; first | (exfalso; omega) | rfl)
                · intro vs p hI0 hp
                  have hI := Roll.inw_pure (by decide) rfl hI0
                  clear hI0
                  have h2 : (vs 2) = .pointer (some ⟨gt, 0, none⟩) := hp 2 (by simp [Lsv23])
                  have e91 : (Roll.putD Dsv23 vs [2] b0).eval (.tmp 91) = .pointer (some ⟨gt, 0, none⟩) := (Roll.eval_new 2 rfl (by decide) (by decide) (by omega)).trans h2
                  clear hp hlv hN
                  unfold Roll.Goes
                  simp only [Lsv23, List.getD_cons_zero, List.getD_cons_succ]
                  generalize Roll.putD Dsv23 vs [2] b0 = a1 at *
                  refine Roll.goes_val (w' := p) (.pointer (some ⟨gt, 0, none⟩)) rfl ?_ ⟨(Roll.outw_pure (by decide) rfl), rfl⟩
                  (have ec : ∀ x, a1.eval (.const x) = x := fun _ => rfl); (have ef : ∀ x, a1.eval (.func x) = .func (.func x) #[] #[] := fun _ => rfl); generalize a1.eval = ρ at *
                  clear h2
                  go_simp <;> (intros; first | (exfalso; omega) | rfl)
                · intro vs p hI0 hp
                  have hI := Roll.inw_pure (by decide) rfl hI0
                  clear hI0
                  have h3 : (vs 3) = .pointer (some ⟨gt, 0, none⟩) := hp 3 (by simp [Lsv23])
                  have e92 : (Roll.putD Dsv23 vs [3] b0).eval (.tmp 92) = .pointer (some ⟨gt, 0, none⟩) := (Roll.eval_new 3 rfl (by decide) (by decide) (by omega)).trans h3
                  clear hp hlv hN
                  unfold Roll.Goes
                  simp only [Lsv23, List.getD_cons_zero, List.getD_cons_succ]
                  generalize Roll.putD Dsv23 vs [3] b0 = a1 at *
                  have cf : p.cell? ⟨gt, 0, none⟩ = some (.slice (some ⟨gs, so, none⟩) SN co) := (hI.cell (p := ⟨gt, 0, none⟩) G1u.out).trans CVu.out
                  refine Roll.goes_val (w' := p) (.slice (some ⟨gs, so, none⟩) SN co) rfl ?_ ⟨(Roll.outw_pure (by decide) rfl), rfl⟩
                  (have ec : ∀ x, a1.eval (.const x) = x := fun _ => rfl); (have ef : ∀ x, a1.eval (.func x) = .func (.func x) #[] #[] := fun _ => rfl); generalize a1.eval = ρ at *
                  clear h3
                  go_simp <;> (intros; first | (exfalso; omega) | rfl)
                · intro vs p hI0 hp
                  have hI := Roll.inw_pure (by decide) rfl hI0
                  clear hI0
                  have e8 : (Roll.putD Dsv23 vs [] b0).eval (.tmp 8) = .int .i64 (k : Int) := (Roll.eval_old rfl).trans (hlv.at 1 (8, .int .i64 (k : Int)) rfl)
                  clear hp hlv hN
                  unfold Roll.Goes
                  simp only [Lsv23, List.getD_cons_zero, List.getD_cons_succ]
                  generalize Roll.putD Dsv23 vs [] b0 = a1 at *
                  refine Roll.goes_val (w' := p) (.int .i64 (k : Int)) rfl ?_ ⟨(Roll.outw_pure (by decide) rfl), rfl⟩
                  (have ec : ∀ x, a1.eval (.const x) = x := fun _ => rfl); (have ef : ∀ x, a1.eval (.func x) = .func (.func x) #[] #[] := fun _ => rfl); generalize a1.eval = ρ at *
                  skip
                  go_simp <;> (intros; first | (exfalso; omega) | rfl)
                · intro vs p hI0 hp
                  have hI := Roll.inw_pure (by decide) rfl hI0
                  clear hI0
                  have h4 : (vs 4) = .slice (some ⟨gs, so, none⟩) SN co := hp 4 (by simp [Lsv23])
                  have h5 : (vs 5) = .int .i64 (k : Int) := hp 5 (by simp [Lsv23])
                  have e93 : (Roll.putD Dsv23 vs [4, 5] b0).eval (.tmp 93) = .slice (some ⟨gs, so, none⟩) SN co := (Roll.eval_new 4 rfl (by decide) (by decide) (by omega)).trans h4
                  have e94 : (Roll.putD Dsv23 vs [4, 5] b0).eval (.tmp 94) = .int .i64 (k : Int) := (Roll.eval_new 5 rfl (by decide) (by decide) (by omega)).trans h5
                  clear hp hlv hN
                  unfold Roll.Goes
                  simp only [Lsv23, List.getD_cons_zero, List.getD_cons_succ]
                  generalize Roll.putD Dsv23 vs [4, 5] b0 = a1 at *
                  have hkn := HKN.out
                  have hkn2 : (k : Int) < (SN : Int) := by omega
                  have hco := HCO.out
                  refine Roll.goes_val (w' := p) (.pointer (some ⟨gs, so + k, none⟩)) rfl ?_ ⟨(Roll.outw_pure (by decide) rfl), rfl⟩
                  (have ec : ∀ x, a1.eval (.const x) = x := fun _ => rfl); (have ef : ∀ x, a1.eval (.func x) = .func (.func x) #[] #[] := fun _ => rfl); generalize a1.eval = ρ at *
                  clear h4 h5
                  go_simp <;> (intros; first | (exfalso; omega) | rfl)
                · intro vs p hI0 hp
                  have hI := Roll.inw_pure (by decide) rfl hI0
                  clear hI0
                  have h6 : (vs 6) = .pointer (some ⟨gs, so + k, none⟩) := hp 6 (by simp [Lsv23])
                  have e95 : (Roll.putD Dsv23 vs [6] b0).eval (.tmp 95) = .pointer (some ⟨gs, so + k, none⟩) := (Roll.eval_new 6 rfl (by decide) (by decide) (by omega)).trans h6
                  clear hp hlv hN
                  unfold Roll.Goes
                  simp only [Lsv23, List.getD_cons_zero, List.getD_cons_succ]
                  generalize Roll.putD Dsv23 vs [6] b0 = a1 at *
                  have cf : p.cell? ⟨gs, so + k, none⟩ = some (.slice (some ⟨rk, ro, none⟩) sl rc) := (hI.cell (p := ⟨gs, so + k, none⟩) G2u.out).trans CKu.out
                  refine Roll.goes_val (w' := p) (.slice (some ⟨rk, ro, none⟩) sl rc) rfl ?_ ⟨(Roll.outw_pure (by decide) rfl), rfl⟩
                  (have ec : ∀ x, a1.eval (.const x) = x := fun _ => rfl); (have ef : ∀ x, a1.eval (.func x) = .func (.func x) #[] #[] := fun _ => rfl); generalize a1.eval = ρ at *
                  clear h6
                  go_simp <;> (intros; first | (exfalso; omega) | rfl)
                · intro vs p hI0 hp
                  have hI := Roll.inw_pure (by decide) rfl hI0
                  clear hI0
                  have e6 : (Roll.putD Dsv23 vs [] b0).eval (.tmp 6) = .pointer (some ⟨gt, 0, none⟩) := (Roll.eval_old rfl).trans (hlv.at 0 (6, .pointer (some ⟨gt, 0, none⟩)) rfl)
                  clear hp hlv hN
                  unfold Roll.Goes
                  simp only [Lsv23, List.getD_cons_zero, List.getD_cons_succ]
                  generalize Roll.putD Dsv23 vs [] b0 = a1 at *
                  refine Roll.goes_val (w' := p) (.pointer (some ⟨gt, 0, none⟩)) rfl ?_ ⟨(Roll.outw_pure (by decide) rfl), rfl⟩
                  (have ec : ∀ x, a1.eval (.const x) = x := fun _ => rfl); (have ef : ∀ x, a1.eval (.func x) = .func (.func x) #[] #[] := fun _ => rfl); generalize a1.eval = ρ at *
                  skip
                  go_simp <;> (intros; first | (exfalso; omega) | rfl)
                · intro vs p hI0 hp
                  have hI := Roll.inw_pure (by decide) rfl hI0
                  clear hI0
                  have h8 : (vs 8) = .pointer (some ⟨gt, 0, none⟩) := hp 8 (by simp [Lsv23])
                  have e97 : (Roll.putD Dsv23 vs [8] b0).eval (.tmp 97) = .pointer (some ⟨gt, 0, none⟩) := (Roll.eval_new 8 rfl (by decide) (by decide) (by omega)).trans h8
                  clear hp hlv hN
                  unfold Roll.Goes
                  simp only [Lsv23, List.getD_cons_zero, List.getD_cons_succ]
                  generalize Roll.putD Dsv23 vs [8] b0 = a1 at *
                  refine Roll.goes_val (w' := p) (.pointer (some ⟨gt, 0, none⟩)) rfl ?_ ⟨(Roll.outw_pure (by decide) rfl), rfl⟩
                  (have ec : ∀ x, a1.eval (.const x) = x := fun _ => rfl); (have ef : ∀ x, a1.eval (.func x) = .func (.func x) #[] #[] := fun _ => rfl); generalize a1.eval = ρ at *
                  clear h8
                  go_simp <;> (intros; first | (exfalso; omega) | rfl)
                · intro vs p hI0 hp
                  have hI := Roll.inw_pure (by decide) rfl hI0
                  clear hI0
                  have h9 : (vs 9) = .pointer (some ⟨gt, 0, none⟩) := hp 9 (by simp [Lsv23])
                  have e98 : (Roll.putD Dsv23 vs [9] b0).eval (.tmp 98) = .pointer (some ⟨gt, 0, none⟩) := (Roll.eval_new 9 rfl (by decide) (by decide) (by omega)).trans h9
                  clear hp hlv hN
                  unfold Roll.Goes
                  simp only [Lsv23, List.getD_cons_zero, List.getD_cons_succ]
                  generalize Roll.putD Dsv23 vs [9] b0 = a1 at *
                  refine Roll.goes_val (w' := p) (.pointer (some ⟨gt, 0, none⟩)) rfl ?_ ⟨(Roll.outw_pure (by decide) rfl), rfl⟩
                  (have ec : ∀ x, a1.eval (.const x) = x := fun _ => rfl); (have ef : ∀ x, a1.eval (.func x) = .func (.func x) #[] #[] := fun _ => rfl); generalize a1.eval = ρ at *
                  clear h9
                  go_simp <;> (intros; first | (exfalso; omega) | rfl)
                · intro vs p hI0 hp
                  have hI := Roll.inw_pure (by decide) rfl hI0
                  clear hI0
                  have h10 : (vs 10) = .pointer (some ⟨gt, 0, none⟩) := hp 10 (by simp [Lsv23])
                  have e99 : (Roll.putD Dsv23 vs [10] b0).eval (.tmp 99) = .pointer (some ⟨gt, 0, none⟩) := (Roll.eval_new 10 rfl (by decide) (by decide) (by omega)).trans h10
                  clear hp hlv hN
                  unfold Roll.Goes
                  simp only [Lsv23, List.getD_cons_zero, List.getD_cons_succ]
                  generalize Roll.putD Dsv23 vs [10] b0 = a1 at *
                  have cf : p.cell? ⟨gt, 0, none⟩ = some (.slice (some ⟨gs, so, none⟩) SN co) := (hI.cell (p := ⟨gt, 0, none⟩) G1u.out).trans CVu.out
                  refine Roll.goes_val (w' := p) (.slice (some ⟨gs, so, none⟩) SN co) rfl ?_ ⟨(Roll.outw_pure (by decide) rfl), rfl⟩
                  (have ec : ∀ x, a1.eval (.const x) = x := fun _ => rfl); (have ef : ∀ x, a1.eval (.func x) = .func (.func x) #[] #[] := fun _ => rfl); generalize a1.eval = ρ at *
                  clear h10
                  go_simp <;> (intros; first | (exfalso; omega) | rfl)
                · intro vs p hI0 hp
                  have hI := Roll.inw_pure (by decide) rfl hI0
                  clear hI0
                  have e8 : (Roll.putD Dsv23 vs [] b0).eval (.tmp 8) = .int .i64 (k : Int) := (Roll.eval_old rfl).trans (hlv.at 1 (8, .int .i64 (k : Int)) rfl)
                  clear hp hlv hN
                  unfold Roll.Goes
                  simp only [Lsv23, List.getD_cons_zero, List.getD_cons_succ]
                  generalize Roll.putD Dsv23 vs [] b0 = a1 at *
                  refine Roll.goes_val (w' := p) (.int .i64 (k : Int)) rfl ?_ ⟨(Roll.outw_pure (by decide) rfl), rfl⟩
                  (have ec : ∀ x, a1.eval (.const x) = x := fun _ => rfl); (have ef : ∀ x, a1.eval (.func x) = .func (.func x) #[] #[] := fun _ => rfl); generalize a1.eval = ρ at *
                  skip
                  go_simp <;> (intros; first | (exfalso; omega) | rfl)
                · intro vs p hI0 hp
                  have hI := Roll.inw_pure (by decide) rfl hI0
                  clear hI0
                  have h11 : (vs 11) = .slice (some ⟨gs, so, none⟩) SN co := hp 11 (by simp [Lsv23])
                  have h12 : (vs 12) = .int .i64 (k : Int) := hp 12 (by simp [Lsv23])
                  have e100 : (Roll.putD Dsv23 vs [11, 12] b0).eval (.tmp 100) = .slice (some ⟨gs, so, none⟩) SN co := (Roll.eval_new 11 rfl (by decide) (by decide) (by omega)).trans h11
                  have e101 : (Roll.putD Dsv23 vs [11, 12] b0).eval (.tmp 101) = .int .i64 (k : Int) := (Roll.eval_new 12 rfl (by decide) (by decide) (by omega)).trans h12
                  clear hp hlv hN
                  unfold Roll.Goes
                  simp only [Lsv23, List.getD_cons_zero, List.getD_cons_succ]
                  generalize Roll.putD Dsv23 vs [11, 12] b0 = a1 at *
                  have hkn := HKN.out
                  have hkn2 : (k : Int) < (SN : Int) := by omega
                  have hco := HCO.out
                  refine Roll.goes_val (w' := p) (.pointer (some ⟨gs, so + k, none⟩)) rfl ?_ ⟨(Roll.outw_pure (by decide) rfl), rfl⟩
                  (have ec : ∀ x, a1.eval (.const x) = x := fun _ => rfl); (have ef : ∀ x, a1.eval (.func x) = .func (.func x) #[] #[] := fun _ => rfl); generalize a1.eval = ρ at *
                  clear h11 h12
                  go_simp <;> (intros; first | (exfalso; omega) | rfl)
                · intro vs p hI0 hp
                  have hI := Roll.inw_pure (by decide) rfl hI0
                  clear hI0
                  have h13 : (vs 13) = .pointer (some ⟨gs, so + k, none⟩) := hp 13 (by simp [Lsv23])
                  have e102 : (Roll.putD Dsv23 vs [13] b0).eval (.tmp 102) = .pointer (some ⟨gs, so + k, none⟩) := (Roll.eval_new 13 rfl (by decide) (by decide) (by omega)).trans h13
                  clear hp hlv hN
                  unfold Roll.Goes
                  simp only [Lsv23, List.getD_cons_zero, List.getD_cons_succ]
                  generalize Roll.putD Dsv23 vs [13] b0 = a1 at *
                  have cf : p.cell? ⟨gs, so + k, none⟩ = some (.slice (some ⟨rk, ro, none⟩) sl rc) := (hI.cell (p := ⟨gs, so + k, none⟩) G2u.out).trans CKu.out
                  refine Roll.goes_val (w' := p) (.slice (some ⟨rk, ro, none⟩) sl rc) rfl ?_ ⟨(Roll.outw_pure (by decide) rfl), rfl⟩
                  (have ec : ∀ x, a1.eval (.const x) = x := fun _ => rfl); (have ef : ∀ x, a1.eval (.func x) = .func (.func x) #[] #[] := fun _ => rfl); generalize a1.eval = ρ at *
                  clear h13
                  go_simp <;> (intros; first | (exfalso; omega) | rfl)
                · intro vs p hI0 hp
                  have hI := Roll.inw_pure (by decide) rfl hI0
                  clear hI0
                  have h14 : (vs 14) = .slice (some ⟨rk, ro, none⟩) sl rc := hp 14 (by simp [Lsv23])
                  have e103 : (Roll.putD Dsv23 vs [14] b0).eval (.tmp 103) = .slice (some ⟨rk, ro, none⟩) sl rc := (Roll.eval_new 14 rfl (by decide) (by decide) (by omega)).trans h14
                  clear hp hlv hN
                  unfold Roll.Goes
                  simp only [Lsv23, List.getD_cons_zero, List.getD_cons_succ]
                  generalize Roll.putD Dsv23 vs [14] b0 = a1 at *
                  refine Roll.goes_val (w' := p) (.int .i64 (sl : Int)) rfl ?_ ⟨(Roll.outw_pure (by decide) rfl), rfl⟩
                  (have ec : ∀ x, a1.eval (.const x) = x := fun _ => rfl); (have ef : ∀ x, a1.eval (.func x) = .func (.func x) #[] #[] := fun _ => rfl); generalize a1.eval = ρ at *
                  clear h14
                  go_simp <;> (intros; first | (exfalso; omega) | rfl)
                · intro vs p hI0 hp
                  have hI := Roll.inw_pure (by decide) rfl hI0
                  clear hI0
                  have h15 : (vs 15) = .int .i64 (sl : Int) := hp 15 (by simp [Lsv23])
                  have e104 : (Roll.putD Dsv23 vs [15] b0).eval (.tmp 104) = .int .i64 (sl : Int) := (Roll.eval_new 15 rfl (by decide) (by decide) (by omega)).trans h15
                  clear hp hlv hN
                  unfold Roll.Goes
                  simp only [Lsv23, List.getD_cons_zero, List.getD_cons_succ]
                  generalize Roll.putD Dsv23 vs [15] b0 = a1 at *
                  have hws := HWS.out
                  refine Roll.goes_val (w' := p) (.int .i64 (s1 : Int)) rfl ?_ ⟨(Roll.outw_pure (by decide) rfl), rfl⟩
                  (have ec : ∀ x, a1.eval (.const x) = x := fun _ => rfl); (have ef : ∀ x, a1.eval (.func x) = .func (.func x) #[] #[] := fun _ => rfl); generalize a1.eval = ρ at *
                  clear h15
                  go_simp <;> (intros; first | (exfalso; omega) | rfl)
                · intro vs p hI0 hp
                  have hI := Roll.inw_pure (by decide) rfl hI0
                  clear hI0
                  have h7 : (vs 7) = .slice (some ⟨rk, ro, none⟩) sl rc := hp 7 (by simp [Lsv23])
                  have h16 : (vs 16) = .int .i64 (s1 : Int) := hp 16 (by simp [Lsv23])
                  have e96 : (Roll.putD Dsv23 vs [7, 16] b0).eval (.tmp 96) = .slice (some ⟨rk, ro, none⟩) sl rc := (Roll.eval_new 7 rfl (by decide) (by decide) (by omega)).trans h7
                  have e105 : (Roll.putD Dsv23 vs [7, 16] b0).eval (.tmp 105) = .int .i64 (s1 : Int) := (Roll.eval_new 16 rfl (by decide) (by decide) (by omega)).trans h16
                  clear hp hlv hN
                  unfold Roll.Goes
                  simp only [Lsv23, List.getD_cons_zero, List.getD_cons_succ]
                  generalize Roll.putD Dsv23 vs [7, 16] b0 = a1 at *
                  have hjn := HS1.out
                  have hrc := HRC.out
                  refine Roll.goes_val (w' := p) (.pointer (some ⟨rk, ro + s1, none⟩)) rfl ?_ ⟨(Roll.outw_pure (by decide) rfl), rfl⟩
                  (have ec : ∀ x, a1.eval (.const x) = x := fun _ => rfl); (have ef : ∀ x, a1.eval (.func x) = .func (.func x) #[] #[] := fun _ => rfl); generalize a1.eval = ρ at *
                  clear h7 h16
                  go_simp <;> (intros; first | (exfalso; omega) | rfl)
                · intro vs p hI0 hp
                  have hI := Roll.inw_pure (by decide) rfl hI0
                  clear hI0
                  have h17 : (vs 17) = .pointer (some ⟨rk, ro + s1, none⟩) := hp 17 (by simp [Lsv23])
                  have e106 : (Roll.putD Dsv23 vs [17] b0).eval (.tmp 106) = .pointer (some ⟨rk, ro + s1, none⟩) := (Roll.eval_new 17 rfl (by decide) (by decide) (by omega)).trans h17
                  clear hp hlv hN
                  unfold Roll.Goes
                  simp only [Lsv23, List.getD_cons_zero, List.getD_cons_succ]
                  generalize Roll.putD Dsv23 vs [17] b0 = a1 at *
                  have cf : p.cell? ⟨rk, ro + s1, none⟩ = some (.slice aj 64 cj) := (hI.cell (p := ⟨rk, ro + s1, none⟩) G3u.out).trans CJ.out
                  refine Roll.goes_val (w' := p) (.slice aj 64 cj) rfl ?_ ⟨(Roll.outw_pure (by decide) rfl), rfl⟩
                  (have ec : ∀ x, a1.eval (.const x) = x := fun _ => rfl); (have ef : ∀ x, a1.eval (.func x) = .func (.func x) #[] #[] := fun _ => rfl); generalize a1.eval = ρ at *
                  clear h17
                  go_simp <;> (intros; first | (exfalso; omega) | rfl)
                · intro vs p hI0 hp
                  have hI := Roll.inw_pre (by decide) rfl hI0
                  clear hI0
                  have h0 : (vs 0) = .slice (some ⟨gb, 0, none⟩) 64 64 := hp 0 (by simp [Lsv23])
                  have h18 : (vs 18) = .slice aj 64 cj := hp 18 (by simp [Lsv23])
                  have e89 : (Roll.putD Dsv23 vs [0, 18] b0).eval (.tmp 89) = .slice (some ⟨gb, 0, none⟩) 64 64 := (Roll.eval_new 0 rfl (by decide) (by decide) (by omega)).trans h0
                  have e107 : (Roll.putD Dsv23 vs [0, 18] b0).eval (.tmp 107) = .slice aj 64 cj := (Roll.eval_new 18 rfl (by decide) (by decide) (by omega)).trans h18
                  clear hp hlv hN
                  unfold Roll.Goes
                  simp only [Lsv23, List.getD_cons_zero, List.getD_cons_succ]
                  generalize Roll.putD Dsv23 vs [0, 18] b0 = a1 at *
                  refine Roll.goes_call 22 #[.slice (some ⟨gb, 0, none⟩) 64 64, .slice aj 64 cj] p rfl (by have ec : ∀ x, a1.eval (.const x) = x := fun _ => rfl; have ef : ∀ x, a1.eval (.func x) = .func (.func x) #[] #[] := fun _ => rfl; generalize a1.eval = ρ at *; go_simp) ?_
                  refine (sameBytes_any _ _ (some ⟨gb, 0, none⟩) 64 64 bk aj 64 cj bk p (HBB.out.kept (Kept.of_below (fun _ => False) hI) (fun _ _ _ h => h)) (HBJ.out.kept (Kept.of_below (fun _ => False) hI) (fun _ _ _ h => h))).mono ?_
                  rintro y p2 ⟨rfl, rfl⟩
                  exact ⟨_, rfl, Roll.outw_pre (by decide) rfl hI (Kept.refl _ _), by show Value.bool _ = _; rw [beq_self_eq_true]⟩
                · intro vs p hI0 hp
                  have hI := Roll.inw_k0 rfl hI0
                  clear hI0
                  have h19 : (vs 19) = .bool true := hp 19 (by simp [Lsv23])
                  have e108 : (Roll.putD Dsv23 vs [19] b0).eval (.tmp 108) = .bool true := (Roll.eval_new 19 rfl (by decide) (by decide) (by omega)).trans h19
                  clear hp hlv hN
                  unfold Roll.Goes
                  simp only [Lsv23, List.getD_cons_zero, List.getD_cons_succ]
                  generalize Roll.putD Dsv23 vs [19] b0 = a1 at *
                  refine Roll.goes_val (w' := p) (.bool false) rfl (by have ec : ∀ x, a1.eval (.const x) = x := fun _ => rfl; have ef : ∀ x, a1.eval (.func x) = .func (.func x) #[] #[] := fun _ => rfl; generalize a1.eval = ρ at *; go_simp <;> (intros; first | (exfalso; omega) | rfl)) ⟨Roll.outw_k0 rfl hI (Kept.refl _ _), rfl⟩
              · intro vs p hI hR
                have h0 : (vs 0) = .slice (some ⟨gb, 0, none⟩) 64 64 := hR 0 (by omega)
                have h1 : (vs 1) = .pointer (some ⟨gt, 0, none⟩) := hR 1 (by omega)
                have h2 : (vs 2) = .pointer (some ⟨gt, 0, none⟩) := hR 2 (by omega)
                have h3 : (vs 3) = .pointer (some ⟨gt, 0, none⟩) := hR 3 (by omega)
                have h4 : (vs 4) = .slice (some ⟨gs, so, none⟩) SN co := hR 4 (by omega)
                have h5 : (vs 5) = .int .i64 (k : Int) := hR 5 (by omega)
                have h6 : (vs 6) = .pointer (some ⟨gs, so + k, none⟩) := hR 6 (by omega)
                have h7 : (vs 7) = .slice (some ⟨rk, ro, none⟩) sl rc := hR 7 (by omega)
                have h8 : (vs 8) = .pointer (some ⟨gt, 0, none⟩) := hR 8 (by omega)
                have h9 : (vs 9) = .pointer (some ⟨gt, 0, none⟩) := hR 9 (by omega)
                have h10 : (vs 10) = .pointer (some ⟨gt, 0, none⟩) := hR 10 (by omega)
                have h11 : (vs 11) = .slice (some ⟨gs, so, none⟩) SN co := hR 11 (by omega)
                have h12 : (vs 12) = .int .i64 (k : Int) := hR 12 (by omega)
                have h13 : (vs 13) = .pointer (some ⟨gs, so + k, none⟩) := hR 13 (by omega)
                have h14 : (vs 14) = .slice (some ⟨rk, ro, none⟩) sl rc := hR 14 (by omega)
                have h15 : (vs 15) = .int .i64 (sl : Int) := hR 15 (by omega)
                have h16 : (vs 16) = .int .i64 (s1 : Int) := hR 16 (by omega)
                have h17 : (vs 17) = .pointer (some ⟨rk, ro + s1, none⟩) := hR 17 (by omega)
                have h18 : (vs 18) = .slice aj 64 cj := hR 18 (by omega)
                have h19 : (vs 19) = .bool true := hR 19 (by omega)
                have h20 : (vs 20) = .bool false := hR 20 (by omega)
                clear hR
                simp only [List.range_succ, List.range_zero, List.nil_append, List.cons_append, Roll.putD, Act.put, List.getD_cons_zero, List.getD_cons_succ, List.setIfInBounds_toArray, List.set_cons_zero, List.set_cons_succ, List.drop_succ_cons, List.drop_zero, Dsv23]
                simp only [h0, h1, h2, h3, h4, h5, h6, h7, h8, h9, h10, h11, h12, h13, h14, h15, h16, h17, h18, h19, h20]
                clear h0 h1 h2 h3 h4 h5 h6 h7 h8 h9 h10 h11 h12 h13 h14 h15 h16 h17 h18 h19 h20
                have HPB := Lib.hid hI
                clear hI
                go_wp2_with fail
                go_roundw
                case rel => exact ⟨k + 1, by omega, by go_num, HL.out.below (HBL.out.trans (HPB.out.mono HBL.out.size))⟩
                case measure => simp [intOf]; omega
            · obtain rfl : k = SN := by omega
              obtain ⟨_, ⟨gso, vo, row, Bf, hT, _⟩, _, _, _⟩ := HL.out.get (i := 0) rfl
              obtain ⟨xs, hx, _⟩ := hT.outer
              rw [HTL.out] at hx
              obtain ⟨gs, so, co, _, rfl, f1, f2, _, _⟩ := hx.at hsn1
              have cV0 : q.cell? ⟨gt, 0, none⟩ = some (.slice (some ⟨gs, so, none⟩) k co) := by rw [cell_of_row q gt 0 _ _ _ hT.self]; simp [HTL.out]
              clear hT hx
              go_wp2_with fail
              go_roundw
              case rel => exact ⟨i + 1, D1, by omega, by omega, by go_num, HL.out, HO1.out, HF1.out, HS1L.out, HK1.out⟩
              case measure => simp [intOf]; omega
        · have Hr : Hid (around m.kind 4 = 2) := Lib.hid hr
          clear hr hrb c4
          go_upto_region 17 with (first
            | (go_at_call 14; refine (around_any m.kind 4 _ hm0.1 hm0.2 (by omega) (by omega)).mono ?_; rintro e w2 ⟨rfl, rfl⟩; rw [Hr.out])
            | (have hL := HL.out; go_at_call 26; refine (tflush_lv hL (fun s hs => (HTN0.out s hs).1) HSN1.out.1 HSN1.out.2 HON.out).mono ?_; rintro e w3 ⟨rfl, hl⟩; rw [← flush_S] at hl; have HL3 := Lib.hid hl; clear hl hL))
          obtain ⟨D1, hD1⟩ : ∃ D1, D1 = d.flush := ⟨_, rfl⟩
          rw [← hD1] at HL3
          have HO1 : Hid (D1.on = true) := Lib.hid (by rw [hD1]; exact (flush_on HF0.out).trans HON.out)
          have HF1 : Hid (D1.fuse = 0) := Lib.hid (by rw [hD1]; exact (flush_fuse HF0.out).trans HF0.out)
          have HS1L : Hid (D1.S.length = SN) := Lib.hid (by rw [hD1]; exact (flush_len d).trans HSL.out)
          have HK1 : Hid (D1.Ok (i + 1)) := Lib.hid (by rw [hD1]; exact (DM.flush_ok HOKi.out).mono (by omega))
          have HLx := HL3
          clear hD1 HL cK
          have HTL : Hid (D1.S.length = SN) := HS1L
          have HTN : Hid (∀ s ∈ D1.S, 0 < s.length ∧ s.length ≤ 100000) := Lib.hid (fun s hs => ⟨List.length_pos_iff.2 (HK1.out.2.2.2 s hs).1, by have := (HK1.out.2.2.2 s hs).2.1; omega⟩)
          go_loopw [8] (fun t wr => ∃ k : Nat, k ≤ SN ∧ t = .int .i64 (k : Int) ∧ Lv w0 wr [trackO 55 [] gt D1.S, diskO g D1]) (fun t _ => SN - (intOf t).toNat)
          case atStart => exact ⟨0, Nat.zero_le _, rfl, HLx.out⟩
          case round =>
            obtain ⟨k, hk, rfl, hL⟩ := hrel
            have HL := Lib.hid hL
            clear hL HLx
            rename World => q
            by_cases hlk : k < SN
            · have hlk2 : (k : Int) < (SN : Int) := by omega
              have hwk : IntKind.i64.wrap ((k : Int) + 1) = (k : Int) + 1 := i64_id _ (by omega) (by omega)
              have HKD : Hid (k < D1.S.length) := Lib.hid (by rw [HS1L.out]; exact hlk)
              have HKN : Hid (k < SN) := Lib.hid hlk
              have HKS : Hid (k < D1.S.length) := Lib.hid (by rw [HTL.out]; exact hlk)
              obtain ⟨B, ⟨gso, vo, row, Bf, hT, hTB⟩, hblt, _, hset⟩ := HL.out.get (i := 0) rfl
              have hsp := HTN.out _ (List.getElem_mem HKS.out)
              obtain ⟨gs, so, co, ro, rc, rfl, rfl, f1, f2, f3, f4, f5, f6, f7, f8, f9⟩ := hT.look HKS.out hsp.1
              obtain ⟨sk, hsk⟩ : ∃ sk, sk = D1.S[k]'HKS.out := ⟨_, rfl⟩
              clear f9
              rw [← hsk] at f2 f7 f8 hsp
              have HSK := Lib.hid hsk
              obtain ⟨rk, hrk⟩ : ∃ rk, row k = rk := ⟨_, rfl⟩
              obtain ⟨sl, hsl⟩ : ∃ sl, sk.length = sl := ⟨_, rfl⟩
              obtain ⟨ys, hys, hyj⟩ := f8
              rw [hrk, hsl] at f7
              rw [HTL.out] at f6 f1
              rw [hsl] at f2 hsp
              rw [hrk] at f5 hys
              rw [hsl] at hys
              have HT := Lib.hid hT
              have HTB := Lib.hid hTB
              have HSET := Lib.hid hset
              have HRR := Lib.hid hrk
              have HSL8 := Lib.hid hsl
              have HYS := Lib.hid hys
              have HCO := Lib.hid f1
              have HRC := Lib.hid f2
              have HSP := Lib.hid hsp
              have HGT := Lib.hid f3
              have HGSQ := Lib.hid f4
              have HRKQ := Lib.hid f5
              have CV := Lib.hid f6
              have CK := Lib.hid f7
              have cV0 := f6
              have HJ : Hid (∀ j (hj : j < sk.length), ∃ a c, q.cell? ⟨rk, ro + j, none⟩ = some (.slice a 64 c) ∧ Bs Bf q a 64 c sk[j]) := Lib.hid (fun j hj => by
                obtain ⟨a, c, e1, e2⟩ := hyj j hj
                obtain ⟨r', ro', rc', e3, e4, _, _, _, e5⟩ := hys.at (by omega)
                cases e3; cases e4
                have hjl : j < ys.length := by rw [hys.1]; omega
                have e6 := e5 j hjl
                rw [List.getElem?_eq_getElem hjl] at e1
                rw [Option.some.inj e1] at e6
                exact ⟨a, c, e6, e2⟩)
              have HNE : Hid (¬ gt = rk ∧ ¬ gs = rk ∧ ¬ Bf gs) := Lib.hid ⟨fun e => (hT.ap2 k HKS.out).1 (hrk.trans e.symm), fun e => (hT.ap2 k HKS.out).2 (by rw [e, hrk]), hT.bf.2.1 gs rfl⟩
              have FK : Hid (∀ j, q.frozen? ⟨gs, j, none⟩ = false) := Lib.hid (by obtain ⟨xs, hx, _⟩ := hT.outer; exact hx.frozen)
              clear hT hTB hblt hset hsp f1 f2 f3 f4 f5 f6 f7 hsk hrk hsl hys hyj
              go_upto_region 20 with (first
                | (have hL := HL.out; go_at_call 21; refine (read_nb hL (i := 1) (d := D1) rfl k HKD.out HO1.out).mono ?_; rintro e u0 ⟨gb, rfl, hgb, hbb, hbl⟩; have HGB0 := Lib.hid hgb; have HBB0 := Lib.hid hbb; have HBL0 := Lib.hid hbl; clear hgb hbb hbl hL))
              rename World => u
              obtain ⟨bk, hbk⟩ : ∃ bk, bk = lastB (D1.S[k]'HKD.out) := ⟨_, rfl⟩
              rw [← hbk] at HBB0
              have HBK := Lib.hid hbk
              have HGB : Hid (q.heap.size ≤ gb) := HGB0
              have HBB : Hid (Bs (fun b => b = gb) u (some ⟨gb, 0, none⟩) 64 64 bk) := HBB0
              have HBL : Hid (Below q.heap.size q u) := HBL0
              have cKu : u.cell? ⟨b, ob, none⟩ = some (.int .i64 m.kind) := HCK.out u (HL.out.args.trans (HBL.out.mono HL.out.size))
              clear hbk
              have G1u : Hid (gt < u.heap.size) := Lib.hid (Nat.lt_of_lt_of_le HGT.out (HBL.out).size)
              have G2u : Hid (gs < u.heap.size) := Lib.hid (Nat.lt_of_lt_of_le HGSQ.out (HBL.out).size)
              have G3u : Hid (rk < u.heap.size) := Lib.hid (Nat.lt_of_lt_of_le HRKQ.out (HBL.out).size)
              have CVu : Hid (u.cell? ⟨gt, 0, none⟩ = some (.slice (some ⟨gs, so, none⟩) SN co)) := Lib.hid (((HBL.out).cell (p := ⟨gt, 0, none⟩) HGT.out).trans CV.out)
              have CKu : Hid (u.cell? ⟨gs, so + k, none⟩ = some (.slice (some ⟨rk, ro, none⟩) sl rc)) := Lib.hid (((HBL.out).cell (p := ⟨gs, so + k, none⟩) HGSQ.out).trans CK.out)
              obtain ⟨s1, hs1⟩ : ∃ s1, sl = s1 + 1 := ⟨sl - 1, by have := HSP.out.1; omega⟩
              have HWS : Hid (IntKind.i64.wrap ((sl : Int) - 1) = (s1 : Int)) := Lib.hid (by have := HRC.out; rw [i64_id _ (by omega) (by omega)]; omega)
              have HS1 : Hid (s1 < sl ∧ (s1 : Int) < (sl : Int)) := Lib.hid (by omega)
              have hs1l : s1 < sk.length := by rw [HSL8.out]; omega
              obtain ⟨aj, cj, hcj, hbj⟩ := HJ.out s1 hs1l
              have CJ : Hid (u.cell? ⟨rk, ro + s1, none⟩ = some (.slice aj 64 cj)) := Lib.hid ((HBL.out.cell (p := ⟨rk, ro + s1, none⟩) HRKQ.out).trans hcj)
              have HBJ : Hid (Bs Bf u aj 64 cj bk) := Lib.hid (by
                have e : bk = sk[s1] := by
                  have e2 : s1 = sk.length - 1 := by rw [HSL8.out]; omega
                  rw [HBK.out, ← HSK.out]
                  unfold lastB
                  rw [List.getLastD_eq_getLast?, List.getLast?_eq_getElem?, ← e2, List.getElem?_eq_getElem hs1l]
                  rfl
                rw [e]; exact hbj.kept (Kept.of_below (fun _ => False) HBL.out) (fun _ _ _ h => h))
              clear hs1 hs1l hcj hbj cV0
              go_upto_region 23 with (first | (go_at_call 14; refine (around_any m.kind 4 _ hm0.1 hm0.2 (by omega) (by omega)).mono ?_; rintro e w2 ⟨rfl, rfl⟩; rw [Hr.out]))
              clear cKu
              refine Roll.region_w 21 170 Dsv23 Lsv23 [(6, .pointer (some ⟨gt, 0, none⟩)), (8, .int .i64 (k : Int)), (9, .slice (some ⟨gb, 0, none⟩) 64 64)] 20 [true, true, true, true, true, true, true, true, true, true, true, true, true, true, true, true, true, true, true, false, false] (fun p => Below u.heap.size u p) (fun vv p => Below u.heap.size u p) (fun p => Below u.heap.size u p) (Kept (fun _ => False)) [fun vv p => (vv 0) = .slice (some ⟨gb, 0, none⟩) 64 64, fun vv p => (vv 1) = .pointer (some ⟨gt, 0, none⟩), fun vv p => (vv 2) = .pointer (some ⟨gt, 0, none⟩), fun vv p => (vv 3) = .pointer (some ⟨gt, 0, none⟩), fun vv p => (vv 4) = .slice (some ⟨gs, so, none⟩) SN co, fun vv p => (vv 5) = .int .i64 (k : Int), fun vv p => (vv 6) = .pointer (some ⟨gs, so + k, none⟩), fun vv p => (vv 7) = .slice (some ⟨rk, ro, none⟩) sl rc, fun vv p => (vv 8) = .pointer (some ⟨gt, 0, none⟩), fun vv p => (vv 9) = .pointer (some ⟨gt, 0, none⟩), fun vv p => (vv 10) = .pointer (some ⟨gt, 0, none⟩), fun vv p => (vv 11) = .slice (some ⟨gs, so, none⟩) SN co, fun vv p => (vv 12) = .int .i64 (k : Int), fun vv p => (vv 13) = .pointer (some ⟨gs, so + k, none⟩), fun vv p => (vv 14) = .slice (some ⟨rk, ro, none⟩) sl rc, fun vv p => (vv 15) = .int .i64 (sl : Int), fun vv p => (vv 16) = .int .i64 (s1 : Int), fun vv p => (vv 17) = .pointer (some ⟨rk, ro + s1, none⟩), fun vv p => (vv 18) = .slice aj 64 cj, fun vv p => (vv 19) = .bool true, fun vv p => (vv 20) = .bool false] (by kernel_rfl) (by kernel_rfl) rfl ⟨rfl, rfl, rfl, trivial⟩ ((Below.refl _ _).drew) (by decide) (by kernel_rfl) (fun _ h => h) (fun _ _ h => h) (fun _ => Kept.refl _ _) ?_ ?_ ?_
              · exact ⟨fun _ _ _ _ h => h, fun _ _ _ _ h => h, fun _ _ _ _ h => h, fun _ _ _ _ h => h, fun _ _ _ _ h => h, fun _ _ _ _ h => h, fun _ _ _ _ h => h, fun _ _ _ _ h => h, fun _ _ _ _ h => h, fun _ _ _ _ h => h, fun _ _ _ _ h => h, fun _ _ _ _ h => h, fun _ _ _ _ h => h, fun _ _ _ _ h => h, fun _ _ _ _ h => h, fun _ _ _ _ h => h, fun _ _ _ _ h => h, fun _ _ _ _ h => h, fun _ _ _ _ h => h, fun _ _ _ _ h => h, fun _ _ _ _ h => h, trivial⟩
              · intro b0 hN hlv
                refine ⟨?_, ?_, ?_, ?_, ?_, ?_, ?_, ?_, ?_, ?_, ?_, ?_, ?_, ?_, ?_, ?_, ?_, ?_, ?_, ?_, ?_, trivial⟩
                · intro vs p hI0 hp
                  have hI := Roll.inw_pure (by decide) rfl hI0
                  clear hI0
                  have e9 : (Roll.putD Dsv23 vs [] b0).eval (.tmp 9) = .slice (some ⟨gb, 0, none⟩) 64 64 := (Roll.eval_old rfl).trans (hlv.at 2 (9, .slice (some ⟨gb, 0, none⟩) 64 64) rfl)
                  clear hp hlv hN
                  unfold Roll.Goes
                  simp only [Lsv23, List.getD_cons_zero, List.getD_cons_succ]
                  generalize Roll.putD Dsv23 vs [] b0 = a1 at *
                  refine Roll.goes_val (w' := p) (.slice (some ⟨gb, 0, none⟩) 64 64) rfl ?_ ⟨(Roll.outw_pure (by decide) rfl), rfl⟩
                  (have ec : ∀ x, a1.eval (.const x) = x := fun _ => rfl); (have ef : ∀ x, a1.eval (.func x) = .func (.func x) #[] #[] := fun _ => rfl); generalize a1.eval = ρ at *
                  skip
                  go_simp <;> (intros; first | (exfalso; omega) | rfl)
                · intro vs p hI0 hp
                  have hI := Roll.inw_pure (by decide) rfl hI0
                  clear hI0
                  have e6 : (Roll.putD Dsv23 vs [] b0).eval (.tmp 6) = .pointer (some ⟨gt, 0, none⟩) := (Roll.eval_old rfl).trans (hlv.at 0 (6, .pointer (some ⟨gt, 0, none⟩)) rfl)
                  clear hp hlv hN
                  unfold Roll.Goes
                  simp only [Lsv23, List.getD_cons_zero, List.getD_cons_succ]
                  generalize Roll.putD Dsv23 vs [] b0 = a1 at *
                  refine Roll.goes_val (w' := p) (.pointer (some ⟨gt, 0, none⟩)) rfl ?_ ⟨(Roll.outw_pure (by decide) rfl), rfl⟩
                  (have ec : ∀ x, a1.eval (.const x) = x := fun _ => rfl); (have ef : ∀ x, a1.eval (.func x) = .func (.func x) #[] #[] := fun _ => rfl); generalize a1.eval = ρ at *
                  skip
                  go_simp <;> (intros; first | (exfalso; omega) | rfl)
                · intro vs p hI0 hp
                  have hI := Roll.inw_pure (by decide) rfl hI0
                  clear hI0
                  have h1 : (vs 1) = .pointer (some ⟨gt, 0, none⟩) := hp 1 (by simp [Lsv23])
                  have e90 : (Roll.putD Dsv23 vs [1] b0).eval (.tmp 90) = .pointer (some ⟨gt, 0, none⟩) := (Roll.eval_new 1 rfl (by decide) (by decide) (by omega)).trans h1
                  clear hp hlv hN
                  unfold Roll.Goes
                  simp only [Lsv23, List.getD_cons_zero, List.getD_cons_succ]
                  generalize Roll.putD Dsv23 vs [1] b0 = a1 at *
                  refine Roll.goes_val (w' := p) (.pointer (some ⟨gt, 0, none⟩)) rfl ?_ ⟨(Roll.outw_pure (by decide) rfl), rfl⟩
                  (have ec : ∀ x, a1.eval (.const x) = x := fun _ => rfl); (have ef : ∀ x, a1.eval (.func x) = .func (.func x) #[] #[] := fun _ => rfl); generalize a1.eval = ρ at *
                  clear h1
                  go_simp <;> (intros; first | (exfalso; omega) | rfl)
                · intro vs p hI0 hp
                  have hI := Roll.inw_pure (by decide) rfl hI0
                  clear hI0
                  have h2 : (vs 2) = .pointer (some ⟨gt, 0, none⟩) := hp 2 (by simp [Lsv23])
                  have e91 : (Roll.putD Dsv23 vs [2] b0).eval (.tmp 91) = .pointer (some ⟨gt, 0, none⟩) := (Roll.eval_new 2 rfl (by decide) (by decide) (by omega)).trans h2
                  clear hp hlv hN
                  unfold Roll.Goes
                  simp only [Lsv23, List.getD_cons_zero, List.getD_cons_succ]
                  generalize Roll.putD Dsv23 vs [2] b0 = a1 at *
                  refine Roll.goes_val (w' := p) (.pointer (some ⟨gt, 0, none⟩)) rfl ?_ ⟨(Roll.outw_pure (by decide) rfl), rfl⟩
                  (have ec : ∀ x, a1.eval (.const x) = x := fun _ => rfl); (have ef : ∀ x, a1.eval (.func x) = .func (.func x) #[] #[] := fun _ => rfl); generalize a1.eval = ρ at *
                  clear h2
                  go_simp <;> (intros; first | (exfalso; omega) | rfl)
                · intro vs p hI0 hp
                  have hI := Roll.inw_pure (by decide) rfl hI0
                  clear hI0
                  have h3 : (vs 3) = .pointer (some ⟨gt, 0, none⟩) := hp 3 (by simp [Lsv23])
                  have e92 : (Roll.putD Dsv23 vs [3] b0).eval (.tmp 92) = .pointer (some ⟨gt, 0, none⟩) := (Roll.eval_new 3 rfl (by decide) (by decide) (by omega)).trans h3
                  clear hp hlv hN
                  unfold Roll.Goes
                  simp only [Lsv23, List.getD_cons_zero, List.getD_cons_succ]
                  generalize Roll.putD Dsv23 vs [3] b0 = a1 at *
                  have cf : p.cell? ⟨gt, 0, none⟩ = some (.slice (some ⟨gs, so, none⟩) SN co) := (hI.cell (p := ⟨gt, 0, none⟩) G1u.out).trans CVu.out
                  refine Roll.goes_val (w' := p) (.slice (some ⟨gs, so, none⟩) SN co) rfl ?_ ⟨(Roll.outw_pure (by decide) rfl), rfl⟩
                  (have ec : ∀ x, a1.eval (.const x) = x := fun _ => rfl); (have ef : ∀ x, a1.eval (.func x) = .func (.func x) #[] #[] := fun _ => rfl); generalize a1.eval = ρ at *
                  clear h3
                  go_simp <;> (intros; first | (exfalso; omega) | rfl)
                · intro vs p hI0 hp
                  have hI := Roll.inw_pure (by decide) rfl hI0
                  clear hI0
                  have e8 : (Roll.putD Dsv23 vs [] b0).eval (.tmp 8) = .int .i64 (k : Int) := (Roll.eval_old rfl).trans (hlv.at 1 (8, .int .i64 (k : Int)) rfl)
                  clear hp hlv hN
                  unfold Roll.Goes
                  simp only [Lsv23, List.getD_cons_zero, List.getD_cons_succ]
                  generalize Roll.putD Dsv23 vs [] b0 = a1 at *
                  refine Roll.goes_val (w' := p) (.int .i64 (k : Int)) rfl ?_ ⟨(Roll.outw_pure (by decide) rfl), rfl⟩
                  (have ec : ∀ x, a1.eval (.const x) = x := fun _ => rfl); (have ef : ∀ x, a1.eval (.func x) = .func (.func x) #[] #[] := fun _ => rfl); generalize a1.eval = ρ at *
                  skip
                  go_simp <;> (intros; first | (exfalso; omega) | rfl)
                · intro vs p hI0 hp
                  have hI := Roll.inw_pure (by decide) rfl hI0
                  clear hI0
                  have h4 : (vs 4) = .slice (some ⟨gs, so, none⟩) SN co := hp 4 (by simp [Lsv23])
                  have h5 : (vs 5) = .int .i64 (k : Int) := hp 5 (by simp [Lsv23])
                  have e93 : (Roll.putD Dsv23 vs [4, 5] b0).eval (.tmp 93) = .slice (some ⟨gs, so, none⟩) SN co := (Roll.eval_new 4 rfl (by decide) (by decide) (by omega)).trans h4
                  have e94 : (Roll.putD Dsv23 vs [4, 5] b0).eval (.tmp 94) = .int .i64 (k : Int) := (Roll.eval_new 5 rfl (by decide) (by decide) (by omega)).trans h5
                  clear hp hlv hN
                  unfold Roll.Goes
                  simp only [Lsv23, List.getD_cons_zero, List.getD_cons_succ]
                  generalize Roll.putD Dsv23 vs [4, 5] b0 = a1 at *
                  have hkn := HKN.out
                  have hkn2 : (k : Int) < (SN : Int) := by omega
                  have hco := HCO.out
                  refine Roll.goes_val (w' := p) (.pointer (some ⟨gs, so + k, none⟩)) rfl ?_ ⟨(Roll.outw_pure (by decide) rfl), rfl⟩
                  (have ec : ∀ x, a1.eval (.const x) = x := fun _ => rfl); (have ef : ∀ x, a1.eval (.func x) = .func (.func x) #[] #[] := fun _ => rfl); generalize a1.eval = ρ at *
                  clear h4 h5
                  go_simp <;> (intros; first | (exfalso; omega) | rfl)
                · intro vs p hI0 hp
                  have hI := Roll.inw_pure (by decide) rfl hI0
                  clear hI0
                  have h6 : (vs 6) = .pointer (some ⟨gs, so + k, none⟩) := hp 6 (by simp [Lsv23])
                  have e95 : (Roll.putD Dsv23 vs [6] b0).eval (.tmp 95) = .pointer (some ⟨gs, so + k, none⟩) := (Roll.eval_new 6 rfl (by decide) (by decide) (by omega)).trans h6
                  clear hp hlv hN
                  unfold Roll.Goes
                  simp only [Lsv23, List.getD_cons_zero, List.getD_cons_succ]
                  generalize Roll.putD Dsv23 vs [6] b0 = a1 at *
                  have cf : p.cell? ⟨gs, so + k, none⟩ = some (.slice (some ⟨rk, ro, none⟩) sl rc) := (hI.cell (p := ⟨gs, so + k, none⟩) G2u.out).trans CKu.out
                  refine Roll.goes_val (w' := p) (.slice (some ⟨rk, ro, none⟩) sl rc) rfl ?_ ⟨(Roll.outw_pure (by decide) rfl), rfl⟩
                  (have ec : ∀ x, a1.eval (.const x) = x := fun _ => rfl); (have ef : ∀ x, a1.eval (.func x) = .func (.func x) #[] #[] := fun _ => rfl); generalize a1.eval = ρ at *
                  clear h6
                  go_simp <;> (intros; first | (exfalso; omega) | rfl)
                · intro vs p hI0 hp
                  have hI := Roll.inw_pure (by decide) rfl hI0
                  clear hI0
                  have e6 : (Roll.putD Dsv23 vs [] b0).eval (.tmp 6) = .pointer (some ⟨gt, 0, none⟩) := (Roll.eval_old rfl).trans (hlv.at 0 (6, .pointer (some ⟨gt, 0, none⟩)) rfl)
                  clear hp hlv hN
                  unfold Roll.Goes
                  simp only [Lsv23, List.getD_cons_zero, List.getD_cons_succ]
                  generalize Roll.putD Dsv23 vs [] b0 = a1 at *
                  refine Roll.goes_val (w' := p) (.pointer (some ⟨gt, 0, none⟩)) rfl ?_ ⟨(Roll.outw_pure (by decide) rfl), rfl⟩
                  (have ec : ∀ x, a1.eval (.const x) = x := fun _ => rfl); (have ef : ∀ x, a1.eval (.func x) = .func (.func x) #[] #[] := fun _ => rfl); generalize a1.eval = ρ at *
                  skip
                  go_simp <;> (intros; first | (exfalso; omega) | rfl)
                · intro vs p hI0 hp
                  have hI := Roll.inw_pure (by decide) rfl hI0
                  clear hI0
                  have h8 : (vs 8) = .pointer (some ⟨gt, 0, none⟩) := hp 8 (by simp [Lsv23])
                  have e97 : (Roll.putD Dsv23 vs [8] b0).eval (.tmp 97) = .pointer (some ⟨gt, 0, none⟩) := (Roll.eval_new 8 rfl (by decide) (by decide) (by omega)).trans h8
                  clear hp hlv hN
                  unfold Roll.Goes
                  simp only [Lsv23, List.getD_cons_zero, List.getD_cons_succ]
                  generalize Roll.putD Dsv23 vs [8] b0 = a1 at *
                  refine Roll.goes_val (w' := p) (.pointer (some ⟨gt, 0, none⟩)) rfl ?_ ⟨(Roll.outw_pure (by decide) rfl), rfl⟩
                  (have ec : ∀ x, a1.eval (.const x) = x := fun _ => rfl); (have ef : ∀ x, a1.eval (.func x) = .func (.func x) #[] #[] := fun _ => rfl); generalize a1.eval = ρ at *
                  clear h8
                  go_simp <;> (intros; first | (exfalso; omega) | rfl)
                · intro vs p hI0 hp
                  have hI := Roll.inw_pure (by decide) rfl hI0
                  clear hI0
                  have h9 : (vs 9) = .pointer (some ⟨gt, 0, none⟩) := hp 9 (by simp [Lsv23])
                  have e98 : (Roll.putD Dsv23 vs [9] b0).eval (.tmp 98) = .pointer (some ⟨gt, 0, none⟩) := (Roll.eval_new 9 rfl (by decide) (by decide) (by omega)).trans h9
                  clear hp hlv hN
                  unfold Roll.Goes
                  simp only [Lsv23, List.getD_cons_zero, List.getD_cons_succ]
                  generalize Roll.putD Dsv23 vs [9] b0 = a1 at *
                  refine Roll.goes_val (w' := p) (.pointer (some ⟨gt, 0, none⟩)) rfl ?_ ⟨(Roll.outw_pure (by decide) rfl), rfl⟩
                  (have ec : ∀ x, a1.eval (.const x) = x := fun _ => rfl); (have ef : ∀ x, a1.eval (.func x) = .func (.func x) #[] #[] := fun _ => rfl); generalize a1.eval = ρ at *
                  clear h9
                  go_simp <;> (intros; first | (exfalso; omega) | rfl)
                · intro vs p hI0 hp
                  have hI := Roll.inw_pure (by decide) rfl hI0
                  clear hI0
                  have h10 : (vs 10) = .pointer (some ⟨gt, 0, none⟩) := hp 10 (by simp [Lsv23])
                  have e99 : (Roll.putD Dsv23 vs [10] b0).eval (.tmp 99) = .pointer (some ⟨gt, 0, none⟩) := (Roll.eval_new 10 rfl (by decide) (by decide) (by omega)).trans h10
                  clear hp hlv hN
                  unfold Roll.Goes
                  simp only [Lsv23, List.getD_cons_zero, List.getD_cons_succ]
                  generalize Roll.putD Dsv23 vs [10] b0 = a1 at *
                  have cf : p.cell? ⟨gt, 0, none⟩ = some (.slice (some ⟨gs, so, none⟩) SN co) := (hI.cell (p := ⟨gt, 0, none⟩) G1u.out).trans CVu.out
                  refine Roll.goes_val (w' := p) (.slice (some ⟨gs, so, none⟩) SN co) rfl ?_ ⟨(Roll.outw_pure (by decide) rfl), rfl⟩
                  (have ec : ∀ x, a1.eval (.const x) = x := fun _ => rfl); (have ef : ∀ x, a1.eval (.func x) = .func (.func x) #[] #[] := fun _ => rfl); generalize a1.eval = ρ at *
                  clear h10
                  go_simp <;> (intros; first | (exfalso; omega) | rfl)
                · intro vs p hI0 hp
                  have hI := Roll.inw_pure (by decide) rfl hI0
                  clear hI0
                  have e8 : (Roll.putD Dsv23 vs [] b0).eval (.tmp 8) = .int .i64 (k : Int) := (Roll.eval_old rfl).trans (hlv.at 1 (8, .int .i64 (k : Int)) rfl)
                  clear hp hlv hN
                  unfold Roll.Goes
                  simp only [Lsv23, List.getD_cons_zero, List.getD_cons_succ]
                  generalize Roll.putD Dsv23 vs [] b0 = a1 at *
                  refine Roll.goes_val (w' := p) (.int .i64 (k : Int)) rfl ?_ ⟨(Roll.outw_pure (by decide) rfl), rfl⟩
                  (have ec : ∀ x, a1.eval (.const x) = x := fun _ => rfl); (have ef : ∀ x, a1.eval (.func x) = .func (.func x) #[] #[] := fun _ => rfl); generalize a1.eval = ρ at *
                  skip
                  go_simp <;> (intros; first | (exfalso; omega) | rfl)
                · intro vs p hI0 hp
                  have hI := Roll.inw_pure (by decide) rfl hI0
                  clear hI0
                  have h11 : (vs 11) = .slice (some ⟨gs, so, none⟩) SN co := hp 11 (by simp [Lsv23])
                  have h12 : (vs 12) = .int .i64 (k : Int) := hp 12 (by simp [Lsv23])
                  have e100 : (Roll.putD Dsv23 vs [11, 12] b0).eval (.tmp 100) = .slice (some ⟨gs, so, none⟩) SN co := (Roll.eval_new 11 rfl (by decide) (by decide) (by omega)).trans h11
                  have e101 : (Roll.putD Dsv23 vs [11, 12] b0).eval (.tmp 101) = .int .i64 (k : Int) := (Roll.eval_new 12 rfl (by decide) (by decide) (by omega)).trans h12
                  clear hp hlv hN
                  unfold Roll.Goes
                  simp only [Lsv23, List.getD_cons_zero, List.getD_cons_succ]
                  generalize Roll.putD Dsv23 vs [11, 12] b0 = a1 at *
                  have hkn := HKN.out
                  have hkn2 : (k : Int) < (SN : Int) := by omega
                  have hco := HCO.out
                  refine Roll.goes_val (w' := p) (.pointer (some ⟨gs, so + k, none⟩)) rfl ?_ ⟨(Roll.outw_pure (by decide) rfl), rfl⟩
                  (have ec : ∀ x, a1.eval (.const x) = x := fun _ => rfl); (have ef : ∀ x, a1.eval (.func x) = .func (.func x) #[] #[] := fun _ => rfl); generalize a1.eval = ρ at *
                  clear h11 h12
                  go_simp <;> (intros; first | (exfalso; omega) | rfl)
                · intro vs p hI0 hp
                  have hI := Roll.inw_pure (by decide) rfl hI0
                  clear hI0
                  have h13 : (vs 13) = .pointer (some ⟨gs, so + k, none⟩) := hp 13 (by simp [Lsv23])
                  have e102 : (Roll.putD Dsv23 vs [13] b0).eval (.tmp 102) = .pointer (some ⟨gs, so + k, none⟩) := (Roll.eval_new 13 rfl (by decide) (by decide) (by omega)).trans h13
                  clear hp hlv hN
                  unfold Roll.Goes
                  simp only [Lsv23, List.getD_cons_zero, List.getD_cons_succ]
                  generalize Roll.putD Dsv23 vs [13] b0 = a1 at *
                  have cf : p.cell? ⟨gs, so + k, none⟩ = some (.slice (some ⟨rk, ro, none⟩) sl rc) := (hI.cell (p := ⟨gs, so + k, none⟩) G2u.out).trans CKu.out
                  refine Roll.goes_val (w' := p) (.slice (some ⟨rk, ro, none⟩) sl rc) rfl ?_ ⟨(Roll.outw_pure (by decide) rfl), rfl⟩
                  (have ec : ∀ x, a1.eval (.const x) = x := fun _ => rfl); (have ef : ∀ x, a1.eval (.func x) = .func (.func x) #[] #[] := fun _ => rfl); generalize a1.eval = ρ at *
                  clear h13
                  go_simp <;> (intros; first | (exfalso; omega) | rfl)
                · intro vs p hI0 hp
                  have hI := Roll.inw_pure (by decide) rfl hI0
                  clear hI0
                  have h14 : (vs 14) = .slice (some ⟨rk, ro, none⟩) sl rc := hp 14 (by simp [Lsv23])
                  have e103 : (Roll.putD Dsv23 vs [14] b0).eval (.tmp 103) = .slice (some ⟨rk, ro, none⟩) sl rc := (Roll.eval_new 14 rfl (by decide) (by decide) (by omega)).trans h14
                  clear hp hlv hN
                  unfold Roll.Goes
                  simp only [Lsv23, List.getD_cons_zero, List.getD_cons_succ]
                  generalize Roll.putD Dsv23 vs [14] b0 = a1 at *
                  refine Roll.goes_val (w' := p) (.int .i64 (sl : Int)) rfl ?_ ⟨(Roll.outw_pure (by decide) rfl), rfl⟩
                  (have ec : ∀ x, a1.eval (.const x) = x := fun _ => rfl); (have ef : ∀ x, a1.eval (.func x) = .func (.func x) #[] #[] := fun _ => rfl); generalize a1.eval = ρ at *
                  clear h14
                  go_simp <;> (intros; first | (exfalso; omega) | rfl)
                · intro vs p hI0 hp
                  have hI := Roll.inw_pure (by decide) rfl hI0
                  clear hI0
                  have h15 : (vs 15) = .int .i64 (sl : Int) := hp 15 (by simp [Lsv23])
                  have e104 : (Roll.putD Dsv23 vs [15] b0).eval (.tmp 104) = .int .i64 (sl : Int) := (Roll.eval_new 15 rfl (by decide) (by decide) (by omega)).trans h15
                  clear hp hlv hN
                  unfold Roll.Goes
                  simp only [Lsv23, List.getD_cons_zero, List.getD_cons_succ]
                  generalize Roll.putD Dsv23 vs [15] b0 = a1 at *
                  have hws := HWS.out
                  refine Roll.goes_val (w' := p) (.int .i64 (s1 : Int)) rfl ?_ ⟨(Roll.outw_pure (by decide) rfl), rfl⟩
                  (have ec : ∀ x, a1.eval (.const x) = x := fun _ => rfl); (have ef : ∀ x, a1.eval (.func x) = .func (.func x) #[] #[] := fun _ => rfl); generalize a1.eval = ρ at *
                  clear h15
                  go_simp <;> (intros; first | (exfalso; omega) | rfl)
                · intro vs p hI0 hp
                  have hI := Roll.inw_pure (by decide) rfl hI0
                  clear hI0
                  have h7 : (vs 7) = .slice (some ⟨rk, ro, none⟩) sl rc := hp 7 (by simp [Lsv23])
                  have h16 : (vs 16) = .int .i64 (s1 : Int) := hp 16 (by simp [Lsv23])
                  have e96 : (Roll.putD Dsv23 vs [7, 16] b0).eval (.tmp 96) = .slice (some ⟨rk, ro, none⟩) sl rc := (Roll.eval_new 7 rfl (by decide) (by decide) (by omega)).trans h7
                  have e105 : (Roll.putD Dsv23 vs [7, 16] b0).eval (.tmp 105) = .int .i64 (s1 : Int) := (Roll.eval_new 16 rfl (by decide) (by decide) (by omega)).trans h16
                  clear hp hlv hN
                  unfold Roll.Goes
                  simp only [Lsv23, List.getD_cons_zero, List.getD_cons_succ]
                  generalize Roll.putD Dsv23 vs [7, 16] b0 = a1 at *
                  have hjn := HS1.out
                  have hrc := HRC.out
                  refine Roll.goes_val (w' := p) (.pointer (some ⟨rk, ro + s1, none⟩)) rfl ?_ ⟨(Roll.outw_pure (by decide) rfl), rfl⟩
                  (have ec : ∀ x, a1.eval (.const x) = x := fun _ => rfl); (have ef : ∀ x, a1.eval (.func x) = .func (.func x) #[] #[] := fun _ => rfl); generalize a1.eval = ρ at *
                  clear h7 h16
                  go_simp <;> (intros; first | (exfalso; omega) | rfl)
                · intro vs p hI0 hp
                  have hI := Roll.inw_pure (by decide) rfl hI0
                  clear hI0
                  have h17 : (vs 17) = .pointer (some ⟨rk, ro + s1, none⟩) := hp 17 (by simp [Lsv23])
                  have e106 : (Roll.putD Dsv23 vs [17] b0).eval (.tmp 106) = .pointer (some ⟨rk, ro + s1, none⟩) := (Roll.eval_new 17 rfl (by decide) (by decide) (by omega)).trans h17
                  clear hp hlv hN
                  unfold Roll.Goes
                  simp only [Lsv23, List.getD_cons_zero, List.getD_cons_succ]
                  generalize Roll.putD Dsv23 vs [17] b0 = a1 at *
                  have cf : p.cell? ⟨rk, ro + s1, none⟩ = some (.slice aj 64 cj) := (hI.cell (p := ⟨rk, ro + s1, none⟩) G3u.out).trans CJ.out
                  refine Roll.goes_val (w' := p) (.slice aj 64 cj) rfl ?_ ⟨(Roll.outw_pure (by decide) rfl), rfl⟩
                  (have ec : ∀ x, a1.eval (.const x) = x := fun _ => rfl); (have ef : ∀ x, a1.eval (.func x) = .func (.func x) #[] #[] := fun _ => rfl); generalize a1.eval = ρ at *
                  clear h17
                  go_simp <;> (intros; first | (exfalso; omega) | rfl)
                · intro vs p hI0 hp
                  have hI := Roll.inw_pre (by decide) rfl hI0
                  clear hI0
                  have h0 : (vs 0) = .slice (some ⟨gb, 0, none⟩) 64 64 := hp 0 (by simp [Lsv23])
                  have h18 : (vs 18) = .slice aj 64 cj := hp 18 (by simp [Lsv23])
                  have e89 : (Roll.putD Dsv23 vs [0, 18] b0).eval (.tmp 89) = .slice (some ⟨gb, 0, none⟩) 64 64 := (Roll.eval_new 0 rfl (by decide) (by decide) (by omega)).trans h0
                  have e107 : (Roll.putD Dsv23 vs [0, 18] b0).eval (.tmp 107) = .slice aj 64 cj := (Roll.eval_new 18 rfl (by decide) (by decide) (by omega)).trans h18
                  clear hp hlv hN
                  unfold Roll.Goes
                  simp only [Lsv23, List.getD_cons_zero, List.getD_cons_succ]
                  generalize Roll.putD Dsv23 vs [0, 18] b0 = a1 at *
                  refine Roll.goes_call 22 #[.slice (some ⟨gb, 0, none⟩) 64 64, .slice aj 64 cj] p rfl (by have ec : ∀ x, a1.eval (.const x) = x := fun _ => rfl; have ef : ∀ x, a1.eval (.func x) = .func (.func x) #[] #[] := fun _ => rfl; generalize a1.eval = ρ at *; go_simp) ?_
                  refine (sameBytes_any _ _ (some ⟨gb, 0, none⟩) 64 64 bk aj 64 cj bk p (HBB.out.kept (Kept.of_below (fun _ => False) hI) (fun _ _ _ h => h)) (HBJ.out.kept (Kept.of_below (fun _ => False) hI) (fun _ _ _ h => h))).mono ?_
                  rintro y p2 ⟨rfl, rfl⟩
                  exact ⟨_, rfl, Roll.outw_pre (by decide) rfl hI (Kept.refl _ _), by show Value.bool _ = _; rw [beq_self_eq_true]⟩
                · intro vs p hI0 hp
                  have hI := Roll.inw_k0 rfl hI0
                  clear hI0
                  have h19 : (vs 19) = .bool true := hp 19 (by simp [Lsv23])
                  have e108 : (Roll.putD Dsv23 vs [19] b0).eval (.tmp 108) = .bool true := (Roll.eval_new 19 rfl (by decide) (by decide) (by omega)).trans h19
                  clear hp hlv hN
                  unfold Roll.Goes
                  simp only [Lsv23, List.getD_cons_zero, List.getD_cons_succ]
                  generalize Roll.putD Dsv23 vs [19] b0 = a1 at *
                  refine Roll.goes_val (w' := p) (.bool false) rfl (by have ec : ∀ x, a1.eval (.const x) = x := fun _ => rfl; have ef : ∀ x, a1.eval (.func x) = .func (.func x) #[] #[] := fun _ => rfl; generalize a1.eval = ρ at *; go_simp <;> (intros; first | (exfalso; omega) | rfl)) ⟨Roll.outw_k0 rfl hI (Kept.refl _ _), rfl⟩
              · intro vs p hI hR
                have h0 : (vs 0) = .slice (some ⟨gb, 0, none⟩) 64 64 := hR 0 (by omega)
                have h1 : (vs 1) = .pointer (some ⟨gt, 0, none⟩) := hR 1 (by omega)
                have h2 : (vs 2) = .pointer (some ⟨gt, 0, none⟩) := hR 2 (by omega)
                have h3 : (vs 3) = .pointer (some ⟨gt, 0, none⟩) := hR 3 (by omega)
                have h4 : (vs 4) = .slice (some ⟨gs, so, none⟩) SN co := hR 4 (by omega)
                have h5 : (vs 5) = .int .i64 (k : Int) := hR 5 (by omega)
                have h6 : (vs 6) = .pointer (some ⟨gs, so + k, none⟩) := hR 6 (by omega)
                have h7 : (vs 7) = .slice (some ⟨rk, ro, none⟩) sl rc := hR 7 (by omega)
                have h8 : (vs 8) = .pointer (some ⟨gt, 0, none⟩) := hR 8 (by omega)
                have h9 : (vs 9) = .pointer (some ⟨gt, 0, none⟩) := hR 9 (by omega)
                have h10 : (vs 10) = .pointer (some ⟨gt, 0, none⟩) := hR 10 (by omega)
                have h11 : (vs 11) = .slice (some ⟨gs, so, none⟩) SN co := hR 11 (by omega)
                have h12 : (vs 12) = .int .i64 (k : Int) := hR 12 (by omega)
                have h13 : (vs 13) = .pointer (some ⟨gs, so + k, none⟩) := hR 13 (by omega)
                have h14 : (vs 14) = .slice (some ⟨rk, ro, none⟩) sl rc := hR 14 (by omega)
                have h15 : (vs 15) = .int .i64 (sl : Int) := hR 15 (by omega)
                have h16 : (vs 16) = .int .i64 (s1 : Int) := hR 16 (by omega)
                have h17 : (vs 17) = .pointer (some ⟨rk, ro + s1, none⟩) := hR 17 (by omega)
                have h18 : (vs 18) = .slice aj 64 cj := hR 18 (by omega)
                have h19 : (vs 19) = .bool true := hR 19 (by omega)
                have h20 : (vs 20) = .bool false := hR 20 (by omega)
                clear hR
                simp only [List.range_succ, List.range_zero, List.nil_append, List.cons_append, Roll.putD, Act.put, List.getD_cons_zero, List.getD_cons_succ, List.setIfInBounds_toArray, List.set_cons_zero, List.set_cons_succ, List.drop_succ_cons, List.drop_zero, Dsv23]
                simp only [h0, h1, h2, h3, h4, h5, h6, h7, h8, h9, h10, h11, h12, h13, h14, h15, h16, h17, h18, h19, h20]
                clear h0 h1 h2 h3 h4 h5 h6 h7 h8 h9 h10 h11 h12 h13 h14 h15 h16 h17 h18 h19 h20
                have HPB := Lib.hid hI
                clear hI
                go_wp2_with fail
                go_roundw
                case rel => exact ⟨k + 1, by omega, by go_num, HL.out.below (HBL.out.trans (HPB.out.mono HBL.out.size))⟩
                case measure => simp [intOf]; omega
            · obtain rfl : k = SN := by omega
              obtain ⟨_, ⟨gso, vo, row, Bf, hT, _⟩, _, _, _⟩ := HL.out.get (i := 0) rfl
              obtain ⟨xs, hx, _⟩ := hT.outer
              rw [HTL.out] at hx
              obtain ⟨gs, so, co, _, rfl, f1, f2, _, _⟩ := hx.at hsn1
              have cV0 : q.cell? ⟨gt, 0, none⟩ = some (.slice (some ⟨gs, so, none⟩) k co) := by rw [cell_of_row q gt 0 _ _ _ hT.self]; simp [HTL.out]
              clear hT hx
              go_wp2_with fail
              go_roundw
              case rel => exact ⟨i + 1, D1, by omega, by omega, by go_num, HL.out, HO1.out, HF1.out, HS1L.out, HK1.out⟩
              case measure => simp [intOf]; omega
        · have Hr : Hid (around m.kind 4 = 3) := Lib.hid hr
          clear hr hrb
          go_upto_region 17 with (first
            | (go_at_call 14; refine (around_any m.kind 4 _ hm0.1 hm0.2 (by omega) (by omega)).mono ?_; rintro e w2 ⟨rfl, rfl⟩; rw [Hr.out])
            | (have hL := HL.out; go_at_call 27; refine (restart_lv hL (i := 1) (d := d) rfl (HMT.out.kept (Kept.of_below (fun x => w0.heap.size ≤ x) hL.args) (fun x hx _ h => by omega)) (.inl (fun x hx => hx))).mono ?_; rintro e w3 ⟨rfl, hl⟩; have HL3 : Hid (Lv w0 w3 [trackO 55 [] gt d.S, diskO g (d.restart m.l)]) := Lib.hid hl; clear hl hL))
          obtain ⟨D1, hD1⟩ : ∃ D1, D1 = d.restart m.l := ⟨_, rfl⟩
          rw [← hD1] at HL3
          have HO1 : Hid (D1.on = true) := Lib.hid (by rw [hD1]; exact rfl)
          have HF1 : Hid (D1.fuse = 0) := Lib.hid (by rw [hD1]; exact rfl)
          have HS1L : Hid (D1.S.length = SN) := Lib.hid (by rw [hD1]; exact (restart_len d m.l).trans HSL.out)
          have HK1 : Hid (D1.Ok (i + 1)) := Lib.hid (by rw [hD1]; exact (DM.restart_ok HOKi.out m.l).mono (by omega))
          have HLx := HL3
          have HDR := Lib.hid hD1
          clear hD1 HL cK
          have HTN0 : Hid (∀ s ∈ d.S, 0 < s.length ∧ s.length ≤ 100000) := Lib.hid (fun s hs => ⟨List.length_pos_iff.2 (HOKi.out.2.2.2 s hs).1, by have := (HOKi.out.2.2.2 s hs).2.1; omega⟩)
          have HTN1 : Hid (∀ s ∈ D1.S, 0 < s.length ∧ s.length ≤ 100000) := Lib.hid (fun s hs => ⟨List.length_pos_iff.2 (HK1.out.2.2.2 s hs).1, by have := (HK1.out.2.2.2 s hs).2.1; omega⟩)
          go_loopw [8] (fun t wr => ∃ k : Nat, k ≤ SN ∧ t = .int .i64 (k : Int) ∧ Lv w0 wr [trackO 55 [] gt (mixR D1.S d.S k), diskO g D1]) (fun t _ => SN - (intOf t).toNat)
          case atStart => exact ⟨0, Nat.zero_le _, rfl, by simpa [mixR] using HLx.out⟩
          case round =>
            obtain ⟨k, hk, rfl, hL⟩ := hrel
            have HL := Lib.hid hL
            clear hL HLx
            rename World => q
            obtain ⟨TS, hTS⟩ : ∃ TS, TS = mixR D1.S d.S k := ⟨_, rfl⟩
            have HTL : Hid (TS.length = SN) := Lib.hid (by rw [hTS, mixR_len _ _ _ (HS1L.out.trans HSL.out.symm) (by rw [HSL.out]; exact hk)]; exact HSL.out)
            have HTN : Hid (∀ s ∈ TS, 0 < s.length ∧ s.length ≤ 100000) := Lib.hid (fun s hs => by
              rw [hTS] at hs
              rcases List.mem_append.1 hs with hs | hs
              · exact HTN1.out s (List.mem_of_mem_take hs)
              · exact HTN0.out s (List.mem_of_mem_drop hs))
            rw [← hTS] at HL
            have HTS := Lib.hid hTS
            clear hTS
            by_cases hlk : k < SN
            · have hlk2 : (k : Int) < (SN : Int) := by omega
              have hwk : IntKind.i64.wrap ((k : Int) + 1) = (k : Int) + 1 := i64_id _ (by omega) (by omega)
              have HKD : Hid (k < D1.S.length) := Lib.hid (by rw [HS1L.out]; exact hlk)
              have HKO : Hid (k < d.S.length) := Lib.hid (by rw [HSL.out]; exact hlk)
              have HKN : Hid (k < SN) := Lib.hid hlk
              have HKS : Hid (k < TS.length) := Lib.hid (by rw [HTL.out]; exact hlk)
              obtain ⟨B, ⟨gso, vo, row, Bf, hT, hTB⟩, hblt, _, hset⟩ := HL.out.get (i := 0) rfl
              have hsp := HTN.out _ (List.getElem_mem HKS.out)
              obtain ⟨gs, so, co, ro, rc, rfl, rfl, f1, f2, f3, f4, f5, f6, f7, f8, f9⟩ := hT.look HKS.out hsp.1
              obtain ⟨sk, hsk⟩ : ∃ sk, sk = TS[k]'HKS.out := ⟨_, rfl⟩
              clear f9
              rw [← hsk] at f2 f7 f8 hsp
              have HSK := Lib.hid hsk
              obtain ⟨rk, hrk⟩ : ∃ rk, row k = rk := ⟨_, rfl⟩
              obtain ⟨sl, hsl⟩ : ∃ sl, sk.length = sl := ⟨_, rfl⟩
              obtain ⟨ys, hys, hyj⟩ := f8
              rw [hrk, hsl] at f7
              rw [HTL.out] at f6 f1
              rw [hsl] at f2 hsp
              rw [hrk] at f5 hys
              rw [hsl] at hys
              have HT := Lib.hid hT
              have HTB := Lib.hid hTB
              have HSET := Lib.hid hset
              have HRR := Lib.hid hrk
              have HSL8 := Lib.hid hsl
              have HYS := Lib.hid hys
              have HCO := Lib.hid f1
              have HRC := Lib.hid f2
              have HSP := Lib.hid hsp
              have HGT := Lib.hid f3
              have HGSQ := Lib.hid f4
              have HRKQ := Lib.hid f5
              have CV := Lib.hid f6
              have CK := Lib.hid f7
              have cV0 := f6
              have HJ : Hid (∀ j (hj : j < sk.length), ∃ a c, q.cell? ⟨rk, ro + j, none⟩ = some (.slice a 64 c) ∧ Bs Bf q a 64 c sk[j]) := Lib.hid (fun j hj => by
                obtain ⟨a, c, e1, e2⟩ := hyj j hj
                obtain ⟨r', ro', rc', e3, e4, _, _, _, e5⟩ := hys.at (by omega)
                cases e3; cases e4
                have hjl : j < ys.length := by rw [hys.1]; omega
                have e6 := e5 j hjl
                rw [List.getElem?_eq_getElem hjl] at e1
                rw [Option.some.inj e1] at e6
                exact ⟨a, c, e6, e2⟩)
              have HNE : Hid (¬ gt = rk ∧ ¬ gs = rk ∧ ¬ Bf gs) := Lib.hid ⟨fun e => (hT.ap2 k HKS.out).1 (hrk.trans e.symm), fun e => (hT.ap2 k HKS.out).2 (by rw [e, hrk]), hT.bf.2.1 gs rfl⟩
              have FK : Hid (∀ j, q.frozen? ⟨gs, j, none⟩ = false) := Lib.hid (by obtain ⟨xs, hx, _⟩ := hT.outer; exact hx.frozen)
              clear hT hTB hblt hset hsp f1 f2 f3 f4 f5 f6 f7 hsk hrk hsl hys hyj
              go_upto_region 20 with (first
                | (have hL := HL.out; go_at_call 21; refine (read_nb hL (i := 1) (d := D1) rfl k HKD.out HO1.out).mono ?_; rintro e u0 ⟨gb, rfl, hgb, hbb, hbl⟩; have HGB0 := Lib.hid hgb; have HBB0 := Lib.hid hbb; have HBL0 := Lib.hid hbl; clear hgb hbb hbl hL))
              rename World => u
              obtain ⟨bk, hbk⟩ : ∃ bk, bk = lastB (D1.S[k]'HKD.out) := ⟨_, rfl⟩
              rw [← hbk] at HBB0
              have HBK := Lib.hid hbk
              have HGB : Hid (q.heap.size ≤ gb) := HGB0
              have HBB : Hid (Bs (fun b => b = gb) u (some ⟨gb, 0, none⟩) 64 64 bk) := HBB0
              have HBL : Hid (Below q.heap.size q u) := HBL0
              have cKu : u.cell? ⟨b, ob, none⟩ = some (.int .i64 m.kind) := HCK.out u (HL.out.args.trans (HBL.out.mono HL.out.size))
              clear hbk
              have G1u : Hid (gt < u.heap.size) := Lib.hid (Nat.lt_of_lt_of_le HGT.out (HBL.out).size)
              have G2u : Hid (gs < u.heap.size) := Lib.hid (Nat.lt_of_lt_of_le HGSQ.out (HBL.out).size)
              have G3u : Hid (rk < u.heap.size) := Lib.hid (Nat.lt_of_lt_of_le HRKQ.out (HBL.out).size)
              have CVu : Hid (u.cell? ⟨gt, 0, none⟩ = some (.slice (some ⟨gs, so, none⟩) SN co)) := Lib.hid (((HBL.out).cell (p := ⟨gt, 0, none⟩) HGT.out).trans CV.out)
              have CKu : Hid (u.cell? ⟨gs, so + k, none⟩ = some (.slice (some ⟨rk, ro, none⟩) sl rc)) := Lib.hid (((HBL.out).cell (p := ⟨gs, so + k, none⟩) HGSQ.out).trans CK.out)
              have HSKD : Hid (sk = d.S[k]'HKO.out) := Lib.hid (by
                have e := mixR_get D1.S d.S k (HS1L.out.trans HSL.out.symm) HKO.out
                rw [← HTS.out, List.getElem?_eq_getElem HKS.out] at e
                rw [HSK.out]; exact Option.some.inj e)
              have HHIT : Hid (Hit bk sk sl) := Lib.hid (by
                have hs0 := HOKi.out.2.2.2 _ (List.getElem_mem HKO.out)
                have h0 := HDR.out
                subst h0
                rw [← HSL8.out, HSKD.out, HBK.out]
                exact hit_restart d m.l k HKO.out HKD.out hs0.1 hs0.2.2)
              obtain ⟨a0, c0, hc0, hb0⟩ := HJ.out 0 (by rw [HSL8.out]; exact HSP.out.1)
              obtain ⟨b0, hb00⟩ : ∃ b0, b0 = sk[0]'(by rw [HSL8.out]; exact HSP.out.1) := ⟨_, rfl⟩
              rw [← hb00] at hb0
              have HB00 : Hid (sk.getD 0 [] = b0) := Lib.hid (by rw [hb00, List.getD_eq_getElem?_getD, List.getElem?_eq_getElem (by rw [HSL8.out]; exact HSP.out.1)]; rfl)
              have HB0 : Hid (Bs Bf u a0 64 c0 b0) := Lib.hid (hb0.kept (Kept.of_below (fun _ => False) HBL.out) (fun _ _ _ h => h))
              have cJ0 : u.cell? ⟨rk, ro, none⟩ = some (.slice a0 64 c0) := (HBL.out.cell (p := ⟨rk, ro, none⟩) HRKQ.out).trans (by simpa using hc0)
              have cVu := CVu.out
              have cKu2 := CKu.out
              have hsp1 : 0 < sl := HSP.out.1
              have hsp2 : (0 : Int) < (sl : Int) := by omega
              have hcoo := HCO.out.1
              have hrcc := HRC.out.1
              clear hc0 hb0 hb00 cV0
              have HG9 : Hid True := Lib.hid trivial
              go_upto_region 27 with (first
                | (go_at_call 14; refine (around_any m.kind 4 _ hm0.1 hm0.2 (by omega) (by omega)).mono ?_; rintro e w2 ⟨rfl, rfl⟩; rw [Hr.out])
                | (have x1 := HG9; go_at_call 22; refine (sameBytes_any _ _ (some ⟨gb, 0, none⟩) 64 64 bk a0 64 c0 b0 u HBB.out HB0.out).mono ?_; rintro e u2 ⟨rfl, rfl⟩; clear HG9 x1))
              have HBU : Hid (Below u.heap.size u u) := Lib.hid (Below.refl _ _)
              clear cKu cJ0 cVu cKu2
              go_loopw [11, 12] (fun f t wr => ∃ (j : Nat) (F : Bool), 1 ≤ j ∧ j ≤ sl ∧ f = .bool F ∧ t = .int .i64 (j : Int) ∧ (Hit bk sk j → F = true) ∧ Below u.heap.size u wr) (fun _ t _ => sl - (intOf t).toNat)
              case atStart => exact ⟨1, _, Nat.le_refl _, hsp1, rfl, rfl, fun hh => by rw [hit_one hh, HB00.out]; exact beq_self_eq_true _, HBU.out⟩
              case round =>
                obtain ⟨j, F, hj1, hjl, rfl, rfl, hF, hbv⟩ := hrel
                have HF := Lib.hid hF
                have HBv0 := Lib.hid hbv
                clear hF hbv
                rename World => v
                have HBv : Hid (Below u.heap.size u v) := HBv0
                have HBqv : Hid (Below q.heap.size q v) := Lib.hid (HBL.out.trans (HBv.out.mono HBL.out.size))
                have G1v : Hid (gt < v.heap.size) := Lib.hid (Nat.lt_of_lt_of_le HGT.out (HBqv.out).size)
                have G2v : Hid (gs < v.heap.size) := Lib.hid (Nat.lt_of_lt_of_le HGSQ.out (HBqv.out).size)
                have G3v : Hid (rk < v.heap.size) := Lib.hid (Nat.lt_of_lt_of_le HRKQ.out (HBqv.out).size)
                have CVv : Hid (v.cell? ⟨gt, 0, none⟩ = some (.slice (some ⟨gs, so, none⟩) SN co)) := Lib.hid (((HBqv.out).cell (p := ⟨gt, 0, none⟩) HGT.out).trans CV.out)
                have CKv : Hid (v.cell? ⟨gs, so + k, none⟩ = some (.slice (some ⟨rk, ro, none⟩) sl rc)) := Lib.hid (((HBqv.out).cell (p := ⟨gs, so + k, none⟩) HGSQ.out).trans CK.out)
                have cVv := CVv.out
                have cKv := CKv.out
                by_cases hlj : j < sl
                · have hlj2 : (j : Int) < (sl : Int) := by omega
                  have hwj : IntKind.i64.wrap ((j : Int) + 1) = (j : Int) + 1 := i64_id _ (by omega) (by have := HRC.out.2; omega)
                  obtain ⟨j1, hj1e⟩ : ∃ j1, j = j1 + 1 := ⟨j - 1, by omega⟩
                  have HWS : Hid (IntKind.i64.wrap ((j : Int) - 1) = (j1 : Int)) := Lib.hid (by have := HRC.out; rw [i64_id _ (by omega) (by omega)]; omega)
                  have HJN : Hid (j < sl ∧ (j : Int) < (sl : Int)) := Lib.hid (by omega)
                  have HJ1N : Hid (j1 < sl ∧ (j1 : Int) < (sl : Int)) := Lib.hid (by omega)
                  have hjs : j < sk.length := by rw [HSL8.out]; exact hlj
                  have hj1s : j1 < sk.length := by rw [HSL8.out]; omega
                  obtain ⟨aj, cj, hcj, hbj⟩ := HJ.out j hjs
                  obtain ⟨al, cl, hcl, hbl⟩ := HJ.out j1 hj1s
                  obtain ⟨fj, hfj⟩ : ∃ fj, fj = sk[j] := ⟨_, rfl⟩
                  obtain ⟨lj, hlj3⟩ : ∃ lj, lj = sk[j1] := ⟨_, rfl⟩
                  rw [← hfj] at hbj
                  rw [← hlj3] at hbl
                  have HFJ : Hid (fj = sk.getD j []) := Lib.hid (by rw [hfj, List.getD_eq_getElem?_getD, List.getElem?_eq_getElem hjs]; rfl)
                  have HLJ : Hid (lj = sk.getD (j - 1) []) := Lib.hid (by rw [show j - 1 = j1 by omega, hlj3, List.getD_eq_getElem?_getD, List.getElem?_eq_getElem hj1s]; rfl)
                  have CJ : Hid (v.cell? ⟨rk, ro + j, none⟩ = some (.slice aj 64 cj)) := Lib.hid ((HBqv.out.cell (p := ⟨rk, ro + j, none⟩) HRKQ.out).trans hcj)
                  have CJ1 : Hid (v.cell? ⟨rk, ro + j1, none⟩ = some (.slice al 64 cl)) := Lib.hid ((HBqv.out.cell (p := ⟨rk, ro + j1, none⟩) HRKQ.out).trans hcl)
                  have HBJ : Hid (Bs Bf v aj 64 cj fj) := Lib.hid (hbj.kept (Kept.of_below (fun _ => False) HBqv.out) (fun _ _ _ h => h))
                  have HBJ1 : Hid (Bs Bf v al 64 cl lj) := Lib.hid (hbl.kept (Kept.of_below (fun _ => False) HBqv.out) (fun _ _ _ h => h))
                  have HBBv : Hid (Bs (fun b => b = gb) v (some ⟨gb, 0, none⟩) 64 64 bk) := Lib.hid (HBB.out.kept (Kept.of_below (fun _ => False) HBv.out) (fun _ _ _ h => h))
                  clear hj1e hjs hj1s hcj hbj hcl hbl hfj hlj3
                  go_upto_region 29 with fail
                  clear cVv cKv
                  cases F with
                  | true =>
                    go_quiet (fail)
                    go_wp2_with fail
                    go_roundw
                    case rel => exact ⟨j + 1, true, by omega, by omega, rfl, by go_num, fun _ => rfl, HBv.out.trans ⟨rfl, rfl, rfl, Nat.le_refl _, fun _ _ => rfl⟩⟩
                    case measure => simp [intOf]; omega
                  | false =>
                    refine Roll.region_w 27 170 Dsv29 Lsv29 [(6, .pointer (some ⟨gt, 0, none⟩)), (8, .int .i64 (k : Int)), (9, .slice (some ⟨gb, 0, none⟩) 64 64), (11, .bool false), (12, .int .i64 (j : Int))] 26 [true, true, true, true, true, true, true, true, true, true, true, true, true, true, true, true, true, true, true, true, true, true, true, true, false, true, false] (fun p => Below v.heap.size v p) (fun vv p => Below v.heap.size v p) (fun p => Below v.heap.size v p) (Kept (fun _ => False)) [fun vv p => (vv 0) = .bool false, fun vv p => (vv 1) = .bool false, fun vv p => (vv 2) = .slice (some ⟨gb, 0, none⟩) 64 64, fun vv p => (vv 3) = .pointer (some ⟨gt, 0, none⟩), fun vv p => (vv 4) = .pointer (some ⟨gt, 0, none⟩), fun vv p => (vv 5) = .pointer (some ⟨gt, 0, none⟩), fun vv p => (vv 6) = .slice (some ⟨gs, so, none⟩) SN co, fun vv p => (vv 7) = .int .i64 (k : Int), fun vv p => (vv 8) = .pointer (some ⟨gs, so + k, none⟩), fun vv p => (vv 9) = .slice (some ⟨rk, ro, none⟩) sl rc, fun vv p => (vv 10) = .int .i64 (j : Int), fun vv p => (vv 11) = .pointer (some ⟨rk, ro + j, none⟩), fun vv p => (vv 12) = .slice aj 64 cj, fun vv p => (vv 13) = .pointer (some ⟨gt, 0, none⟩), fun vv p => (vv 14) = .pointer (some ⟨gt, 0, none⟩), fun vv p => (vv 15) = .pointer (some ⟨gt, 0, none⟩), fun vv p => (vv 16) = .slice (some ⟨gs, so, none⟩) SN co, fun vv p => (vv 17) = .int .i64 (k : Int), fun vv p => (vv 18) = .pointer (some ⟨gs, so + k, none⟩), fun vv p => (vv 19) = .slice (some ⟨rk, ro, none⟩) sl rc, fun vv p => (vv 20) = .int .i64 (j : Int), fun vv p => (vv 21) = .int .i64 (j1 : Int), fun vv p => (vv 22) = .pointer (some ⟨rk, ro + j1, none⟩), fun vv p => (vv 23) = .slice al 64 cl, fun vv p => ∃ X : Bool, (vv 24) = .bool X ∧ (Mix bk fj lj → X = true), fun vv p => ∃ X : Bool, (vv 25) = .bool X ∧ (Mix bk fj lj → X = true), fun vv p => ∃ X : Bool, (vv 26) = .bool X ∧ (Mix bk fj lj → X = true)] (by kernel_rfl) (by kernel_rfl) rfl ⟨rfl, rfl, rfl, rfl, rfl, trivial⟩ ((Below.refl _ _).drew) (by decide) (by kernel_rfl) (fun _ h => h) (fun _ _ h => h) (fun _ => Kept.refl _ _) ?_ ?_ ?_
                    · exact ⟨fun _ _ _ _ h => h, fun _ _ _ _ h => h, fun _ _ _ _ h => h, fun _ _ _ _ h => h, fun _ _ _ _ h => h, fun _ _ _ _ h => h, fun _ _ _ _ h => h, fun _ _ _ _ h => h, fun _ _ _ _ h => h, fun _ _ _ _ h => h, fun _ _ _ _ h => h, fun _ _ _ _ h => h, fun _ _ _ _ h => h, fun _ _ _ _ h => h, fun _ _ _ _ h => h, fun _ _ _ _ h => h, fun _ _ _ _ h => h, fun _ _ _ _ h => h, fun _ _ _ _ h => h, fun _ _ _ _ h => h, fun _ _ _ _ h => h, fun _ _ _ _ h => h, fun _ _ _ _ h => h, fun _ _ _ _ h => h, fun _ _ _ _ h => h, fun _ _ _ _ h => h, fun _ _ _ _ h => h, trivial⟩
                    · intro b0 hN hlv
                      refine ⟨?_, ?_, ?_, ?_, ?_, ?_, ?_, ?_, ?_, ?_, ?_, ?_, ?_, ?_, ?_, ?_, ?_, ?_, ?_, ?_, ?_, ?_, ?_, ?_, ?_, ?_, ?_, trivial⟩
                      · intro vs p hI0 hp
                        have hI := Roll.inw_pure (by decide) rfl hI0
                        clear hI0
                        have e11 : (Roll.putD Dsv29 vs [] b0).eval (.tmp 11) = .bool false := (Roll.eval_old rfl).trans (hlv.at 3 (11, .bool false) rfl)
                        clear hp hlv hN
                        unfold Roll.Goes
                        simp only [Lsv29, List.getD_cons_zero, List.getD_cons_succ]
                        generalize Roll.putD Dsv29 vs [] b0 = a1 at *
                        refine Roll.goes_val (w' := p) (.bool false) rfl ?_ ⟨(Roll.outw_pure (by decide) rfl), rfl⟩
                        (have ec : ∀ x, a1.eval (.const x) = x := fun _ => rfl); (have ef : ∀ x, a1.eval (.func x) = .func (.func x) #[] #[] := fun _ => rfl); generalize a1.eval = ρ at *
                        skip
                        go_simp <;> (intros; first | (exfalso; omega) | rfl)
                      · intro vs p hI0 hp
                        have hI := Roll.inw_pure (by decide) rfl hI0
                        clear hI0
                        have h0 : (vs 0) = .bool false := hp 0 (by simp [Lsv29])
                        have e133 : (Roll.putD Dsv29 vs [0] b0).eval (.tmp 133) = .bool false := (Roll.eval_new 0 rfl (by decide) (by decide) (by omega)).trans h0
                        clear hp hlv hN
                        unfold Roll.Goes
                        simp only [Lsv29, List.getD_cons_zero, List.getD_cons_succ]
                        generalize Roll.putD Dsv29 vs [0] b0 = a1 at *
                        refine Roll.goes_val (w' := p) (.bool false) rfl ?_ ⟨(Roll.outw_pure (by decide) rfl), rfl⟩
                        (have ec : ∀ x, a1.eval (.const x) = x := fun _ => rfl); (have ef : ∀ x, a1.eval (.func x) = .func (.func x) #[] #[] := fun _ => rfl); generalize a1.eval = ρ at *
                        clear h0
                        go_simp <;> (intros; first | (exfalso; omega) | rfl)
                      · intro vs p hI0 hp
                        have hI := Roll.inw_pure (by decide) rfl hI0
                        clear hI0
                        have h1 : (vs 1) = .bool false := hp 1 (by simp [Lsv29])
                        have e9 : (Roll.putD Dsv29 vs [1] b0).eval (.tmp 9) = .slice (some ⟨gb, 0, none⟩) 64 64 := (Roll.eval_old rfl).trans (hlv.at 2 (9, .slice (some ⟨gb, 0, none⟩) 64 64) rfl)
                        clear hp hlv hN
                        refine ⟨fun hg => ?_, fun hg => absurd h1 hg⟩
                        clear hg
                        unfold Roll.Goes
                        simp only [Lsv29, List.getD_cons_zero, List.getD_cons_succ]
                        generalize Roll.putD Dsv29 vs [1] b0 = a1 at *
                        refine Roll.goes_val (w' := p) (.slice (some ⟨gb, 0, none⟩) 64 64) rfl ?_ ⟨(Roll.outw_pure (by decide) rfl), rfl⟩
                        (have ec : ∀ x, a1.eval (.const x) = x := fun _ => rfl); (have ef : ∀ x, a1.eval (.func x) = .func (.func x) #[] #[] := fun _ => rfl); generalize a1.eval = ρ at *
                        clear h1
                        go_simp <;> (intros; first | (exfalso; omega) | rfl)
                      · intro vs p hI0 hp
                        have hI := Roll.inw_pure (by decide) rfl hI0
                        clear hI0
                        have h1 : (vs 1) = .bool false := hp 1 (by simp [Lsv29])
                        have e6 : (Roll.putD Dsv29 vs [1] b0).eval (.tmp 6) = .pointer (some ⟨gt, 0, none⟩) := (Roll.eval_old rfl).trans (hlv.at 0 (6, .pointer (some ⟨gt, 0, none⟩)) rfl)
                        clear hp hlv hN
                        refine ⟨fun hg => ?_, fun hg => absurd h1 hg⟩
                        clear hg
                        unfold Roll.Goes
                        simp only [Lsv29, List.getD_cons_zero, List.getD_cons_succ]
                        generalize Roll.putD Dsv29 vs [1] b0 = a1 at *
                        refine Roll.goes_val (w' := p) (.pointer (some ⟨gt, 0, none⟩)) rfl ?_ ⟨(Roll.outw_pure (by decide) rfl), rfl⟩
                        (have ec : ∀ x, a1.eval (.const x) = x := fun _ => rfl); (have ef : ∀ x, a1.eval (.func x) = .func (.func x) #[] #[] := fun _ => rfl); generalize a1.eval = ρ at *
                        clear h1
                        go_simp <;> (intros; first | (exfalso; omega) | rfl)
                      · intro vs p hI0 hp
                        have hI := Roll.inw_pure (by decide) rfl hI0
                        clear hI0
                        have h3 : (vs 3) = .pointer (some ⟨gt, 0, none⟩) := hp 3 (by simp [Lsv29])
                        have h1 : (vs 1) = .bool false := hp 1 (by simp [Lsv29])
                        have e136 : (Roll.putD Dsv29 vs [3, 1] b0).eval (.tmp 136) = .pointer (some ⟨gt, 0, none⟩) := (Roll.eval_new 3 rfl (by decide) (by decide) (by omega)).trans h3
                        clear hp hlv hN
                        refine ⟨fun hg => ?_, fun hg => absurd h1 hg⟩
                        clear hg
                        unfold Roll.Goes
                        simp only [Lsv29, List.getD_cons_zero, List.getD_cons_succ]
                        generalize Roll.putD Dsv29 vs [3, 1] b0 = a1 at *
                        refine Roll.goes_val (w' := p) (.pointer (some ⟨gt, 0, none⟩)) rfl ?_ ⟨(Roll.outw_pure (by decide) rfl), rfl⟩
                        (have ec : ∀ x, a1.eval (.const x) = x := fun _ => rfl); (have ef : ∀ x, a1.eval (.func x) = .func (.func x) #[] #[] := fun _ => rfl); generalize a1.eval = ρ at *
                        clear h3 h1
                        go_simp <;> (intros; first | (exfalso; omega) | rfl)
                      · intro vs p hI0 hp
                        have hI := Roll.inw_pure (by decide) rfl hI0
                        clear hI0
                        have h4 : (vs 4) = .pointer (some ⟨gt, 0, none⟩) := hp 4 (by simp [Lsv29])
                        have h1 : (vs 1) = .bool false := hp 1 (by simp [Lsv29])
                        have e137 : (Roll.putD Dsv29 vs [4, 1] b0).eval (.tmp 137) = .pointer (some ⟨gt, 0, none⟩) := (Roll.eval_new 4 rfl (by decide) (by decide) (by omega)).trans h4
                        clear hp hlv hN
                        refine ⟨fun hg => ?_, fun hg => absurd h1 hg⟩
                        clear hg
                        unfold Roll.Goes
                        simp only [Lsv29, List.getD_cons_zero, List.getD_cons_succ]
                        generalize Roll.putD Dsv29 vs [4, 1] b0 = a1 at *
                        refine Roll.goes_val (w' := p) (.pointer (some ⟨gt, 0, none⟩)) rfl ?_ ⟨(Roll.outw_pure (by decide) rfl), rfl⟩
                        (have ec : ∀ x, a1.eval (.const x) = x := fun _ => rfl); (have ef : ∀ x, a1.eval (.func x) = .func (.func x) #[] #[] := fun _ => rfl); generalize a1.eval = ρ at *
                        clear h4 h1
                        go_simp <;> (intros; first | (exfalso; omega) | rfl)
                      · intro vs p hI0 hp
                        have hI := Roll.inw_pure (by decide) rfl hI0
                        clear hI0
                        have h5 : (vs 5) = .pointer (some ⟨gt, 0, none⟩) := hp 5 (by simp [Lsv29])
                        have h1 : (vs 1) = .bool false := hp 1 (by simp [Lsv29])
                        have e138 : (Roll.putD Dsv29 vs [5, 1] b0).eval (.tmp 138) = .pointer (some ⟨gt, 0, none⟩) := (Roll.eval_new 5 rfl (by decide) (by decide) (by omega)).trans h5
                        clear hp hlv hN
                        refine ⟨fun hg => ?_, fun hg => absurd h1 hg⟩
                        clear hg
                        unfold Roll.Goes
                        simp only [Lsv29, List.getD_cons_zero, List.getD_cons_succ]
                        generalize Roll.putD Dsv29 vs [5, 1] b0 = a1 at *
                        have cf : p.cell? ⟨gt, 0, none⟩ = some (.slice (some ⟨gs, so, none⟩) SN co) := (hI.cell (p := ⟨gt, 0, none⟩) G1v.out).trans CVv.out
                        refine Roll.goes_val (w' := p) (.slice (some ⟨gs, so, none⟩) SN co) rfl ?_ ⟨(Roll.outw_pure (by decide) rfl), rfl⟩
                        (have ec : ∀ x, a1.eval (.const x) = x := fun _ => rfl); (have ef : ∀ x, a1.eval (.func x) = .func (.func x) #[] #[] := fun _ => rfl); generalize a1.eval = ρ at *
                        clear h5 h1
                        go_simp <;> (intros; first | (exfalso; omega) | rfl)
                      · intro vs p hI0 hp
                        have hI := Roll.inw_pure (by decide) rfl hI0
                        clear hI0
                        have h1 : (vs 1) = .bool false := hp 1 (by simp [Lsv29])
                        have e8 : (Roll.putD Dsv29 vs [1] b0).eval (.tmp 8) = .int .i64 (k : Int) := (Roll.eval_old rfl).trans (hlv.at 1 (8, .int .i64 (k : Int)) rfl)
                        clear hp hlv hN
                        refine ⟨fun hg => ?_, fun hg => absurd h1 hg⟩
                        clear hg
                        unfold Roll.Goes
                        simp only [Lsv29, List.getD_cons_zero, List.getD_cons_succ]
                        generalize Roll.putD Dsv29 vs [1] b0 = a1 at *
                        refine Roll.goes_val (w' := p) (.int .i64 (k : Int)) rfl ?_ ⟨(Roll.outw_pure (by decide) rfl), rfl⟩
                        (have ec : ∀ x, a1.eval (.const x) = x := fun _ => rfl); (have ef : ∀ x, a1.eval (.func x) = .func (.func x) #[] #[] := fun _ => rfl); generalize a1.eval = ρ at *
                        clear h1
                        go_simp <;> (intros; first | (exfalso; omega) | rfl)
                      · intro vs p hI0 hp
                        have hI := Roll.inw_pure (by decide) rfl hI0
                        clear hI0
                        have h6 : (vs 6) = .slice (some ⟨gs, so, none⟩) SN co := hp 6 (by simp [Lsv29])
                        have h7 : (vs 7) = .int .i64 (k : Int) := hp 7 (by simp [Lsv29])
                        have h1 : (vs 1) = .bool false := hp 1 (by simp [Lsv29])
                        have e139 : (Roll.putD Dsv29 vs [6, 7, 1] b0).eval (.tmp 139) = .slice (some ⟨gs, so, none⟩) SN co := (Roll.eval_new 6 rfl (by decide) (by decide) (by omega)).trans h6
                        have e140 : (Roll.putD Dsv29 vs [6, 7, 1] b0).eval (.tmp 140) = .int .i64 (k : Int) := (Roll.eval_new 7 rfl (by decide) (by decide) (by omega)).trans h7
                        clear hp hlv hN
                        refine ⟨fun hg => ?_, fun hg => absurd h1 hg⟩
                        clear hg
                        unfold Roll.Goes
                        simp only [Lsv29, List.getD_cons_zero, List.getD_cons_succ]
                        generalize Roll.putD Dsv29 vs [6, 7, 1] b0 = a1 at *
                        have hkn := HKN.out
                        have hkn2 : (k : Int) < (SN : Int) := by omega
                        have hco := HCO.out
                        refine Roll.goes_val (w' := p) (.pointer (some ⟨gs, so + k, none⟩)) rfl ?_ ⟨(Roll.outw_pure (by decide) rfl), rfl⟩
                        (have ec : ∀ x, a1.eval (.const x) = x := fun _ => rfl); (have ef : ∀ x, a1.eval (.func x) = .func (.func x) #[] #[] := fun _ => rfl); generalize a1.eval = ρ at *
                        clear h6 h7 h1
                        go_simp <;> (intros; first | (exfalso; omega) | rfl)
                      · intro vs p hI0 hp
                        have hI := Roll.inw_pure (by decide) rfl hI0
                        clear hI0
                        have h8 : (vs 8) = .pointer (some ⟨gs, so + k, none⟩) := hp 8 (by simp [Lsv29])
                        have h1 : (vs 1) = .bool false := hp 1 (by simp [Lsv29])
                        have e141 : (Roll.putD Dsv29 vs [8, 1] b0).eval (.tmp 141) = .pointer (some ⟨gs, so + k, none⟩) := (Roll.eval_new 8 rfl (by decide) (by decide) (by omega)).trans h8
                        clear hp hlv hN
                        refine ⟨fun hg => ?_, fun hg => absurd h1 hg⟩
                        clear hg
                        unfold Roll.Goes
                        simp only [Lsv29, List.getD_cons_zero, List.getD_cons_succ]
                        generalize Roll.putD Dsv29 vs [8, 1] b0 = a1 at *
                        have cf : p.cell? ⟨gs, so + k, none⟩ = some (.slice (some ⟨rk, ro, none⟩) sl rc) := (hI.cell (p := ⟨gs, so + k, none⟩) G2v.out).trans CKv.out
                        refine Roll.goes_val (w' := p) (.slice (some ⟨rk, ro, none⟩) sl rc) rfl ?_ ⟨(Roll.outw_pure (by decide) rfl), rfl⟩
                        (have ec : ∀ x, a1.eval (.const x) = x := fun _ => rfl); (have ef : ∀ x, a1.eval (.func x) = .func (.func x) #[] #[] := fun _ => rfl); generalize a1.eval = ρ at *
                        clear h8 h1
                        go_simp <;> (intros; first | (exfalso; omega) | rfl)
                      · intro vs p hI0 hp
                        have hI := Roll.inw_pure (by decide) rfl hI0
                        clear hI0
                        have h1 : (vs 1) = .bool false := hp 1 (by simp [Lsv29])
                        have e12 : (Roll.putD Dsv29 vs [1] b0).eval (.tmp 12) = .int .i64 (j : Int) := (Roll.eval_old rfl).trans (hlv.at 4 (12, .int .i64 (j : Int)) rfl)
                        clear hp hlv hN
                        refine ⟨fun hg => ?_, fun hg => absurd h1 hg⟩
                        clear hg
                        unfold Roll.Goes
                        simp only [Lsv29, List.getD_cons_zero, List.getD_cons_succ]
                        generalize Roll.putD Dsv29 vs [1] b0 = a1 at *
                        refine Roll.goes_val (w' := p) (.int .i64 (j : Int)) rfl ?_ ⟨(Roll.outw_pure (by decide) rfl), rfl⟩
                        (have ec : ∀ x, a1.eval (.const x) = x := fun _ => rfl); (have ef : ∀ x, a1.eval (.func x) = .func (.func x) #[] #[] := fun _ => rfl); generalize a1.eval = ρ at *
                        clear h1
                        go_simp <;> (intros; first | (exfalso; omega) | rfl)
                      · intro vs p hI0 hp
                        have hI := Roll.inw_pure (by decide) rfl hI0
                        clear hI0
                        have h9 : (vs 9) = .slice (some ⟨rk, ro, none⟩) sl rc := hp 9 (by simp [Lsv29])
                        have h10 : (vs 10) = .int .i64 (j : Int) := hp 10 (by simp [Lsv29])
                        have h1 : (vs 1) = .bool false := hp 1 (by simp [Lsv29])
                        have e142 : (Roll.putD Dsv29 vs [9, 10, 1] b0).eval (.tmp 142) = .slice (some ⟨rk, ro, none⟩) sl rc := (Roll.eval_new 9 rfl (by decide) (by decide) (by omega)).trans h9
                        have e143 : (Roll.putD Dsv29 vs [9, 10, 1] b0).eval (.tmp 143) = .int .i64 (j : Int) := (Roll.eval_new 10 rfl (by decide) (by decide) (by omega)).trans h10
                        clear hp hlv hN
                        refine ⟨fun hg => ?_, fun hg => absurd h1 hg⟩
                        clear hg
                        unfold Roll.Goes
                        simp only [Lsv29, List.getD_cons_zero, List.getD_cons_succ]
                        generalize Roll.putD Dsv29 vs [9, 10, 1] b0 = a1 at *
                        have hjn := HJN.out
                        have hrc := HRC.out
                        refine Roll.goes_val (w' := p) (.pointer (some ⟨rk, ro + j, none⟩)) rfl ?_ ⟨(Roll.outw_pure (by decide) rfl), rfl⟩
                        (have ec : ∀ x, a1.eval (.const x) = x := fun _ => rfl); (have ef : ∀ x, a1.eval (.func x) = .func (.func x) #[] #[] := fun _ => rfl); generalize a1.eval = ρ at *
                        clear h9 h10 h1
                        go_simp <;> (intros; first | (exfalso; omega) | rfl)
                      · intro vs p hI0 hp
                        have hI := Roll.inw_pure (by decide) rfl hI0
                        clear hI0
                        have h11 : (vs 11) = .pointer (some ⟨rk, ro + j, none⟩) := hp 11 (by simp [Lsv29])
                        have h1 : (vs 1) = .bool false := hp 1 (by simp [Lsv29])
                        have e144 : (Roll.putD Dsv29 vs [11, 1] b0).eval (.tmp 144) = .pointer (some ⟨rk, ro + j, none⟩) := (Roll.eval_new 11 rfl (by decide) (by decide) (by omega)).trans h11
                        clear hp hlv hN
                        refine ⟨fun hg => ?_, fun hg => absurd h1 hg⟩
                        clear hg
                        unfold Roll.Goes
                        simp only [Lsv29, List.getD_cons_zero, List.getD_cons_succ]
                        generalize Roll.putD Dsv29 vs [11, 1] b0 = a1 at *
                        have cf : p.cell? ⟨rk, ro + j, none⟩ = some (.slice aj 64 cj) := (hI.cell (p := ⟨rk, ro + j, none⟩) G3v.out).trans CJ.out
                        refine Roll.goes_val (w' := p) (.slice aj 64 cj) rfl ?_ ⟨(Roll.outw_pure (by decide) rfl), rfl⟩
                        (have ec : ∀ x, a1.eval (.const x) = x := fun _ => rfl); (have ef : ∀ x, a1.eval (.func x) = .func (.func x) #[] #[] := fun _ => rfl); generalize a1.eval = ρ at *
                        clear h11 h1
                        go_simp <;> (intros; first | (exfalso; omega) | rfl)
                      · intro vs p hI0 hp
                        have hI := Roll.inw_pure (by decide) rfl hI0
                        clear hI0
                        have h1 : (vs 1) = .bool false := hp 1 (by simp [Lsv29])
                        have e6 : (Roll.putD Dsv29 vs [1] b0).eval (.tmp 6) = .pointer (some ⟨gt, 0, none⟩) := (Roll.eval_old rfl).trans (hlv.at 0 (6, .pointer (some ⟨gt, 0, none⟩)) rfl)
                        clear hp hlv hN
                        refine ⟨fun hg => ?_, fun hg => absurd h1 hg⟩
                        clear hg
                        unfold Roll.Goes
                        simp only [Lsv29, List.getD_cons_zero, List.getD_cons_succ]
                        generalize Roll.putD Dsv29 vs [1] b0 = a1 at *
                        refine Roll.goes_val (w' := p) (.pointer (some ⟨gt, 0, none⟩)) rfl ?_ ⟨(Roll.outw_pure (by decide) rfl), rfl⟩
                        (have ec : ∀ x, a1.eval (.const x) = x := fun _ => rfl); (have ef : ∀ x, a1.eval (.func x) = .func (.func x) #[] #[] := fun _ => rfl); generalize a1.eval = ρ at *
                        clear h1
                        go_simp <;> (intros; first | (exfalso; omega) | rfl)
                      · intro vs p hI0 hp
                        have hI := Roll.inw_pure (by decide) rfl hI0
                        clear hI0
                        have h13 : (vs 13) = .pointer (some ⟨gt, 0, none⟩) := hp 13 (by simp [Lsv29])
                        have h1 : (vs 1) = .bool false := hp 1 (by simp [Lsv29])
                        have e146 : (Roll.putD Dsv29 vs [13, 1] b0).eval (.tmp 146) = .pointer (some ⟨gt, 0, none⟩) := (Roll.eval_new 13 rfl (by decide) (by decide) (by omega)).trans h13
                        clear hp hlv hN
                        refine ⟨fun hg => ?_, fun hg => absurd h1 hg⟩
                        clear hg
                        unfold Roll.Goes
                        simp only [Lsv29, List.getD_cons_zero, List.getD_cons_succ]
                        generalize Roll.putD Dsv29 vs [13, 1] b0 = a1 at *
                        refine Roll.goes_val (w' := p) (.pointer (some ⟨gt, 0, none⟩)) rfl ?_ ⟨(Roll.outw_pure (by decide) rfl), rfl⟩
                        (have ec : ∀ x, a1.eval (.const x) = x := fun _ => rfl); (have ef : ∀ x, a1.eval (.func x) = .func (.func x) #[] #[] := fun _ => rfl); generalize a1.eval = ρ at *
                        clear h13 h1
                        go_simp <;> (intros; first | (exfalso; omega) | rfl)
                      · intro vs p hI0 hp
                        have hI := Roll.inw_pure (by decide) rfl hI0
                        clear hI0
                        have h14 : (vs 14) = .pointer (some ⟨gt, 0, none⟩) := hp 14 (by simp [Lsv29])
                        have h1 : (vs 1) = .bool false := hp 1 (by simp [Lsv29])
                        have e147 : (Roll.putD Dsv29 vs [14, 1] b0).eval (.tmp 147) = .pointer (some ⟨gt, 0, none⟩) := (Roll.eval_new 14 rfl (by decide) (by decide) (by omega)).trans h14
                        clear hp hlv hN
                        refine ⟨fun hg => ?_, fun hg => absurd h1 hg⟩
                        clear hg
                        unfold Roll.Goes
                        simp only [Lsv29, List.getD_cons_zero, List.getD_cons_succ]
                        generalize Roll.putD Dsv29 vs [14, 1] b0 = a1 at *
                        refine Roll.goes_val (w' := p) (.pointer (some ⟨gt, 0, none⟩)) rfl ?_ ⟨(Roll.outw_pure (by decide) rfl), rfl⟩
                        (have ec : ∀ x, a1.eval (.const x) = x := fun _ => rfl); (have ef : ∀ x, a1.eval (.func x) = .func (.func x) #[] #[] := fun _ => rfl); generalize a1.eval = ρ at *
                        clear h14 h1
                        go_simp <;> (intros; first | (exfalso; omega) | rfl)
                      · intro vs p hI0 hp
                        have hI := Roll.inw_pure (by decide) rfl hI0
                        clear hI0
                        have h15 : (vs 15) = .pointer (some ⟨gt, 0, none⟩) := hp 15 (by simp [Lsv29])
                        have h1 : (vs 1) = .bool false := hp 1 (by simp [Lsv29])
                        have e148 : (Roll.putD Dsv29 vs [15, 1] b0).eval (.tmp 148) = .pointer (some ⟨gt, 0, none⟩) := (Roll.eval_new 15 rfl (by decide) (by decide) (by omega)).trans h15
                        clear hp hlv hN
                        refine ⟨fun hg => ?_, fun hg => absurd h1 hg⟩
                        clear hg
                        unfold Roll.Goes
                        simp only [Lsv29, List.getD_cons_zero, List.getD_cons_succ]
                        generalize Roll.putD Dsv29 vs [15, 1] b0 = a1 at *
                        have cf : p.cell? ⟨gt, 0, none⟩ = some (.slice (some ⟨gs, so, none⟩) SN co) := (hI.cell (p := ⟨gt, 0, none⟩) G1v.out).trans CVv.out
                        refine Roll.goes_val (w' := p) (.slice (some ⟨gs, so, none⟩) SN co) rfl ?_ ⟨(Roll.outw_pure (by decide) rfl), rfl⟩
                        (have ec : ∀ x, a1.eval (.const x) = x := fun _ => rfl); (have ef : ∀ x, a1.eval (.func x) = .func (.func x) #[] #[] := fun _ => rfl); generalize a1.eval = ρ at *
                        clear h15 h1
                        go_simp <;> (intros; first | (exfalso; omega) | rfl)
                      · intro vs p hI0 hp
                        have hI := Roll.inw_pure (by decide) rfl hI0
                        clear hI0
                        have h1 : (vs 1) = .bool false := hp 1 (by simp [Lsv29])
                        have e8 : (Roll.putD Dsv29 vs [1] b0).eval (.tmp 8) = .int .i64 (k : Int) := (Roll.eval_old rfl).trans (hlv.at 1 (8, .int .i64 (k : Int)) rfl)
                        clear hp hlv hN
                        refine ⟨fun hg => ?_, fun hg => absurd h1 hg⟩
                        clear hg
                        unfold Roll.Goes
                        simp only [Lsv29, List.getD_cons_zero, List.getD_cons_succ]
                        generalize Roll.putD Dsv29 vs [1] b0 = a1 at *
                        refine Roll.goes_val (w' := p) (.int .i64 (k : Int)) rfl ?_ ⟨(Roll.outw_pure (by decide) rfl), rfl⟩
                        (have ec : ∀ x, a1.eval (.const x) = x := fun _ => rfl); (have ef : ∀ x, a1.eval (.func x) = .func (.func x) #[] #[] := fun _ => rfl); generalize a1.eval = ρ at *
                        clear h1
                        go_simp <;> (intros; first | (exfalso; omega) | rfl)
                      · intro vs p hI0 hp
                        have hI := Roll.inw_pure (by decide) rfl hI0
                        clear hI0
                        have h16 : (vs 16) = .slice (some ⟨gs, so, none⟩) SN co := hp 16 (by simp [Lsv29])
                        have h17 : (vs 17) = .int .i64 (k : Int) := hp 17 (by simp [Lsv29])
                        have h1 : (vs 1) = .bool false := hp 1 (by simp [Lsv29])
                        have e149 : (Roll.putD Dsv29 vs [16, 17, 1] b0).eval (.tmp 149) = .slice (some ⟨gs, so, none⟩) SN co := (Roll.eval_new 16 rfl (by decide) (by decide) (by omega)).trans h16
                        have e150 : (Roll.putD Dsv29 vs [16, 17, 1] b0).eval (.tmp 150) = .int .i64 (k : Int) := (Roll.eval_new 17 rfl (by decide) (by decide) (by omega)).trans h17
                        clear hp hlv hN
                        refine ⟨fun hg => ?_, fun hg => absurd h1 hg⟩
                        clear hg
                        unfold Roll.Goes
                        simp only [Lsv29, List.getD_cons_zero, List.getD_cons_succ]
                        generalize Roll.putD Dsv29 vs [16, 17, 1] b0 = a1 at *
                        have hkn := HKN.out
                        have hkn2 : (k : Int) < (SN : Int) := by omega
                        have hco := HCO.out
                        refine Roll.goes_val (w' := p) (.pointer (some ⟨gs, so + k, none⟩)) rfl ?_ ⟨(Roll.outw_pure (by decide) rfl), rfl⟩
                        (have ec : ∀ x, a1.eval (.const x) = x := fun _ => rfl); (have ef : ∀ x, a1.eval (.func x) = .func (.func x) #[] #[] := fun _ => rfl); generalize a1.eval = ρ at *
                        clear h16 h17 h1
                        go_simp <;> (intros; first | (exfalso; omega) | rfl)
                      · intro vs p hI0 hp
                        have hI := Roll.inw_pure (by decide) rfl hI0
                        clear hI0
                        have h18 : (vs 18) = .pointer (some ⟨gs, so + k, none⟩) := hp 18 (by simp [Lsv29])
                        have h1 : (vs 1) = .bool false := hp 1 (by simp [Lsv29])
                        have e151 : (Roll.putD Dsv29 vs [18, 1] b0).eval (.tmp 151) = .pointer (some ⟨gs, so + k, none⟩) := (Roll.eval_new 18 rfl (by decide) (by decide) (by omega)).trans h18
                        clear hp hlv hN
                        refine ⟨fun hg => ?_, fun hg => absurd h1 hg⟩
                        clear hg
                        unfold Roll.Goes
                        simp only [Lsv29, List.getD_cons_zero, List.getD_cons_succ]
                        generalize Roll.putD Dsv29 vs [18, 1] b0 = a1 at *
                        have cf : p.cell? ⟨gs, so + k, none⟩ = some (.slice (some ⟨rk, ro, none⟩) sl rc) := (hI.cell (p := ⟨gs, so + k, none⟩) G2v.out).trans CKv.out
                        refine Roll.goes_val (w' := p) (.slice (some ⟨rk, ro, none⟩) sl rc) rfl ?_ ⟨(Roll.outw_pure (by decide) rfl), rfl⟩
                        (have ec : ∀ x, a1.eval (.const x) = x := fun _ => rfl); (have ef : ∀ x, a1.eval (.func x) = .func (.func x) #[] #[] := fun _ => rfl); generalize a1.eval = ρ at *
                        clear h18 h1
                        go_simp <;> (intros; first | (exfalso; omega) | rfl)
                      · intro vs p hI0 hp
                        have hI := Roll.inw_pure (by decide) rfl hI0
                        clear hI0
                        have h1 : (vs 1) = .bool false := hp 1 (by simp [Lsv29])
                        have e12 : (Roll.putD Dsv29 vs [1] b0).eval (.tmp 12) = .int .i64 (j : Int) := (Roll.eval_old rfl).trans (hlv.at 4 (12, .int .i64 (j : Int)) rfl)
                        clear hp hlv hN
                        refine ⟨fun hg => ?_, fun hg => absurd h1 hg⟩
                        clear hg
                        unfold Roll.Goes
                        simp only [Lsv29, List.getD_cons_zero, List.getD_cons_succ]
                        generalize Roll.putD Dsv29 vs [1] b0 = a1 at *
                        refine Roll.goes_val (w' := p) (.int .i64 (j : Int)) rfl ?_ ⟨(Roll.outw_pure (by decide) rfl), rfl⟩
                        (have ec : ∀ x, a1.eval (.const x) = x := fun _ => rfl); (have ef : ∀ x, a1.eval (.func x) = .func (.func x) #[] #[] := fun _ => rfl); generalize a1.eval = ρ at *
                        clear h1
                        go_simp <;> (intros; first | (exfalso; omega) | rfl)
                      · intro vs p hI0 hp
                        have hI := Roll.inw_pure (by decide) rfl hI0
                        clear hI0
                        have h20 : (vs 20) = .int .i64 (j : Int) := hp 20 (by simp [Lsv29])
                        have h1 : (vs 1) = .bool false := hp 1 (by simp [Lsv29])
                        have e153 : (Roll.putD Dsv29 vs [20, 1] b0).eval (.tmp 153) = .int .i64 (j : Int) := (Roll.eval_new 20 rfl (by decide) (by decide) (by omega)).trans h20
                        clear hp hlv hN
                        refine ⟨fun hg => ?_, fun hg => absurd h1 hg⟩
                        clear hg
                        unfold Roll.Goes
                        simp only [Lsv29, List.getD_cons_zero, List.getD_cons_succ]
                        generalize Roll.putD Dsv29 vs [20, 1] b0 = a1 at *
                        have hws := HWS.out
                        refine Roll.goes_val (w' := p) (.int .i64 (j1 : Int)) rfl ?_ ⟨(Roll.outw_pure (by decide) rfl), rfl⟩
                        (have ec : ∀ x, a1.eval (.const x) = x := fun _ => rfl); (have ef : ∀ x, a1.eval (.func x) = .func (.func x) #[] #[] := fun _ => rfl); generalize a1.eval = ρ at *
                        clear h20 h1
                        go_simp <;> (intros; first | (exfalso; omega) | rfl)
                      · intro vs p hI0 hp
                        have hI := Roll.inw_pure (by decide) rfl hI0
                        clear hI0
                        have h19 : (vs 19) = .slice (some ⟨rk, ro, none⟩) sl rc := hp 19 (by simp [Lsv29])
                        have h21 : (vs 21) = .int .i64 (j1 : Int) := hp 21 (by simp [Lsv29])
                        have h1 : (vs 1) = .bool false := hp 1 (by simp [Lsv29])
                        have e152 : (Roll.putD Dsv29 vs [19, 21, 1] b0).eval (.tmp 152) = .slice (some ⟨rk, ro, none⟩) sl rc := (Roll.eval_new 19 rfl (by decide) (by decide) (by omega)).trans h19
                        have e154 : (Roll.putD Dsv29 vs [19, 21, 1] b0).eval (.tmp 154) = .int .i64 (j1 : Int) := (Roll.eval_new 21 rfl (by decide) (by decide) (by omega)).trans h21
                        clear hp hlv hN
                        refine ⟨fun hg => ?_, fun hg => absurd h1 hg⟩
                        clear hg
                        unfold Roll.Goes
                        simp only [Lsv29, List.getD_cons_zero, List.getD_cons_succ]
                        generalize Roll.putD Dsv29 vs [19, 21, 1] b0 = a1 at *
                        have hjn := HJ1N.out
                        have hrc := HRC.out
                        refine Roll.goes_val (w' := p) (.pointer (some ⟨rk, ro + j1, none⟩)) rfl ?_ ⟨(Roll.outw_pure (by decide) rfl), rfl⟩
                        (have ec : ∀ x, a1.eval (.const x) = x := fun _ => rfl); (have ef : ∀ x, a1.eval (.func x) = .func (.func x) #[] #[] := fun _ => rfl); generalize a1.eval = ρ at *
                        clear h19 h21 h1
                        go_simp <;> (intros; first | (exfalso; omega) | rfl)
                      · intro vs p hI0 hp
                        have hI := Roll.inw_pure (by decide) rfl hI0
                        clear hI0
                        have h22 : (vs 22) = .pointer (some ⟨rk, ro + j1, none⟩) := hp 22 (by simp [Lsv29])
                        have h1 : (vs 1) = .bool false := hp 1 (by simp [Lsv29])
                        have e155 : (Roll.putD Dsv29 vs [22, 1] b0).eval (.tmp 155) = .pointer (some ⟨rk, ro + j1, none⟩) := (Roll.eval_new 22 rfl (by decide) (by decide) (by omega)).trans h22
                        clear hp hlv hN
                        refine ⟨fun hg => ?_, fun hg => absurd h1 hg⟩
                        clear hg
                        unfold Roll.Goes
                        simp only [Lsv29, List.getD_cons_zero, List.getD_cons_succ]
                        generalize Roll.putD Dsv29 vs [22, 1] b0 = a1 at *
                        have cf : p.cell? ⟨rk, ro + j1, none⟩ = some (.slice al 64 cl) := (hI.cell (p := ⟨rk, ro + j1, none⟩) G3v.out).trans CJ1.out
                        refine Roll.goes_val (w' := p) (.slice al 64 cl) rfl ?_ ⟨(Roll.outw_pure (by decide) rfl), rfl⟩
                        (have ec : ∀ x, a1.eval (.const x) = x := fun _ => rfl); (have ef : ∀ x, a1.eval (.func x) = .func (.func x) #[] #[] := fun _ => rfl); generalize a1.eval = ρ at *
                        clear h22 h1
                        go_simp <;> (intros; first | (exfalso; omega) | rfl)
                      · intro vs p hI0 hp
                        have hI := Roll.inw_pre (by decide) rfl hI0
                        clear hI0
                        have h2 : (vs 2) = .slice (some ⟨gb, 0, none⟩) 64 64 := hp 2 (by simp [Lsv29])
                        have h12 : (vs 12) = .slice aj 64 cj := hp 12 (by simp [Lsv29])
                        have h23 : (vs 23) = .slice al 64 cl := hp 23 (by simp [Lsv29])
                        have h1 : (vs 1) = .bool false := hp 1 (by simp [Lsv29])
                        have e135 : (Roll.putD Dsv29 vs [2, 12, 23, 1] b0).eval (.tmp 135) = .slice (some ⟨gb, 0, none⟩) 64 64 := (Roll.eval_new 2 rfl (by decide) (by decide) (by omega)).trans h2
                        have e145 : (Roll.putD Dsv29 vs [2, 12, 23, 1] b0).eval (.tmp 145) = .slice aj 64 cj := (Roll.eval_new 12 rfl (by decide) (by decide) (by omega)).trans h12
                        have e156 : (Roll.putD Dsv29 vs [2, 12, 23, 1] b0).eval (.tmp 156) = .slice al 64 cl := (Roll.eval_new 23 rfl (by decide) (by decide) (by omega)).trans h23
                        clear hp hlv hN
                        refine ⟨fun hg => ?_, fun hg => absurd h1 hg⟩
                        clear hg
                        unfold Roll.Goes
                        simp only [Lsv29, List.getD_cons_zero, List.getD_cons_succ]
                        generalize Roll.putD Dsv29 vs [2, 12, 23, 1] b0 = a1 at *
                        refine Roll.goes_call 28 #[.slice (some ⟨gb, 0, none⟩) 64 64, .slice aj 64 cj, .slice al 64 cl] p rfl (by have ec : ∀ x, a1.eval (.const x) = x := fun _ => rfl; have ef : ∀ x, a1.eval (.func x) = .func (.func x) #[] #[] := fun _ => rfl; generalize a1.eval = ρ at *; go_simp) ?_
                        refine (prefix_any _ _ _ (some ⟨gb, 0, none⟩) 64 bk aj cj fj al cl lj p (HBBv.out.kept (Kept.of_below (fun _ => False) hI) (fun _ _ _ h => h)) (HBJ.out.kept (Kept.of_below (fun _ => False) hI) (fun _ _ _ h => h)) (HBJ1.out.kept (Kept.of_below (fun _ => False) hI) (fun _ _ _ h => h))).mono ?_
                        rintro y p2 ⟨X, rfl, hX, dd, rfl⟩
                        have hbl : Below p.heap.size p (p.drewN dd) := ⟨rfl, rfl, rfl, Nat.le_refl _, fun _ _ => rfl⟩
                        exact ⟨_, rfl, Roll.outw_pre (by decide) rfl (hI.trans (hbl.mono hI.size)) (Kept.of_below _ hbl), X, rfl, hX⟩
                      · intro vs p hI0 hp
                        have hI := Roll.inw_pure (by decide) rfl hI0
                        clear hI0
                        have h1 : (vs 1) = .bool false := hp 1 (by simp [Lsv29])
                        have h24 : ∃ X : Bool, (vs 24) = .bool X ∧ (Mix bk fj lj → X = true) := hp 24 (by simp [Lsv29])
                        have e134 : (Roll.putD Dsv29 vs [1, 24] b0).eval (.tmp 134) = .bool false := (Roll.eval_new 1 rfl (by decide) (by decide) (by omega)).trans h1
                        have e157 : (Roll.putD Dsv29 vs [1, 24] b0).eval (.tmp 157) = vs 24 := (Roll.eval_new 24 rfl (by decide) (by decide) (by omega))
                        clear hp hlv hN
                        unfold Roll.Goes
                        simp only [Lsv29, List.getD_cons_zero, List.getD_cons_succ]
                        generalize Roll.putD Dsv29 vs [1, 24] b0 = a1 at *
                        obtain ⟨X, hvX, hX⟩ := h24
                        rw [hvX] at e157
                        refine Roll.goes_val (w' := p) (.bool X) rfl (by have ec : ∀ x, a1.eval (.const x) = x := fun _ => rfl; have ef : ∀ x, a1.eval (.func x) = .func (.func x) #[] #[] := fun _ => rfl; generalize a1.eval = ρ at *; go_simp <;> (intros; first | (exfalso; omega) | rfl)) ⟨(Roll.outw_pure (by decide) rfl), X, rfl, hX⟩
                      · intro vs p hI0 hp
                        have hI := Roll.inw_k0 rfl hI0
                        clear hI0
                        have h25 : ∃ X : Bool, (vs 25) = .bool X ∧ (Mix bk fj lj → X = true) := hp 25 (by simp [Lsv29])
                        have e158 : (Roll.putD Dsv29 vs [25] b0).eval (.tmp 158) = vs 25 := (Roll.eval_new 25 rfl (by decide) (by decide) (by omega))
                        clear hp hlv hN
                        unfold Roll.Goes
                        simp only [Lsv29, List.getD_cons_zero, List.getD_cons_succ]
                        generalize Roll.putD Dsv29 vs [25] b0 = a1 at *
                        obtain ⟨X, hvX, hX⟩ := h25
                        rw [hvX] at e158
                        refine Roll.goes_val (w' := p) (.bool X) rfl (by have ec : ∀ x, a1.eval (.const x) = x := fun _ => rfl; have ef : ∀ x, a1.eval (.func x) = .func (.func x) #[] #[] := fun _ => rfl; generalize a1.eval = ρ at *; go_simp <;> (intros; first | (exfalso; omega) | rfl)) ⟨Roll.outw_k0 rfl hI (Kept.refl _ _), X, rfl, hX⟩
                    · intro vs p hI hR
                      have h0 : (vs 0) = .bool false := hR 0 (by omega)
                      have h1 : (vs 1) = .bool false := hR 1 (by omega)
                      have h2 : (vs 2) = .slice (some ⟨gb, 0, none⟩) 64 64 := hR 2 (by omega)
                      have h3 : (vs 3) = .pointer (some ⟨gt, 0, none⟩) := hR 3 (by omega)
                      have h4 : (vs 4) = .pointer (some ⟨gt, 0, none⟩) := hR 4 (by omega)
                      have h5 : (vs 5) = .pointer (some ⟨gt, 0, none⟩) := hR 5 (by omega)
                      have h6 : (vs 6) = .slice (some ⟨gs, so, none⟩) SN co := hR 6 (by omega)
                      have h7 : (vs 7) = .int .i64 (k : Int) := hR 7 (by omega)
                      have h8 : (vs 8) = .pointer (some ⟨gs, so + k, none⟩) := hR 8 (by omega)
                      have h9 : (vs 9) = .slice (some ⟨rk, ro, none⟩) sl rc := hR 9 (by omega)
                      have h10 : (vs 10) = .int .i64 (j : Int) := hR 10 (by omega)
                      have h11 : (vs 11) = .pointer (some ⟨rk, ro + j, none⟩) := hR 11 (by omega)
                      have h12 : (vs 12) = .slice aj 64 cj := hR 12 (by omega)
                      have h13 : (vs 13) = .pointer (some ⟨gt, 0, none⟩) := hR 13 (by omega)
                      have h14 : (vs 14) = .pointer (some ⟨gt, 0, none⟩) := hR 14 (by omega)
                      have h15 : (vs 15) = .pointer (some ⟨gt, 0, none⟩) := hR 15 (by omega)
                      have h16 : (vs 16) = .slice (some ⟨gs, so, none⟩) SN co := hR 16 (by omega)
                      have h17 : (vs 17) = .int .i64 (k : Int) := hR 17 (by omega)
                      have h18 : (vs 18) = .pointer (some ⟨gs, so + k, none⟩) := hR 18 (by omega)
                      have h19 : (vs 19) = .slice (some ⟨rk, ro, none⟩) sl rc := hR 19 (by omega)
                      have h20 : (vs 20) = .int .i64 (j : Int) := hR 20 (by omega)
                      have h21 : (vs 21) = .int .i64 (j1 : Int) := hR 21 (by omega)
                      have h22 : (vs 22) = .pointer (some ⟨rk, ro + j1, none⟩) := hR 22 (by omega)
                      have h23 : (vs 23) = .slice al 64 cl := hR 23 (by omega)
                      have h24 : ∃ X : Bool, (vs 24) = .bool X ∧ (Mix bk fj lj → X = true) := hR 24 (by omega)
                      have h25 : ∃ X : Bool, (vs 25) = .bool X ∧ (Mix bk fj lj → X = true) := hR 25 (by omega)
                      have h26 : ∃ X : Bool, (vs 26) = .bool X ∧ (Mix bk fj lj → X = true) := hR 26 (by omega)
                      clear hR
                      simp only [List.range_succ, List.range_zero, List.nil_append, List.cons_append, Roll.putD, Act.put, List.getD_cons_zero, List.getD_cons_succ, List.setIfInBounds_toArray, List.set_cons_zero, List.set_cons_succ, List.drop_succ_cons, List.drop_zero, Dsv29]
                      simp only [h0, h1, h2, h3, h4, h5, h6, h7, h8, h9, h10, h11, h12, h13, h14, h15, h16, h17, h18, h19, h20, h21, h22, h23]
                      clear h0 h1 h2 h3 h4 h5 h6 h7 h8 h9 h10 h11 h12 h13 h14 h15 h16 h17 h18 h19 h20 h21 h22 h23
                      obtain ⟨X, hvX, hX⟩ := h26
                      simp only [hvX]
                      have HPB := Lib.hid hI
                      have HX := Lib.hid hX
                      clear hI h24 h25 hvX hX
                      go_wp2_with fail
                      go_roundw
                      case rel => exact ⟨j + 1, X, by omega, by omega, rfl, by go_num, fun hh => (hit_step hh).elim (fun h => absurd (HF.out h) (by simp)) (fun h => HX.out (by rw [HFJ.out, HLJ.out]; exact h)), HBv.out.trans (HPB.out.mono HBv.out.size)⟩
                      case measure => simp [intOf]; omega
                · obtain rfl : j = sl := by omega
                  obtain rfl : F = true := HF.out HHIT.out
                  have hbs := run_bs56
                  have hal : Below v.heap.size v (v.alloc (.cells #[.slice (some ⟨gb, 0, none⟩) 64 64] 32)) := (Below.refl _ _).alloc (Nat.le_refl _) _
                  have cK2 : (v.alloc (.cells #[.slice (some ⟨gb, 0, none⟩) 64 64] 32)).cell? ⟨gs, so + k, none⟩ = some (.slice (some ⟨rk, ro, none⟩) j rc) := (hal.cell (p := ⟨gs, so + k, none⟩) G2v.out).trans CKv.out
                  have fK2 : (v.alloc (.cells #[.slice (some ⟨gb, 0, none⟩) 64 64] 32)).frozen? ⟨gs, so + k, none⟩ = false := ((Kept.of_below (fun _ => False) (HBqv.out.trans (hal.mono HBqv.out.size))).frozen (p := ⟨gs, so + k, none⟩) HGSQ.out (fun h => h)).trans (FK.out _)
                  have HAL := Lib.hid hal
                  have HP : Hid (Lv w0 ((v.alloc (.cells #[.slice (some ⟨gb, 0, none⟩) 64 64] 32)).setCell ⟨gs, so + k, none⟩ (.slice (some ⟨v.heap.size, 0, none⟩) 1 1)) [trackO 55 [] gt (mixR D1.S d.S (k + 1)), diskO g D1]) := Lib.hid (by
                    obtain ⟨P2, hP2⟩ : ∃ P2, P2 = (v.alloc (.cells #[.slice (some ⟨gb, 0, none⟩) 64 64] 32)).setCell ⟨gs, so + k, none⟩ (.slice (some ⟨v.heap.size, 0, none⟩) 1 1) := ⟨_, rfl⟩
                    rw [← hP2]
                    have hT := HT.out
                    have hqa : Below q.heap.size q (v.alloc (.cells #[.slice (some ⟨gb, 0, none⟩) 64 64] 32)) := HBqv.out.trans (hal.mono HBqv.out.size)
                    have hgbv : gb < v.heap.size := by
                      obtain ⟨b1, o1, hD, hlt1, ha, _⟩ := HBB.out.cells (by omega)
                      cases ha
                      exact Nat.lt_of_lt_of_le hlt1 HBv.out.size
                    have hks : Kept (fun j => j = gs) (v.alloc (.cells #[.slice (some ⟨gb, 0, none⟩) 64 64] 32)) P2 := by rw [hP2]; exact (Kept.refl (fun j => j = gs) _).setCell (fun _ => rfl) _
                    have hkq : Kept (fun j => j = gs) q P2 := (Kept.of_below _ hqa).trans hks (fun _ _ h => h)
                    have hgq : gs < q.heap.size := HGSQ.out
                    have hqv := HBqv.out.size
                    have hin : InR P2 (fun x => Bf x ∨ x = gb) v.heap.size (.slice (some ⟨v.heap.size, 0, none⟩) 1 1) [bk] := by
                      refine inR_one (hks.heap (heap_new rfl) (by omega)) ?_
                      refine (((HBB.out.kept (Kept.of_below (fun _ => False) (HBv.out.trans (hal.mono HBv.out.size))) (fun _ _ _ h => h)).kept hks (fun x _ hx e => ?_)).dom (fun x hx => .inr hx))
                      have := HGB.out; omega
                    have hp := hT.put (k := k) HKS.out (w' := P2) (r' := v.heap.size) (v' := .slice (some ⟨v.heap.size, 0, none⟩) 1 1) (s' := [bk]) (Bf' := fun x => Bf x ∨ x = gb)
                      (hkq.mono (fun j _ h => .inr (by rw [h]))) (fun xs hx => by
                        rw [hP2]
                        rw [HTL.out] at hx ⊢
                        exact (hx.kept (Kept.of_below (fun _ => False) hqa) (fun _ _ h => h)).set k HKN.out _)
                      hin (.inr hqv) (fun x hx => .inl hx) (fun x hx => hx.imp id (fun e => ⟨by rw [e]; exact HGB.out, by omega⟩)) (fun x hx => by
                        have h1 := hkq.size
                        have h2 := hks.size
                        rw [size_alloc1] at h2
                        rcases hx with hx | hx
                        · have := hT.lt x hx; omega
                        · omega)
                    have hset := HSET.out P2 (trackO 55 [] gt (TS.set k [bk])) (fun x => TBlk gt (some gs) (fun j => if j = k then v.heap.size else row j) (fun x => Bf x ∨ x = gb) TS.length x) ⟨_, _, _, _, hp, fun x hx => by rw [List.length_set] at hx; exact hx⟩
                      (hkq.mono (fun j _ h => HTB.out j (.inr (.inl (by rw [h])))))
                      (fun j hj => (TBlk.put (z := q.heap.size) HKS.out (.inr hqv) (fun x hx => hx.imp id (fun e => ⟨by rw [e]; exact HGB.out, by omega⟩)) j hj).imp (HTB.out j) id) (fun j hj => hp.blk_lt j (by rw [List.length_set]; exact hj))
                    have e1 : TS.set k [bk] = mixR D1.S d.S (k + 1) := by
                      have e2 := mixR_set D1.S d.S k (HS1L.out.trans HSL.out.symm) HKO.out HKD.out
                      have e3 : D1.S[k]'HKD.out = [bk] := by
                        have h0 := HDR.out
                        rw [HBK.out]
                        subst h0
                        exact restart_sec d m.l k HKD.out
                      rw [e3, ← HTS.out] at e2
                      exact e2
                    rw [e1] at hset
                    exact hset)
                  clear hal
                  go_wp2_with fail
                  go_roundw
                  case rel => exact ⟨k + 1, by omega, by go_num, HP.out⟩
                  case measure => simp [intOf]; omega
            · obtain rfl : k = SN := by omega
              have HMX : Hid (TS = D1.S) := Lib.hid (by rw [HTS.out]; unfold mixR; rw [List.take_of_length_le (by rw [HS1L.out]; exact Nat.le_refl _), List.drop_of_length_le (by rw [HSL.out]; exact Nat.le_refl _), List.append_nil])
              obtain ⟨_, ⟨gso, vo, row, Bf, hT, _⟩, _, _, _⟩ := HL.out.get (i := 0) rfl
              obtain ⟨xs, hx, _⟩ := hT.outer
              rw [HTL.out] at hx
              obtain ⟨gs, so, co, _, rfl, f1, f2, _, _⟩ := hx.at hsn1
              have cV0 : q.cell? ⟨gt, 0, none⟩ = some (.slice (some ⟨gs, so, none⟩) k co) := by rw [cell_of_row q gt 0 _ _ _ hT.self]; simp [HTL.out]
              clear hT hx
              rw [HMX.out] at HL
              go_wp2_with fail
              go_roundw
              case rel => exact ⟨i + 1, D1, by omega, by omega, by go_num, HL.out, HO1.out, HF1.out, HS1L.out, HK1.out⟩
              case measure => simp [intOf]; omega
      · obtain rfl : i = 60 := by omega
        go_wp2_with (first
          | (have hL := HL.out; go_at_call 17; refine (lives_any _).mono ?_; rintro e w11 ⟨rfl, hb⟩; have HB := Lib.hid (hL.args.trans (hb.mono hL.size)); clear hb hL))
        go_ret
        exact ⟨rfl, HB.out⟩
    · have hin : (n : Int) ≤ (i : Int) := by omega
      go_wp2_with (first
        | (have hL := HL.out; go_at_call 17; refine (lives_any _).mono ?_; rintro e w11 ⟨rfl, hb⟩; have HB := Lib.hid (hL.args.trans (hb.mono hL.size)); clear hb hL))
      go_ret
      exact ⟨rfl, HB.out⟩
end Go.Proofs.Ytbnodhcgdgcebaa

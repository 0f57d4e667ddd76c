/-
  A disk after some writes and flushes.
-/
import Derived.Test.YtbnodhcgdgcebaaU1
namespace Go.Proofs.Ytbnodhcgdgcebaa
open Go.RowKit
set_option linter.unusedSimpArgs false
set_option linter.unusedVariables false
def Dwr7 : List (Option Tmp) := [some 32, some 33, some 34, some 35, some 36, some 37, some 38, some 39, some 40, some 41, some 42, some 43, some 44, some 45, some 46, some 47, some 48, some 49, some 50, some 51, some 52, some 53]
def Lwr7 : List (List Nat) := [[], [], [], [1, 2], [3], [4], [], [6], [5, 7], [], [], [9, 10], [11], [12], [13], [], [], [15, 16], [17], [18], [14, 19], [0, 8, 20]]
theorem Ops.kept {D S : Nat → Prop} {w w' : World} {a : Option Addr} {n c : Nat} {ms : List OM} (h : Ops D w a n c ms) (hk : Kept S w w') (hd : ∀ b, b < w.heap.size → D b → ¬ S b) : Ops D w' a n c ms :=
  ⟨h.1, h.2.1.kept (by decide) hk hd, fun m hm => ⟨(h.2.2 m hm).1, (h.2.2 m hm).2.1, (h.2.2 m hm).2.2.1, (h.2.2 m hm).2.2.2.1.kept hk hd, (h.2.2 m hm).2.2.2.2.kept hk hd⟩⟩
theorem Ops.at {D : Nat → Prop} {w : World} {a : Option Addr} {n c : Nat} {ms : List OM} (h : Ops D w a n c ms) (hp : 0 < n) : ∃ b off, D b ∧ b < w.heap.size ∧ a = some ⟨b, off, none⟩ ∧ ∀ (i : Nat) (hi : i < ms.length), w.rangeAt b (off + i * 5) ms[i].cells := by
  obtain ⟨h1, ⟨h2, h3, h4, h5, h6⟩, h7⟩ := h
  obtain ⟨b, off, hD, ha, hr⟩ := h6 hp
  refine ⟨b, off, hD, range_lt hr (by omega), ha, fun i hi j v hv => ?_⟩
  have hj : j < 5 := (List.getElem?_eq_some_iff.1 hv).1
  rw [Nat.add_assoc]
  exact hr (i * 5 + j) v (by rw [ocells_get ms i j hi hj]; exact hv)
theorem burn_mk (S : List (List (List UInt8))) (on : Bool) : DM.burn ⟨S, on, 0⟩ = ⟨S, on, 0⟩ := rfl
theorem write_on {d : DM} {k : Nat} {l : List UInt8} (h : d.fuse = 0) : (d.write k l).on = d.on := by unfold DM.write; rw [h, burn_mk]
theorem write_fuse {d : DM} {k : Nat} {l : List UInt8} (h : d.fuse = 0) : (d.write k l).fuse = d.fuse := by unfold DM.write; rw [h, burn_mk]
theorem write_len (d : DM) (k : Nat) (l : List UInt8) : (d.write k l).S.length = d.S.length := by unfold DM.write; rw [DM.burn_S]; simp
theorem flush_on {d : DM} (h : d.fuse = 0) : d.flush.on = d.on := by unfold DM.flush; rw [h, burn_mk]
theorem flush_fuse {d : DM} (h : d.fuse = 0) : d.flush.fuse = d.fuse := by unfold DM.flush; rw [h, burn_mk]
theorem flush_len (d : DM) : d.flush.S.length = d.S.length := by unfold DM.flush; rw [DM.burn_S]; simp
set_option maxRecDepth 100000 in
set_option maxHeartbeats 4000000 in
theorem written_lv {w0 w : World} {L0 : List Obj} (h : Lv w0 w L0) (x : Int) (h1 : -9223372036854775808 ≤ x) (h2 : x ≤ 9223372036854775807) {a : Option Addr} {n c : Nat} {ms : List OM} (hO : Ops (fun b => b < w0.heap.size) w0 a n c ms) :
    Calls Try.prog 35 #[.int .i64 x, .slice a n c] w fun e w' => ∃ g d, e = .returned (.pointer (some ⟨g, 0, none⟩)) ∧ Lv w0 w' (diskO g d :: L0) ∧ d.on = true ∧ d.fuse = 0 ∧ d.S.length = secs x ∧ d.Ok 40 := by
  have HL0 := Lib.hid h
  have HO := Lib.hid hO
  have hsb := secs_bd x
  have hok0 : (DM.new (secs x)).Ok 0 := DM.new_ok hsb.1 (by omega)
  have hlen0 : (DM.new (secs x)).S.length = secs x := by simp [DM.new]
  obtain ⟨S, hS⟩ : ∃ S, S = secs x := ⟨_, rfl⟩
  rw [← hS] at hsb hok0 hlen0 ⊢
  have HS := Lib.hid hS
  have Hok0 := Lib.hid hok0
  have Hlen0 := Lib.hid hlen0
  have hnm : n ≤ 9223372036854775807 := by have := hO.2.1.2.1; have := hO.2.1.2.2.1; unfold maxLen at this; omega
  clear h hO hS hok0 hlen0
  go_enter Try.func35, Try.ntmps35
  go_wp2_with (have hL := HL0.out; go_at_call 12; refine (made_lv hL x h1 h2).mono ?_; rintro e w1 ⟨g, rfl, hl⟩; rw [← HS.out] at hl; have HL1 := Lib.hid hl; clear hl HL0 hL)
  go_loopw [6] (fun t wr => ∃ i : Nat, i ≤ n ∧ i ≤ 40 ∧ t = .int .i64 (i : Int) ∧ ∃ d, Lv w0 wr (diskO g d :: L0) ∧ d.on = true ∧ d.fuse = 0 ∧ d.S.length = S ∧ d.Ok i) (fun t _ => 40 - (intOf t).toNat)
  case atStart => exact ⟨0, Nat.zero_le _, by omega, rfl, DM.new S, HL1.out, rfl, rfl, Hlen0.out, Hok0.out⟩
  case round =>
    obtain ⟨i, hi, hi40, rfl, d, hL, hon, hf0, hSL, hOK⟩ := hrel
    have HL := Lib.hid hL
    have HON := Lib.hid hon
    have HF0 := Lib.hid hf0
    have HSL := Lib.hid hSL
    have HOKi := Lib.hid hOK
    have HOK : Hid (d.Ok 100000) := Lib.hid (hOK.mono (by omega))
    clear hL hon hf0 hSL hOK
    by_cases hlt : i < n
    · by_cases hlt40 : i < 40
      · have hn2 : (i : Int) < (n : Int) := by omega
        have hn3 : (i : Int) < 40 := by omega
        have hw1 : IntKind.i64.wrap ((i : Int) + 1) = (i : Int) + 1 := i64_id _ (by omega) (by omega)
        obtain ⟨b, off, hDb, hbw, rfl, hrb⟩ := HO.out.at (by omega)
        have hil : i < ms.length := by have := HO.out.1; omega
        have hr5 := hrb i hil
        obtain ⟨m, hm⟩ : ∃ m, m = ms[i] := ⟨_, rfl⟩
        have hmok : OOk (fun b => b < w0.heap.size) w0 m := by rw [hm]; exact HO.out.2.2 _ (List.getElem_mem hil)
        rw [← hm] at hr5
        obtain ⟨ob, hob⟩ : ∃ ob, off + i * 5 = ob := ⟨_, rfl⟩
        rw [hob] at hr5
        have hbq : b < wr.heap.size := Nat.lt_of_lt_of_le hbw HL.out.size
        have cK0 : wr.cell? ⟨b, ob + 0, none⟩ = some (.int .i64 m.kind) := (HL.out.args.cell (p := ⟨b, ob + 0, none⟩) hbw).trans (hr5 0 _ rfl)
        have c1 : wr.cell? ⟨b, ob + 1, none⟩ = some (.int .i64 m.k) := (HL.out.args.cell (p := ⟨b, ob + 1, none⟩) hbw).trans (hr5 1 _ rfl)
        have c2 : wr.cell? ⟨b, ob + 2, none⟩ = some (.int .i64 m.n) := (HL.out.args.cell (p := ⟨b, ob + 2, none⟩) hbw).trans (hr5 2 _ rfl)
        have c3 : wr.cell? ⟨b, ob + 3, none⟩ = some (.slice m.ba m.bn m.bc) := (HL.out.args.cell (p := ⟨b, ob + 3, none⟩) hbw).trans (hr5 3 _ rfl)
        have cK : wr.cell? ⟨b, ob, none⟩ = some (.int .i64 m.kind) := cK0
        have HM := Lib.hid hmok
        have HOB := Lib.hid hob
        have HC1 := Lib.hid c1
        have HC2 := Lib.hid c2
        have HC3 := Lib.hid c3
        have Hbw := Lib.hid hbw
        have Hbq := Lib.hid hbq
        clear hDb hrb hr5 hm hmok cK0 c1 c2 c3 hil hbw hbq
        have hm0 := HM.out.1
        obtain ⟨r, hr, hrb⟩ := around_nat m.kind 6 (by omega)
        have Hr := Lib.hid hr
        by_cases hr0 : r = 0
        · have hr1 : ((r : Int) == 0) = true := by rw [hr0]; rfl
          have hr2 : (r : Int) = 0 := by omega
          clear hr hrb hr0
          go_wp2_with (first
            | (go_at_call 14; refine (around_any m.kind 6 _ hm0.1 hm0.2 (by omega) (by omega)).mono ?_; rintro e w2 ⟨rfl, rfl⟩; rw [Hr.out])
            | (have hL := HL.out; go_at_call 30; refine (flush_lv hL (i := 0) (d := d) rfl HON.out).mono ?_; rintro e w2 ⟨rfl, hl⟩; have HL2 := Lib.hid hl; clear hl HL hL))
          go_roundw
          case rel => exact ⟨i + 1, by omega, by omega, by go_num, d.flush, HL2.out, (flush_on HF0.out).trans HON.out, (flush_fuse HF0.out).trans HF0.out, (flush_len d).trans HSL.out, (DM.flush_ok HOKi.out).mono (by omega)⟩
          case measure => simp [intOf]; omega
        · have hr1 : ((r : Int) == 0) = false := by rw [beq_eq_false_iff_ne]; omega
          have hr2 : ¬ (r : Int) = 0 := by omega
          have hr3 : 0 < (r : Int) := by omega
          clear hr hrb hr0
          go_upto_region 7 with (go_at_call 14; refine (around_any m.kind 6 _ hm0.1 hm0.2 (by omega) (by omega)).mono ?_; rintro e w2 ⟨rfl, rfl⟩; rw [Hr.out])
          rename World => q
          have C1 : Hid (q.cell? ⟨b, ob + 1, none⟩ = some (.int .i64 m.k)) := HC1
          have C2 : Hid (q.cell? ⟨b, ob + 2, none⟩ = some (.int .i64 m.n)) := HC2
          have C3 : Hid (q.cell? ⟨b, ob + 3, none⟩ = some (.slice m.ba m.bn m.bc)) := HC3
          obtain ⟨B, ⟨gd, gm, row, NN, hdq, hBB⟩, hlt, _, hset⟩ := HL.out.get (i := 0) rfl
          have hdq := hdq.bound HOK.out
          have HD := Lib.hid hdq
          have HBB := Lib.hid hBB
          have HLT := Lib.hid hlt
          have HSET := Lib.hid hset
          have HBQ : Hid (b < q.heap.size ∧ ¬ B b) := Lib.hid ⟨Hbq.out, fun hb => by have := (hlt b hb).1; have := Hbw.out; omega⟩
          have hS1 : 1 ≤ S := by have := hdq.ok.1; have := HSL.out; omega
          have hS2 : S ≤ 4096 := by have := hdq.ok.2.1; have := HSL.out; omega
          obtain ⟨kk, hkk, hkb⟩ := around_nat m.k (S : Int) (by omega)
          have HKK := Lib.hid hkk
          have HKS : Hid (kk < d.S.length) := Lib.hid (by have := HSL.out; omega)
          have HSB : Hid ((0 : Int) < (S : Int) ∧ (S : Int) ≤ 9223372036854775807) := Lib.hid ⟨by omega, by omega⟩
          have HMK : Hid (-9223372036854775808 ≤ m.k ∧ m.k ≤ 9223372036854775807) := Lib.hid HM.out.2.1
          have HMN : Hid (-9223372036854775808 ≤ m.n ∧ m.n ≤ 9223372036854775807) := Lib.hid HM.out.2.2.1
          have HMB : Hid (Bs (fun b => b < w0.heap.size) q m.ba m.bn m.bc m.b) := Lib.hid (HM.out.2.2.2.1.kept (Kept.of_below (fun x => w0.heap.size ≤ x) HL.out.args) (fun x hx _ h => by omega) |>.kept (Kept.refl (fun _ => False) q) (fun _ _ _ h => h))
          obtain ⟨bf, hbf⟩ : ∃ bf, bf = m.b.take 70 := ⟨_, rfl⟩
          have HBF := Lib.hid hbf
          have HIN : Hid ((i : Int) < (n : Int)) := Lib.hid (by omega)
          have HNC : Hid (n ≤ c ∧ c ≤ 9223372036854775807) := Lib.hid ⟨HO.out.2.1.2.1, HO.out.2.1.2.2.1⟩
          clear hdq hBB hlt hset hkk hkb hbf
          refine Roll.region_w 22 55 Dwr7 Lwr7 [(1, .slice (some ⟨b, off, none⟩) n c), (5, .pointer (some ⟨g, 0, none⟩)), (6, .int .i64 (i : Int))] 21 [true, true, true, true, true, true, true, false, true, true, true, true, true, true, false, true, true, true, true, true, false, false] (fun p => Below q.heap.size q p) (fun vv p => (∃ l2 : List UInt8, l2.length = 64 ∧ Lv w0 p (diskO g (d.write kk l2) :: L0)) ∧ Kept B q p) (fun p => Kept B q p) (fun p p2 => Kept B p p2) [fun vv p => (vv 0) = .pointer (some ⟨g, 0, none⟩), fun vv p => (vv 1) = .slice (some ⟨b, off, none⟩) n c, fun vv p => (vv 2) = .int .i64 (i : Int), fun vv p => (vv 3) = .pointer (some ⟨b, ob, none⟩), fun vv p => (vv 4) = .pointer (some ⟨b, ob + 1, none⟩), fun vv p => (vv 5) = .int .i64 m.k, fun vv p => (vv 6) = .pointer (some ⟨g, 0, none⟩), fun vv p => (vv 7) = .int .i64 (S : Int), fun vv p => (vv 8) = .int .i64 (kk : Int), fun vv p => (vv 9) = .slice (some ⟨b, off, none⟩) n c, fun vv p => (vv 10) = .int .i64 (i : Int), fun vv p => (vv 11) = .pointer (some ⟨b, ob, none⟩), fun vv p => (vv 12) = .pointer (some ⟨b, ob + 3, none⟩), fun vv p => (vv 13) = .slice m.ba m.bn m.bc, fun vv p => ∃ a2 c2, (vv 14) = .slice a2 bf.length c2 ∧ Bs (fun x => q.heap.size ≤ x) p a2 bf.length c2 bf, fun vv p => (vv 15) = .slice (some ⟨b, off, none⟩) n c, fun vv p => (vv 16) = .int .i64 (i : Int), fun vv p => (vv 17) = .pointer (some ⟨b, ob, none⟩), fun vv p => (vv 18) = .pointer (some ⟨b, ob + 2, none⟩), fun vv p => (vv 19) = .int .i64 m.n, fun vv p => ∃ a2 c2 l2, (vv 20) = .slice a2 64 c2 ∧ l2.length = 64 ∧ Bs (fun x => q.heap.size ≤ x) p a2 64 c2 l2, fun vv p => (vv 21) = .int .i64 0] (by kernel_rfl) (by kernel_rfl) rfl ⟨rfl, rfl, rfl, trivial⟩ ((Below.refl _ _).drew) (by decide) (by kernel_rfl) (fun _ h => Kept.of_below B h) (fun _ _ h => h.2) (fun _ => Kept.refl _ _) ?_ ?_ ?_
          · exact ⟨fun _ _ _ _ h => h, fun _ _ _ _ h => h, fun _ _ _ _ h => h, fun _ _ _ _ h => h, fun _ _ _ _ h => h, fun _ _ _ _ h => h, fun _ _ _ _ h => h, fun _ _ _ _ h => h, fun _ _ _ _ h => h, fun _ _ _ _ h => h, fun _ _ _ _ h => h, fun _ _ _ _ h => h, fun _ _ _ _ h => h, fun _ _ _ _ h => h, fun _ _ _ hs h => by obtain ⟨a2, c2, e1, e2⟩ := h; exact ⟨a2, c2, e1, e2.kept hs (fun x _ hx hb => by have := (HLT.out x hb).2; omega)⟩, fun _ _ _ _ h => h, fun _ _ _ _ h => h, fun _ _ _ _ h => h, fun _ _ _ _ h => h, fun _ _ _ _ h => h, fun _ _ _ hs h => by obtain ⟨a2, c2, l2, e1, e2, e3⟩ := h; exact ⟨a2, c2, l2, e1, e2, e3.kept hs (fun x _ hx hb => by have := (HLT.out x hb).2; omega)⟩, fun _ _ _ _ h => h, trivial⟩
          · intro b0 hN hlv
            refine ⟨?_, ?_, ?_, ?_, ?_, ?_, ?_, ?_, ?_, ?_, ?_, ?_, ?_, ?_, ?_, ?_, ?_, ?_, ?_, ?_, ?_, ?_, trivial⟩
            · intro vs p hI0 hp
              have hI := Roll.inw_pure (by decide) rfl hI0
              clear hI0
              have e5 : (Roll.putD Dwr7 vs [] b0).eval (.tmp 5) = .pointer (some ⟨g, 0, none⟩) := (Roll.eval_old rfl).trans (hlv.at 1 (5, .pointer (some ⟨g, 0, none⟩)) rfl)
              clear hp hlv hN
              unfold Roll.Goes
              simp only [Lwr7, List.getD_cons_zero, List.getD_cons_succ]
              generalize Roll.putD Dwr7 vs [] b0 = a1 at *
              refine Roll.goes_val (w' := p) (.pointer (some ⟨g, 0, none⟩)) rfl ?_ ⟨(Roll.outw_pure (by decide) rfl), rfl⟩
              (have ec : ∀ x, a1.eval (.const x) = x := fun _ => rfl); (have ef : ∀ x, a1.eval (.func x) = .func (.func x) #[] #[] := fun _ => rfl); generalize a1.eval = ρ at *
              skip
              go_simp <;> (intros; first | (exfalso; omega) | rfl)
            · intro vs p hI0 hp
              have hI := Roll.inw_pure (by decide) rfl hI0
              clear hI0
              have e1 : (Roll.putD Dwr7 vs [] b0).eval (.tmp 1) = .slice (some ⟨b, off, none⟩) n c := (Roll.eval_old rfl).trans (hlv.at 0 (1, .slice (some ⟨b, off, none⟩) n c) rfl)
              clear hp hlv hN
              unfold Roll.Goes
              simp only [Lwr7, List.getD_cons_zero, List.getD_cons_succ]
              generalize Roll.putD Dwr7 vs [] b0 = a1 at *
              refine Roll.goes_val (w' := p) (.slice (some ⟨b, off, none⟩) n c) rfl ?_ ⟨(Roll.outw_pure (by decide) rfl), rfl⟩
              (have ec : ∀ x, a1.eval (.const x) = x := fun _ => rfl); (have ef : ∀ x, a1.eval (.func x) = .func (.func x) #[] #[] := fun _ => rfl); generalize a1.eval = ρ at *
              skip
              go_simp <;> (intros; first | (exfalso; omega) | rfl)
            · intro vs p hI0 hp
              have hI := Roll.inw_pure (by decide) rfl hI0
              clear hI0
              have e6 : (Roll.putD Dwr7 vs [] b0).eval (.tmp 6) = .int .i64 (i : Int) := (Roll.eval_old rfl).trans (hlv.at 2 (6, .int .i64 (i : Int)) rfl)
              clear hp hlv hN
              unfold Roll.Goes
              simp only [Lwr7, List.getD_cons_zero, List.getD_cons_succ]
              generalize Roll.putD Dwr7 vs [] b0 = a1 at *
              refine Roll.goes_val (w' := p) (.int .i64 (i : Int)) rfl ?_ ⟨(Roll.outw_pure (by decide) rfl), rfl⟩
              (have ec : ∀ x, a1.eval (.const x) = x := fun _ => rfl); (have ef : ∀ x, a1.eval (.func x) = .func (.func x) #[] #[] := fun _ => rfl); generalize a1.eval = ρ at *
              skip
              go_simp <;> (intros; first | (exfalso; omega) | rfl)
            · intro vs p hI0 hp
              have hI := Roll.inw_pure (by decide) rfl hI0
              clear hI0
              have h1 : (vs 1) = .slice (some ⟨b, off, none⟩) n c := hp 1 (by simp [Lwr7])
              have h2 : (vs 2) = .int .i64 (i : Int) := hp 2 (by simp [Lwr7])
              have e33 : (Roll.putD Dwr7 vs [1, 2] b0).eval (.tmp 33) = .slice (some ⟨b, off, none⟩) n c := (Roll.eval_new 1 rfl (by decide) (by decide) (by omega)).trans h1
              have e34 : (Roll.putD Dwr7 vs [1, 2] b0).eval (.tmp 34) = .int .i64 (i : Int) := (Roll.eval_new 2 rfl (by decide) (by decide) (by omega)).trans h2
              clear hp hlv hN
              unfold Roll.Goes
              simp only [Lwr7, List.getD_cons_zero, List.getD_cons_succ]
              generalize Roll.putD Dwr7 vs [1, 2] b0 = a1 at *
              have hin := HIN.out
              have hnc := HNC.out
              have hob : off + i * 5 = ob := HOB.out
              
              refine Roll.goes_val (w' := p) (.pointer (some ⟨b, ob, none⟩)) rfl ?_ ⟨(Roll.outw_pure (by decide) rfl), rfl⟩
              (have ec : ∀ x, a1.eval (.const x) = x := fun _ => rfl); (have ef : ∀ x, a1.eval (.func x) = .func (.func x) #[] #[] := fun _ => rfl); generalize a1.eval = ρ at *
              clear h1 h2
              go_simp <;> (intros; first | (exfalso; omega) | rfl)
            · intro vs p hI0 hp
              have hI := Roll.inw_pure (by decide) rfl hI0
              clear hI0
              have h3 : (vs 3) = .pointer (some ⟨b, ob, none⟩) := hp 3 (by simp [Lwr7])
              have e35 : (Roll.putD Dwr7 vs [3] b0).eval (.tmp 35) = .pointer (some ⟨b, ob, none⟩) := (Roll.eval_new 3 rfl (by decide) (by decide) (by omega)).trans h3
              clear hp hlv hN
              unfold Roll.Goes
              simp only [Lwr7, List.getD_cons_zero, List.getD_cons_succ]
              generalize Roll.putD Dwr7 vs [3] b0 = a1 at *
              refine Roll.goes_val (w' := p) (.pointer (some ⟨b, ob + 1, none⟩)) rfl ?_ ⟨(Roll.outw_pure (by decide) rfl), rfl⟩
              (have ec : ∀ x, a1.eval (.const x) = x := fun _ => rfl); (have ef : ∀ x, a1.eval (.func x) = .func (.func x) #[] #[] := fun _ => rfl); generalize a1.eval = ρ at *
              clear h3
              go_simp <;> (intros; first | (exfalso; omega) | rfl)
            · intro vs p hI0 hp
              have hI := Roll.inw_pure (by decide) rfl hI0
              clear hI0
              have h4 : (vs 4) = .pointer (some ⟨b, ob + 1, none⟩) := hp 4 (by simp [Lwr7])
              have e36 : (Roll.putD Dwr7 vs [4] b0).eval (.tmp 36) = .pointer (some ⟨b, ob + 1, none⟩) := (Roll.eval_new 4 rfl (by decide) (by decide) (by omega)).trans h4
              clear hp hlv hN
              unfold Roll.Goes
              simp only [Lwr7, List.getD_cons_zero, List.getD_cons_succ]
              generalize Roll.putD Dwr7 vs [4] b0 = a1 at *
              have cf : p.cell? ⟨b, ob + 1, none⟩ = some (.int .i64 m.k) := (hI.cell (p := ⟨b, ob + 1, none⟩) HBQ.out.1 HBQ.out.2).trans C1.out
              refine Roll.goes_val (w' := p) (.int .i64 m.k) rfl ?_ ⟨(Roll.outw_pure (by decide) rfl), rfl⟩
              (have ec : ∀ x, a1.eval (.const x) = x := fun _ => rfl); (have ef : ∀ x, a1.eval (.func x) = .func (.func x) #[] #[] := fun _ => rfl); generalize a1.eval = ρ at *
              clear h4
              go_simp <;> (intros; first | (exfalso; omega) | rfl)
            · intro vs p hI0 hp
              have hI := Roll.inw_pure (by decide) rfl hI0
              clear hI0
              have e5 : (Roll.putD Dwr7 vs [] b0).eval (.tmp 5) = .pointer (some ⟨g, 0, none⟩) := (Roll.eval_old rfl).trans (hlv.at 1 (5, .pointer (some ⟨g, 0, none⟩)) rfl)
              clear hp hlv hN
              unfold Roll.Goes
              simp only [Lwr7, List.getD_cons_zero, List.getD_cons_succ]
              generalize Roll.putD Dwr7 vs [] b0 = a1 at *
              refine Roll.goes_val (w' := p) (.pointer (some ⟨g, 0, none⟩)) rfl ?_ ⟨(Roll.outw_pure (by decide) rfl), rfl⟩
              (have ec : ∀ x, a1.eval (.const x) = x := fun _ => rfl); (have ef : ∀ x, a1.eval (.func x) = .func (.func x) #[] #[] := fun _ => rfl); generalize a1.eval = ρ at *
              skip
              go_simp <;> (intros; first | (exfalso; omega) | rfl)
            · intro vs p hI0 hp
              have hI := Roll.inw_pre (by decide) rfl hI0
              clear hI0
              have h6 : (vs 6) = .pointer (some ⟨g, 0, none⟩) := hp 6 (by simp [Lwr7])
              have e38 : (Roll.putD Dwr7 vs [6] b0).eval (.tmp 38) = .pointer (some ⟨g, 0, none⟩) := (Roll.eval_new 6 rfl (by decide) (by decide) (by omega)).trans h6
              clear hp hlv hN
              unfold Roll.Goes
              simp only [Lwr7, List.getD_cons_zero, List.getD_cons_succ]
              generalize Roll.putD Dwr7 vs [6] b0 = a1 at *
              refine Roll.goes_call 20 #[.pointer (some ⟨g, 0, none⟩)] p rfl (by have ec : ∀ x, a1.eval (.const x) = x := fun _ => rfl; have ef : ∀ x, a1.eval (.func x) = .func (.func x) #[] #[] := fun _ => rfl; generalize a1.eval = ρ at *; go_simp) ?_
              have hdp := HD.out.kept (Kept.of_below (fun _ => False) hI) (fun _ _ h => h)
              refine (len_dk hdp).mono ?_
              rintro y p2 ⟨rfl, rfl⟩
              exact ⟨_, rfl, Roll.outw_pre (by decide) rfl hI (Kept.refl _ _), by show Value.int .i64 _ = _; rw [HSL.out]⟩
            · intro vs p hI0 hp
              have hI := Roll.inw_pure (by decide) rfl hI0
              clear hI0
              have h5 : (vs 5) = .int .i64 m.k := hp 5 (by simp [Lwr7])
              have h7 : (vs 7) = .int .i64 (S : Int) := hp 7 (by simp [Lwr7])
              have e37 : (Roll.putD Dwr7 vs [5, 7] b0).eval (.tmp 37) = .int .i64 m.k := (Roll.eval_new 5 rfl (by decide) (by decide) (by omega)).trans h5
              have e39 : (Roll.putD Dwr7 vs [5, 7] b0).eval (.tmp 39) = .int .i64 (S : Int) := (Roll.eval_new 7 rfl (by decide) (by decide) (by omega)).trans h7
              clear hp hlv hN
              unfold Roll.Goes
              simp only [Lwr7, List.getD_cons_zero, List.getD_cons_succ]
              generalize Roll.putD Dwr7 vs [5, 7] b0 = a1 at *
              refine Roll.goes_call 14 #[.int .i64 m.k, .int .i64 (S : Int)] p rfl (by have ec : ∀ x, a1.eval (.const x) = x := fun _ => rfl; have ef : ∀ x, a1.eval (.func x) = .func (.func x) #[] #[] := fun _ => rfl; generalize a1.eval = ρ at *; go_simp) ?_
              refine (around_any m.k (S : Int) p HMK.out.1 HMK.out.2 HSB.out.1 HSB.out.2).mono ?_
              rintro y p2 ⟨rfl, rfl⟩
              exact ⟨_, rfl, (Roll.outw_pure (by decide) rfl), by show Value.int .i64 _ = _; rw [HKK.out]⟩
            · intro vs p hI0 hp
              have hI := Roll.inw_pure (by decide) rfl hI0
              clear hI0
              have e1 : (Roll.putD Dwr7 vs [] b0).eval (.tmp 1) = .slice (some ⟨b, off, none⟩) n c := (Roll.eval_old rfl).trans (hlv.at 0 (1, .slice (some ⟨b, off, none⟩) n c) rfl)
              clear hp hlv hN
              unfold Roll.Goes
              simp only [Lwr7, List.getD_cons_zero, List.getD_cons_succ]
              generalize Roll.putD Dwr7 vs [] b0 = a1 at *
              refine Roll.goes_val (w' := p) (.slice (some ⟨b, off, none⟩) n c) rfl ?_ ⟨(Roll.outw_pure (by decide) rfl), rfl⟩
              (have ec : ∀ x, a1.eval (.const x) = x := fun _ => rfl); (have ef : ∀ x, a1.eval (.func x) = .func (.func x) #[] #[] := fun _ => rfl); generalize a1.eval = ρ at *
              skip
              go_simp <;> (intros; first | (exfalso; omega) | rfl)
            · intro vs p hI0 hp
              have hI := Roll.inw_pure (by decide) rfl hI0
              clear hI0
              have e6 : (Roll.putD Dwr7 vs [] b0).eval (.tmp 6) = .int .i64 (i : Int) := (Roll.eval_old rfl).trans (hlv.at 2 (6, .int .i64 (i : Int)) rfl)
              clear hp hlv hN
              unfold Roll.Goes
              simp only [Lwr7, List.getD_cons_zero, List.getD_cons_succ]
              generalize Roll.putD Dwr7 vs [] b0 = a1 at *
              refine Roll.goes_val (w' := p) (.int .i64 (i : Int)) rfl ?_ ⟨(Roll.outw_pure (by decide) rfl), rfl⟩
              (have ec : ∀ x, a1.eval (.const x) = x := fun _ => rfl); (have ef : ∀ x, a1.eval (.func x) = .func (.func x) #[] #[] := fun _ => rfl); generalize a1.eval = ρ at *
              skip
              go_simp <;> (intros; first | (exfalso; omega) | rfl)
            · intro vs p hI0 hp
              have hI := Roll.inw_pure (by decide) rfl hI0
              clear hI0
              have h9 : (vs 9) = .slice (some ⟨b, off, none⟩) n c := hp 9 (by simp [Lwr7])
              have h10 : (vs 10) = .int .i64 (i : Int) := hp 10 (by simp [Lwr7])
              have e41 : (Roll.putD Dwr7 vs [9, 10] b0).eval (.tmp 41) = .slice (some ⟨b, off, none⟩) n c := (Roll.eval_new 9 rfl (by decide) (by decide) (by omega)).trans h9
              have e42 : (Roll.putD Dwr7 vs [9, 10] b0).eval (.tmp 42) = .int .i64 (i : Int) := (Roll.eval_new 10 rfl (by decide) (by decide) (by omega)).trans h10
              clear hp hlv hN
              unfold Roll.Goes
              simp only [Lwr7, List.getD_cons_zero, List.getD_cons_succ]
              generalize Roll.putD Dwr7 vs [9, 10] b0 = a1 at *
              have hin := HIN.out
              have hnc := HNC.out
              have hob : off + i * 5 = ob := HOB.out
              
              refine Roll.goes_val (w' := p) (.pointer (some ⟨b, ob, none⟩)) rfl ?_ ⟨(Roll.outw_pure (by decide) rfl), rfl⟩
              (have ec : ∀ x, a1.eval (.const x) = x := fun _ => rfl); (have ef : ∀ x, a1.eval (.func x) = .func (.func x) #[] #[] := fun _ => rfl); generalize a1.eval = ρ at *
              clear h9 h10
              go_simp <;> (intros; first | (exfalso; omega) | rfl)
            · intro vs p hI0 hp
              have hI := Roll.inw_pure (by decide) rfl hI0
              clear hI0
              have h11 : (vs 11) = .pointer (some ⟨b, ob, none⟩) := hp 11 (by simp [Lwr7])
              have e43 : (Roll.putD Dwr7 vs [11] b0).eval (.tmp 43) = .pointer (some ⟨b, ob, none⟩) := (Roll.eval_new 11 rfl (by decide) (by decide) (by omega)).trans h11
              clear hp hlv hN
              unfold Roll.Goes
              simp only [Lwr7, List.getD_cons_zero, List.getD_cons_succ]
              generalize Roll.putD Dwr7 vs [11] b0 = a1 at *
              refine Roll.goes_val (w' := p) (.pointer (some ⟨b, ob + 3, none⟩)) rfl ?_ ⟨(Roll.outw_pure (by decide) rfl), rfl⟩
              (have ec : ∀ x, a1.eval (.const x) = x := fun _ => rfl); (have ef : ∀ x, a1.eval (.func x) = .func (.func x) #[] #[] := fun _ => rfl); generalize a1.eval = ρ at *
              clear h11
              go_simp <;> (intros; first | (exfalso; omega) | rfl)
            · intro vs p hI0 hp
              have hI := Roll.inw_pure (by decide) rfl hI0
              clear hI0
              have h12 : (vs 12) = .pointer (some ⟨b, ob + 3, none⟩) := hp 12 (by simp [Lwr7])
              have e44 : (Roll.putD Dwr7 vs [12] b0).eval (.tmp 44) = .pointer (some ⟨b, ob + 3, none⟩) := (Roll.eval_new 12 rfl (by decide) (by decide) (by omega)).trans h12
              clear hp hlv hN
              unfold Roll.Goes
              simp only [Lwr7, List.getD_cons_zero, List.getD_cons_succ]
              generalize Roll.putD Dwr7 vs [12] b0 = a1 at *
              have cf : p.cell? ⟨b, ob + 3, none⟩ = some (.slice m.ba m.bn m.bc) := (hI.cell (p := ⟨b, ob + 3, none⟩) HBQ.out.1 HBQ.out.2).trans C3.out
              refine Roll.goes_val (w' := p) (.slice m.ba m.bn m.bc) rfl ?_ ⟨(Roll.outw_pure (by decide) rfl), rfl⟩
              (have ec : ∀ x, a1.eval (.const x) = x := fun _ => rfl); (have ef : ∀ x, a1.eval (.func x) = .func (.func x) #[] #[] := fun _ => rfl); generalize a1.eval = ρ at *
              clear h12
              go_simp <;> (intros; first | (exfalso; omega) | rfl)
            · intro vs p hI0 hp
              have hI := Roll.inw_pre (by decide) rfl hI0
              clear hI0
              have h13 : (vs 13) = .slice m.ba m.bn m.bc := hp 13 (by simp [Lwr7])
              have e45 : (Roll.putD Dwr7 vs [13] b0).eval (.tmp 45) = .slice m.ba m.bn m.bc := (Roll.eval_new 13 rfl (by decide) (by decide) (by omega)).trans h13
              clear hp hlv hN
              unfold Roll.Goes
              simp only [Lwr7, List.getD_cons_zero, List.getD_cons_succ]
              generalize Roll.putD Dwr7 vs [13] b0 = a1 at *
              refine Roll.goes_call 33 #[.slice m.ba m.bn m.bc, .int .i64 70] p rfl (by have ec : ∀ x, a1.eval (.const x) = x := fun _ => rfl; have ef : ∀ x, a1.eval (.func x) = .func (.func x) #[] #[] := fun _ => rfl; generalize a1.eval = ρ at *; go_simp) ?_
              refine (few_any _ m.ba m.bn m.bc 70 m.b p (HMB.out.kept (Kept.of_below (fun _ => False) hI) (fun _ _ _ h => h)) (by omega)).mono ?_
              rintro y p2 ⟨v2, rfl, hm2⟩
              obtain ⟨a2, c2, rfl, hb2⟩ := hm2.bs
              obtain ⟨_, _, _, hbl⟩ := hm2
              rw [show m.b.take 70 = bf from HBF.out.symm] at hb2 ⊢
              exact ⟨_, rfl, Roll.outw_pre (by decide) rfl (hI.trans (hbl.mono hI.size)) (Kept.of_below _ hbl), a2, c2, rfl, hb2.dom (fun x hx => Nat.le_trans hI.size hx)⟩
            · intro vs p hI0 hp
              have hI := Roll.inw_pure (by decide) rfl hI0
              clear hI0
              have e1 : (Roll.putD Dwr7 vs [] b0).eval (.tmp 1) = .slice (some ⟨b, off, none⟩) n c := (Roll.eval_old rfl).trans (hlv.at 0 (1, .slice (some ⟨b, off, none⟩) n c) rfl)
              clear hp hlv hN
              unfold Roll.Goes
              simp only [Lwr7, List.getD_cons_zero, List.getD_cons_succ]
              generalize Roll.putD Dwr7 vs [] b0 = a1 at *
              refine Roll.goes_val (w' := p) (.slice (some ⟨b, off, none⟩) n c) rfl ?_ ⟨(Roll.outw_pure (by decide) rfl), rfl⟩
              (have ec : ∀ x, a1.eval (.const x) = x := fun _ => rfl); (have ef : ∀ x, a1.eval (.func x) = .func (.func x) #[] #[] := fun _ => rfl); generalize a1.eval = ρ at *
              skip
              go_simp <;> (intros; first | (exfalso; omega) | rfl)
            · intro vs p hI0 hp
              have hI := Roll.inw_pure (by decide) rfl hI0
              clear hI0
              have e6 : (Roll.putD Dwr7 vs [] b0).eval (.tmp 6) = .int .i64 (i : Int) := (Roll.eval_old rfl).trans (hlv.at 2 (6, .int .i64 (i : Int)) rfl)
              clear hp hlv hN
              unfold Roll.Goes
              simp only [Lwr7, List.getD_cons_zero, List.getD_cons_succ]
              generalize Roll.putD Dwr7 vs [] b0 = a1 at *
              refine Roll.goes_val (w' := p) (.int .i64 (i : Int)) rfl ?_ ⟨(Roll.outw_pure (by decide) rfl), rfl⟩
              (have ec : ∀ x, a1.eval (.const x) = x := fun _ => rfl); (have ef : ∀ x, a1.eval (.func x) = .func (.func x) #[] #[] := fun _ => rfl); generalize a1.eval = ρ at *
              skip
              go_simp <;> (intros; first | (exfalso; omega) | rfl)
            · intro vs p hI0 hp
              have hI := Roll.inw_pure (by decide) rfl hI0
              clear hI0
              have h15 : (vs 15) = .slice (some ⟨b, off, none⟩) n c := hp 15 (by simp [Lwr7])
              have h16 : (vs 16) = .int .i64 (i : Int) := hp 16 (by simp [Lwr7])
              have e47 : (Roll.putD Dwr7 vs [15, 16] b0).eval (.tmp 47) = .slice (some ⟨b, off, none⟩) n c := (Roll.eval_new 15 rfl (by decide) (by decide) (by omega)).trans h15
              have e48 : (Roll.putD Dwr7 vs [15, 16] b0).eval (.tmp 48) = .int .i64 (i : Int) := (Roll.eval_new 16 rfl (by decide) (by decide) (by omega)).trans h16
              clear hp hlv hN
              unfold Roll.Goes
              simp only [Lwr7, List.getD_cons_zero, List.getD_cons_succ]
              generalize Roll.putD Dwr7 vs [15, 16] b0 = a1 at *
              have hin := HIN.out
              have hnc := HNC.out
              have hob : off + i * 5 = ob := HOB.out
              
              refine Roll.goes_val (w' := p) (.pointer (some ⟨b, ob, none⟩)) rfl ?_ ⟨(Roll.outw_pure (by decide) rfl), rfl⟩
              (have ec : ∀ x, a1.eval (.const x) = x := fun _ => rfl); (have ef : ∀ x, a1.eval (.func x) = .func (.func x) #[] #[] := fun _ => rfl); generalize a1.eval = ρ at *
              clear h15 h16
              go_simp <;> (intros; first | (exfalso; omega) | rfl)
            · intro vs p hI0 hp
              have hI := Roll.inw_pure (by decide) rfl hI0
              clear hI0
              have h17 : (vs 17) = .pointer (some ⟨b, ob, none⟩) := hp 17 (by simp [Lwr7])
              have e49 : (Roll.putD Dwr7 vs [17] b0).eval (.tmp 49) = .pointer (some ⟨b, ob, none⟩) := (Roll.eval_new 17 rfl (by decide) (by decide) (by omega)).trans h17
              clear hp hlv hN
              unfold Roll.Goes
              simp only [Lwr7, List.getD_cons_zero, List.getD_cons_succ]
              generalize Roll.putD Dwr7 vs [17] b0 = a1 at *
              refine Roll.goes_val (w' := p) (.pointer (some ⟨b, ob + 2, none⟩)) rfl ?_ ⟨(Roll.outw_pure (by decide) rfl), rfl⟩
              (have ec : ∀ x, a1.eval (.const x) = x := fun _ => rfl); (have ef : ∀ x, a1.eval (.func x) = .func (.func x) #[] #[] := fun _ => rfl); generalize a1.eval = ρ at *
              clear h17
              go_simp <;> (intros; first | (exfalso; omega) | rfl)
            · intro vs p hI0 hp
              have hI := Roll.inw_pure (by decide) rfl hI0
              clear hI0
              have h18 : (vs 18) = .pointer (some ⟨b, ob + 2, none⟩) := hp 18 (by simp [Lwr7])
              have e50 : (Roll.putD Dwr7 vs [18] b0).eval (.tmp 50) = .pointer (some ⟨b, ob + 2, none⟩) := (Roll.eval_new 18 rfl (by decide) (by decide) (by omega)).trans h18
              clear hp hlv hN
              unfold Roll.Goes
              simp only [Lwr7, List.getD_cons_zero, List.getD_cons_succ]
              generalize Roll.putD Dwr7 vs [18] b0 = a1 at *
              have cf : p.cell? ⟨b, ob + 2, none⟩ = some (.int .i64 m.n) := (hI.cell (p := ⟨b, ob + 2, none⟩) HBQ.out.1 HBQ.out.2).trans C2.out
              refine Roll.goes_val (w' := p) (.int .i64 m.n) rfl ?_ ⟨(Roll.outw_pure (by decide) rfl), rfl⟩
              (have ec : ∀ x, a1.eval (.const x) = x := fun _ => rfl); (have ef : ∀ x, a1.eval (.func x) = .func (.func x) #[] #[] := fun _ => rfl); generalize a1.eval = ρ at *
              clear h18
              go_simp <;> (intros; first | (exfalso; omega) | rfl)
            · intro vs p hI0 hp
              have hI := Roll.inw_pre (by decide) rfl hI0
              clear hI0
              have h14 : ∃ a2 c2, (vs 14) = .slice a2 bf.length c2 ∧ Bs (fun x => q.heap.size ≤ x) p a2 bf.length c2 bf := hp 14 (by simp [Lwr7])
              have h19 : (vs 19) = .int .i64 m.n := hp 19 (by simp [Lwr7])
              have e46 : (Roll.putD Dwr7 vs [14, 19] b0).eval (.tmp 46) = vs 14 := (Roll.eval_new 14 rfl (by decide) (by decide) (by omega))
              have e51 : (Roll.putD Dwr7 vs [14, 19] b0).eval (.tmp 51) = .int .i64 m.n := (Roll.eval_new 19 rfl (by decide) (by decide) (by omega)).trans h19
              clear hp hlv hN
              unfold Roll.Goes
              simp only [Lwr7, List.getD_cons_zero, List.getD_cons_succ]
              generalize Roll.putD Dwr7 vs [14, 19] b0 = a1 at *
              obtain ⟨a2, c2, hv2, hb2⟩ := h14
              rw [hv2] at e46
              refine Roll.goes_call 32 #[.slice a2 bf.length c2, .int .i64 m.n] p rfl (by have ec : ∀ x, a1.eval (.const x) = x := fun _ => rfl; have ef : ∀ x, a1.eval (.func x) = .func (.func x) #[] #[] := fun _ => rfl; generalize a1.eval = ρ at *; go_simp) ?_
              refine (fill_any m.n HMN.out.1 HMN.out.2 p hb2).mono ?_
              rintro y p2 ⟨v3, l3, rfl, hl3, hm3⟩
              obtain ⟨a3, c3, rfl, hb3⟩ := hm3.bs
              obtain ⟨_, _, _, hbl⟩ := hm3
              rw [hl3] at hb3 ⊢
              exact ⟨_, rfl, Roll.outw_pre (by decide) rfl (hI.trans (hbl.mono hI.size)) (Kept.of_below _ hbl), a3, c3, l3, rfl, hl3, hb3.dom (fun x hx => Nat.le_trans hI.size hx)⟩
            · intro vs p hI0 hp
              have hI := Roll.inw_k0 rfl hI0
              clear hI0
              have h0 : (vs 0) = .pointer (some ⟨g, 0, none⟩) := hp 0 (by simp [Lwr7])
              have h8 : (vs 8) = .int .i64 (kk : Int) := hp 8 (by simp [Lwr7])
              have h20 : ∃ a2 c2 l2, (vs 20) = .slice a2 64 c2 ∧ l2.length = 64 ∧ Bs (fun x => q.heap.size ≤ x) p a2 64 c2 l2 := hp 20 (by simp [Lwr7])
              have e32 : (Roll.putD Dwr7 vs [0, 8, 20] b0).eval (.tmp 32) = .pointer (some ⟨g, 0, none⟩) := (Roll.eval_new 0 rfl (by decide) (by decide) (by omega)).trans h0
              have e40 : (Roll.putD Dwr7 vs [0, 8, 20] b0).eval (.tmp 40) = .int .i64 (kk : Int) := (Roll.eval_new 8 rfl (by decide) (by decide) (by omega)).trans h8
              have e52 : (Roll.putD Dwr7 vs [0, 8, 20] b0).eval (.tmp 52) = vs 20 := (Roll.eval_new 20 rfl (by decide) (by decide) (by omega))
              clear hp hlv hN
              unfold Roll.Goes
              simp only [Lwr7, List.getD_cons_zero, List.getD_cons_succ]
              generalize Roll.putD Dwr7 vs [0, 8, 20] b0 = a1 at *
              obtain ⟨a3, c3, l3, hv3, hl3, hb3⟩ := h20
              rw [hv3] at e52
              refine Roll.goes_call 31 #[.pointer (some ⟨g, 0, none⟩), .int .i64 (kk : Int), .slice a3 64 c3] p rfl (by have ec : ∀ x, a1.eval (.const x) = x := fun _ => rfl; have ef : ∀ x, a1.eval (.func x) = .func (.func x) #[] #[] := fun _ => rfl; generalize a1.eval = ρ at *; go_simp) ?_
              have hdp := HD.out.kept (Kept.of_below (fun _ => False) hI) (fun _ _ h => h)
              refine (write_ok hdp hb3 kk HKS.out HON.out (Nat.le_refl _)).mono ?_
              rintro y p2 ⟨rfl, row', hd2, hk2, hf2⟩
              have KB : Kept B p p2 := hk2.mono (fun j _ hj => HBB.out j hj)
              have KQ : Kept B q p2 := (Kept.of_below B hI).trans KB (fun _ _ h => h)
              exact ⟨_, rfl, Roll.outw_k0 rfl ⟨⟨l3, hl3, HSET.out p2 _ (Blk g gd gm row') ⟨gd, gm, row', _, hd2, fun _ h => h⟩ KQ (fun j hj => (hf2 j hj).imp (HBB.out j) (fun e => Nat.le_trans hI.size e)) (fun j hj => hd2.lt j hj)⟩, KQ⟩ KB, rfl⟩
          · intro vs p hI hR
            have h0 : (vs 0) = .pointer (some ⟨g, 0, none⟩) := hR 0 (by omega)
            have h1 : (vs 1) = .slice (some ⟨b, off, none⟩) n c := hR 1 (by omega)
            have h2 : (vs 2) = .int .i64 (i : Int) := hR 2 (by omega)
            have h3 : (vs 3) = .pointer (some ⟨b, ob, none⟩) := hR 3 (by omega)
            have h4 : (vs 4) = .pointer (some ⟨b, ob + 1, none⟩) := hR 4 (by omega)
            have h5 : (vs 5) = .int .i64 m.k := hR 5 (by omega)
            have h6 : (vs 6) = .pointer (some ⟨g, 0, none⟩) := hR 6 (by omega)
            have h7 : (vs 7) = .int .i64 (S : Int) := hR 7 (by omega)
            have h8 : (vs 8) = .int .i64 (kk : Int) := hR 8 (by omega)
            have h9 : (vs 9) = .slice (some ⟨b, off, none⟩) n c := hR 9 (by omega)
            have h10 : (vs 10) = .int .i64 (i : Int) := hR 10 (by omega)
            have h11 : (vs 11) = .pointer (some ⟨b, ob, none⟩) := hR 11 (by omega)
            have h12 : (vs 12) = .pointer (some ⟨b, ob + 3, none⟩) := hR 12 (by omega)
            have h13 : (vs 13) = .slice m.ba m.bn m.bc := hR 13 (by omega)
            have h14 : ∃ a2 c2, (vs 14) = .slice a2 bf.length c2 ∧ Bs (fun x => q.heap.size ≤ x) p a2 bf.length c2 bf := hR 14 (by omega)
            have h15 : (vs 15) = .slice (some ⟨b, off, none⟩) n c := hR 15 (by omega)
            have h16 : (vs 16) = .int .i64 (i : Int) := hR 16 (by omega)
            have h17 : (vs 17) = .pointer (some ⟨b, ob, none⟩) := hR 17 (by omega)
            have h18 : (vs 18) = .pointer (some ⟨b, ob + 2, none⟩) := hR 18 (by omega)
            have h19 : (vs 19) = .int .i64 m.n := hR 19 (by omega)
            have h20 : ∃ a2 c2 l2, (vs 20) = .slice a2 64 c2 ∧ l2.length = 64 ∧ Bs (fun x => q.heap.size ≤ x) p a2 64 c2 l2 := hR 20 (by omega)
            have h21 : (vs 21) = .int .i64 0 := hR 21 (by omega)
            clear hR
            simp only [List.range_succ, List.range_zero, List.nil_append, List.cons_append, Roll.putD, Act.put, List.getD_cons_zero, List.getD_cons_succ, List.setIfInBounds_toArray, List.set_cons_zero, List.set_cons_succ, List.drop_succ_cons, List.drop_zero, Dwr7]
            simp only [h0, h1, h2, h3, h4, h5, h6, h7, h8, h9, h10, h11, h12, h13, h15, h16, h17, h18, h19, h21]
            clear h0 h1 h2 h3 h4 h5 h6 h7 h8 h9 h10 h11 h12 h13 h15 h16 h17 h18 h19 h21
            obtain ⟨⟨l2, hl2, hl3⟩, hKB⟩ := hI
            have HL3 := Lib.hid hl3
            have Hl2 := Lib.hid hl2
            clear hl2 hl3 hKB h14 h20
            go_wp2_with fail
            go_roundw
            case rel => exact ⟨i + 1, by omega, by omega, by go_num, d.write kk l2, HL3.out, (write_on HF0.out).trans HON.out, (write_fuse HF0.out).trans HF0.out, (write_len d kk l2).trans HSL.out, DM.write_ok HOKi.out Hl2.out⟩
            case measure => simp [intOf]; omega
      · obtain rfl : i = 40 := by omega
        go_wp2_with fail
        go_ret
        exact ⟨g, d, rfl, HL.out, HON.out, HF0.out, HSL.out, HOKi.out⟩
    · have hin : (n : Int) ≤ (i : Int) := by omega
      go_wp2_with fail
      go_ret
      exact ⟨g, d, rfl, HL.out, HON.out, HF0.out, HSL.out, HOKi.out.mono hi40⟩
end Go.Proofs.Ytbnodhcgdgcebaa

/-
  The law ZoneGaps (written by gen_ZK.py).
-/
import Derived.Test.YtcdjilnlmihnhaaZJ
namespace Go.Proofs.Ytcdjilnlmihnhaa
open Go.RowKit
set_option linter.unusedSimpArgs false
set_option linter.unusedVariables false
attribute [local go_sem ↓] exec_loadShift exec_storeShift exec_loadSeg exec_storeSeg exec_loadZone exec_storeZone
attribute [local go_sem] run_storeShift run_storeSeg run_storeZone
def Dzg13 : List (Option Tmp) := [some 75, some 76, some 77, some 78, some 79, some 80, some 81, some 82, some 83, some 84, some 85, some 86, some 87, some 88, some 89, some 90, some 91, some 92, some 93, some 94, some 95, some 96, some 97, some 98, some 99, some 6]
def Lzg13 : List (List Nat) := [[], [], [1], [0, 2], [3], [4], [5, 4], [6, 4], [7], [7], [7], [7], [8, 9, 10, 11, 7], [7], [13, 7], [7], [14, 15, 7], [16, 7], [17, 7], [12, 18, 7], [7, 19, 4], [4, 20], [21], [22], [22, 23], [24]]
theorem far_drop : ∀ (L : List SM) (f : Int) (i : Nat) (h : i < L.length), Far f L → (f ≤ L[i].t ∧ L[i].t ≤ 8589934592 + 1440000) ∧ (-900 ≤ L[i].o ∧ L[i].o ≤ 900) ∧ Far (L[i].t + 2880) (L.drop (i + 1))
  | [], _, i, h, _ => by simp at h
  | s :: l, f, 0, _, hF => ⟨hF.1, hF.2.1, hF.2.2⟩
  | s :: l, f, i + 1, h, hF => by
    have := far_drop l (s.t + 2880) i (by simpa using h) hF.2.2
    have h1 := hF.1
    exact ⟨⟨by show f ≤ (l[i]'(by simpa using h)).t; omega, this.1.2⟩, this.2.1, this.2.2⟩
/-- what the law's loop has found -/
def GI (k O : Int) (L : List SM) (i : Nat) (sk bef : Int) : Prop :=
  (-900 ≤ bef ∧ bef ≤ 900) ∧ ((sk = -1 ∧ gapF k bef (L.drop i) = gapF k O L) ∨ (∃ (j : Nat) (h : j < L.length), sk = (j : Int) ∧ gapF k O L = some L[j].t ∧ gapF k bef (L.drop i) = none))
theorem GI.step {k O : Int} {L : List SM} {i : Nat} {sk bef : Int} (h : GI k O L i sk bef) (hi : i < L.length) (hF : Far 0 L) :
    GI k O L (i + 1) (if L[i].t + bef ≤ k ∧ k < L[i].t + L[i].o then (i : Int) else sk) L[i].o := by
  obtain ⟨hb, h⟩ := h
  have hd := far_drop L 0 i hi hF
  rw [List.drop_eq_getElem_cons hi, gapF] at h
  refine ⟨hd.2.1, ?_⟩
  by_cases hc : L[i].t + bef ≤ k ∧ k < L[i].t + L[i].o
  · rw [if_pos hc] at h ⊢
    rcases h with ⟨-, h⟩ | ⟨j, hj, -, -, h⟩
    · exact .inr ⟨i, hi, rfl, h.symm, gapF_none _ _ _ hd.2.2 hd.2.1.1 (by omega)⟩
    · cases h
  · rw [if_neg hc] at h ⊢
    rcases h with ⟨h1, h⟩ | ⟨j, hj, h1, h2, h⟩
    · exact .inl ⟨h1, h⟩
    · exact .inr ⟨j, hj, h1, h2, h⟩
theorem GI.last {k O : Int} {L : List SM} {i : Nat} {sk bef : Int} (h : GI k O L i sk bef) (hi : L.length ≤ i) :
    (sk = -1 ∧ gapF k O L = none) ∨ (∃ (j : Nat) (h : j < L.length), sk = (j : Int) ∧ gapF k O L = some L[j].t) := by
  rcases h.2 with ⟨h1, h2⟩ | ⟨j, hj, h1, h2, -⟩
  · rw [List.drop_of_length_le hi] at h2
    exact .inl ⟨h1, h2.symm⟩
  · exact .inr ⟨j, hj, h1, h2⟩
set_option maxRecDepth 100000 in
set_option maxHeartbeats 8000000 in
theorem gaps_law {w : World} {a : Option Addr} {n c : Nat} {l : List Int} (hI : Is (fun b => b < w.heap.size) w a n c l) (hk : Ok64Z l) (x : Int) (late : Bool) (x1 : -9223372036854775808 ≤ x) (x2 : x ≤ 9223372036854775807) : Calls Try.prog 6 #[.slice a n c, .int .i64 x, .bool late] w fun e w' => e = .returned (.bool true) ∧ Below w.heap.size w w' := by
  have HZO := Lib.hid (zone_any hI hk)
  have ho := zoneO_bd l
  have hf := zoneL_far l
  have hl := zoneL_len l
  obtain ⟨O, hO⟩ : ∃ O, O = zoneO l := ⟨_, rfl⟩
  obtain ⟨L, hL⟩ : ∃ L, L = zoneL l := ⟨_, rfl⟩
  rw [← hO, ← hL] at HZO
  rw [← hO] at ho
  rw [← hL] at hf hl
  have HO := Lib.hid ho
  have HF := Lib.hid hf
  have HLN := Lib.hid hl
  clear hI hk ho hf hl hO hL
  have HLV := Lib.hid (fun u => lives_any u)
  have HLO := Lib.hid (fun u => localZ_any x u x1 x2)
  have hkb := boundZ_bd x 500000 (by omega)
  obtain ⟨k, hk⟩ : ∃ k, k = boundZ x 500000 := ⟨_, rfl⟩
  rw [← hk] at HLO hkb
  obtain ⟨d, hd⟩ : ∃ d, d = k / 1440 := ⟨_, rfl⟩
  obtain ⟨s, hs⟩ : ∃ s, s = k % 1440 := ⟨_, rfl⟩
  rw [← hd, ← hs] at HLO
  have j1 : IntKind.i64.wrap (1440 * d) = 1440 * d := i64_id _ (by omega) (by omega)
  have j2 : IntKind.i64.wrap (1440 * d + s) = k := by rw [i64_id _ (by omega) (by omega)]; omega
  have HKB : Hid ((-500000 ≤ k ∧ k ≤ 500000) ∧ (-400 ≤ d ∧ d ≤ 400) ∧ (0 ≤ s ∧ s < 1440) ∧ k = 1440 * d + s) := Lib.hid (by omega)
  clear hk hd hs hkb
  go_enter Try.func6, Try.ntmps6
  go_upto_region 2 with (go_at_call 14; refine HZO.out.mono ?_; rintro e w1 ⟨az, nz, cz, rfl, hs, hb⟩; unfold zV; have HS0 := Lib.hid hs; have HB0 := Lib.hid hb; have p0 : ZoneB (w1.alloc (.cells #[.int .i64 0, .slice none 0 0] 24)) w1.heap.size := ⟨_, _, heap_newZ⟩; clear hs hb HZO)
  obtain ⟨W1, hW1⟩ : ∃ W1, W1 = (w1.alloc (.cells #[.int .i64 0, .slice none 0 0] 24)).setRow w1.heap.size #[.int .i64 O, .slice az nz cz] := ⟨_, rfl⟩
  obtain ⟨gz, hgz⟩ : ∃ gz, gz = w1.heap.size := ⟨_, rfl⟩
  have hr1 : W1.heap[gz]? = some (.cells #[.int .i64 O, .slice az nz cz] 24 (0, 0)) := by rw [hW1, hgz]; exact setRow_heap _ _ _ _ _ _ heap_newZ
  have hb1 : Below w1.heap.size w1 W1 := by rw [hW1]; exact (((Kept.refl (fun _ => False) w1).alloc _).setRow (fun h => by omega) _).below (Nat.le_refl _) (fun _ _ h => h)
  rw [← hW1]
  rw [← hgz]
  have HS := Lib.hid ((HS0.out.below hb1).dom (D' := fun _ => True) (fun _ _ => trivial))
  have HW := Lib.hid (HB0.out.trans (hb1.mono HB0.out.size))
  have HR := Lib.hid hr1
  have HGZL := Lib.hid (heap_lt hr1)
  have HN1 : Hid (nz ≤ 20) := Lib.hid (by have := HS.out.1; have := HLN.out; omega)
  have ldz := run_loadZone hr1
  have HBP : Hid (Below W1.heap.size W1 W1) := Lib.hid (Below.refl _ _)
  clear hW1 hgz hr1 hb1 HS0 HB0 p0
  have CR0 : Hid (∀ u, Below W1.heap.size W1 u → Calls Try.prog 24 #[.agg #[.int .i64 O, .slice az nz cz], .int .i64 d, .int .i64 s, .bool late] u fun e w' => e = .returned (.int .i64 (resP late k 0 (segL minI O L))) ∧ Below u.heap.size u w') := Lib.hid (fun u hu => resolve_any (HS.out.below hu) HO.out HF.out.offs (by have := HKB.out; omega) (by have := HKB.out; omega) (by have := HKB.out; omega))
  have CI0 : Hid (∀ u, Below W1.heap.size W1 u → Calls Try.prog 22 #[.agg #[.int .i64 O, .slice az nz cz], .int .i64 d, .int .i64 s] u fun e w' => (∃ a c, e = .returned (.slice a (insP k (segL minI O L)).length c)) ∧ Below u.heap.size u w') := Lib.hid (fun u hu => by
    refine (instants_any (N := k) (HS.out.below hu) HO.out HF.out.offs (by have := HLN.out; omega) (by have := HKB.out; omega) (by have := HKB.out; omega) (by have := HKB.out; omega) (by have := HKB.out; omega)).mono ?_
    rintro e w' ⟨v, rfl, hr, hb⟩
    obtain ⟨a, n, c, rfl, hi⟩ := Is.row hr
    rw [hi.1]
    exact ⟨⟨a, c, rfl⟩, hb⟩)
  have HMAIN := Lib.hid (zmain (n := k) (by have := HKB.out; omega) L minI O (far_min HF.out) HO.out.1 HO.out.2 (by have := HO.out; have := HKB.out; unfold minI; omega))
  have c0 : W1.cell? ⟨gz, 0, none⟩ = some (.int .i64 O) := cell_of_row W1 gz 0 _ _ _ HR.out
  have c1 : W1.cell? ⟨gz, 1, none⟩ = some (.slice az nz cz) := cell_of_row W1 gz 1 _ _ _ HR.out
  have hm1 : nz ≤ cz := HS.out.2.2.1
  have hm2 : cz ≤ 9223372036854775807 := HS.out.2.2.2.1
  have hn20 := HN1.out
  clear ldz
  go_upto_region 3 with (go_at_call 20; refine (HLO.out _).mono ?_; rintro e w2 ⟨rfl, rfl⟩)
  go_wp2_with fail
  clear c0 j1 j2
  go_loopw [11, 12, 13] (fun x y z wr => ∃ (i : Nat) (sk bef : Int) (dn : Nat), i ≤ nz ∧ x = .int .i64 sk ∧ y = .int .i64 bef ∧ z = .int .i64 (i : Int) ∧ GI k O L i sk bef ∧ wr = W1.drewN dn) (fun _ _ z _ => nz - (intOf z).toNat)
  case atStart => exact ⟨0, -1, O, 0, Nat.zero_le _, rfl, rfl, rfl, ⟨HO.out, .inl ⟨rfl, rfl⟩⟩, rfl⟩
  case round =>
    obtain ⟨i, sk, bef, dn, hi, rfl, rfl, rfl, hgi, rfl⟩ := hrel
    have HGI := Lib.hid hgi
    have hbb := hgi.1
    by_cases hlt : i < nz
    · have hil : i < L.length := by rw [HS.out.1]; exact hlt
      have hlt2 : (i : Int) < (nz : Int) := by omega
      have k1 : IntKind.i64.wrap ((i : Int) + 1) = (i : Int) + 1 := i64_id _ (by omega) (by omega)
      obtain ⟨b, off, -, hbl, rfl, hc⟩ := HS.out.cells (by omega)
      obtain ⟨hct, hco⟩ := hc i hil
      have hfd := far_drop L 0 i hil HF.out
      have HST := Lib.hid (hgi.step hil HF.out)
      obtain ⟨ob, hob⟩ : ∃ ob, ob = off + i * 2 := ⟨_, rfl⟩
      rw [← hob] at hct hco
      have hob2 : off + i * 2 = ob := hob.symm
      generalize L[i] = r at *
      have j3 : IntKind.i64.wrap (r.t + bef) = r.t + bef := i64_id _ (by have := hfd.1; omega) (by have := hfd.1; omega)
      have j4 : IntKind.i64.wrap (r.t + r.o) = r.t + r.o := i64_id _ (by have := hfd.1; have := hfd.2.1; omega) (by have := hfd.1; have := hfd.2.1; omega)
      have HLT := Lib.hid hlt
      clear hc hob hil hfd hgi hbb HGI hlt
      by_cases h1 : r.t + bef ≤ k
      · by_cases h2 : k < r.t + r.o
        · have HGN : Hid (GI k O L (i + 1) (i : Int) r.o) := Lib.hid (by have := HST.out; rwa [if_pos ⟨h1, h2⟩] at this)
          go_wp2
          go_quiet (fail)
          go_wp2
          go_roundw
          case rel => exact ⟨i + 1, (i : Int), r.o, _, by have := HLT.out; omega, rfl, rfl, by go_num, HGN.out, rfl⟩
          case measure => simp [intOf]; have := HLT.out; omega
        · have HGN : Hid (GI k O L (i + 1) sk r.o) := Lib.hid (by have := HST.out; rwa [if_neg (fun h => h2 h.2)] at this)
          go_wp2
          go_quiet (fail)
          go_wp2
          go_roundw
          case rel => exact ⟨i + 1, sk, r.o, _, by have := HLT.out; omega, rfl, rfl, by go_num, HGN.out, rfl⟩
          case measure => simp [intOf]; have := HLT.out; omega
      · have HGN : Hid (GI k O L (i + 1) sk r.o) := Lib.hid (by have := HST.out; rwa [if_neg (fun h => h1 h.1)] at this)
        have f0 : decide (r.t + bef ≤ k) = false := decide_eq_false h1
        have f1 : decide (k < r.t + bef) = true := decide_eq_true (by omega)
        go_wp2
        go_quiet (fail)
        go_wp2
        go_roundw
        case rel => exact ⟨i + 1, sk, r.o, _, by have := HLT.out; omega, rfl, rfl, by go_num, HGN.out, rfl⟩
        case measure => simp [intOf]; have := HLT.out; omega
    · have hge : (nz : Int) ≤ (i : Int) := by omega
      have hla := HGI.out.last (by rw [HS.out.1]; omega)
      have HLA := Lib.hid hla
      have ldz := run_loadZone (w := W1.drewN dn) (g := gz) HR.out
      have HBD : Hid (Below W1.heap.size W1 (W1.drewN dn)) := Lib.hid (below_drewZ (Below.refl _ _) _)
      clear hlt hgi hbb HGI hla
      have CI := CI0
      have CR := CR0
      rcases HLA.out with ⟨rfl, hg⟩ | ⟨j, hj, rfl, hg⟩
      · obtain ⟨m, hm⟩ : ∃ m, m = (insP k (segL minI O L)).length := ⟨_, rfl⟩
        have HM : Hid (0 < m) := Lib.hid (by
          rcases HMAIN.out with ⟨-, x, hx, -⟩ | ⟨-, a, b, ha, -⟩
          · rw [hg] at hx; cases hx
          · rw [hm]
            cases h : insP k (segL minI O L) with
            | nil => rw [h] at ha; cases ha
            | cons x l => simp)
        rw [← hm] at CI
        have hm0 : ((m : Int) == 0) = false := by rw [beq_eq_false_iff_ne]; have := HM.out; omega
        clear hm hg
        go_upto_region 13 with (go_at_call 22; refine (CI.out _ HBD.out).mono ?_; rintro e q1 ⟨⟨ai, ci, rfl⟩, hb⟩; have HBP := Lib.hid (HBD.out.trans (hb.mono HBD.out.size)); have HRN := Lib.hid ((hb.block gz (heap_lt HR.out)).trans HR.out); clear HR ldz hb HBD; have HR := HRN; clear HRN)
        clear hm0 hge c1 hm1 hm2 hn20
        have HGZL2 := Lib.hid (heap_lt HR.out)
        clear HGZL
        have HGZL := HGZL2
        clear HGZL2
        refine Roll.region_f 25 100 Dzg13 Lzg13 [(2, .bool late), (7, .pointer (some ⟨gz, 0, none⟩)), (8, .int .i64 d), (9, .int .i64 s), (11, .int .i64 (-1)), (14, .bool false)] (fun p => Below q1.heap.size q1 p) (fun p p2 => Below p.heap.size p p2) [fun vv p => vv = .bool false, fun vv p => vv = .int .i64 (-1), fun vv p => vv = .bool false, fun vv p => vv = .bool true, fun vv p => vv = .bool true, fun vv p => vv = .bool false, fun vv p => vv = .bool true, fun vv p => vv = .bool true, fun vv p => vv = undef, fun vv p => vv = undef, fun vv p => vv = undef, fun vv p => vv = undef, fun vv p => vv = undef, fun vv p => vv = undef, fun vv p => vv = undef, fun vv p => vv = undef, fun vv p => vv = undef, fun vv p => vv = undef, fun vv p => vv = undef, fun vv p => vv = undef, fun vv p => vv = .bool true, fun vv p => vv = .bool true, fun vv p => vv = .bool true, fun vv p => vv = .bool true, fun vv p => vv = .bool true] (by kernel_rfl) (by kernel_rfl) rfl ⟨rfl, rfl, rfl, rfl, rfl, rfl, trivial⟩ ((Below.refl _ _).drew) ?_ ?_ ?_
        · exact ⟨fun _ _ _ _ h => h, fun _ _ _ _ h => h, fun _ _ _ _ h => h, fun _ _ _ _ h => h, fun _ _ _ _ h => h, fun _ _ _ _ h => h, fun _ _ _ _ h => h, fun _ _ _ _ h => h, fun _ _ _ _ h => h, fun _ _ _ _ h => h, fun _ _ _ _ h => h, fun _ _ _ _ h => h, fun _ _ _ _ h => h, fun _ _ _ _ h => h, fun _ _ _ _ h => h, fun _ _ _ _ h => h, fun _ _ _ _ h => h, fun _ _ _ _ h => h, fun _ _ _ _ h => h, fun _ _ _ _ h => h, fun _ _ _ _ h => h, fun _ _ _ _ h => h, fun _ _ _ _ h => h, fun _ _ _ _ h => h, fun _ _ _ _ h => h, trivial⟩
        · intro b0 hN hlv
          refine ⟨?_, ?_, ?_, ?_, ?_, ?_, ?_, ?_, ?_, ?_, ?_, ?_, ?_, ?_, ?_, ?_, ?_, ?_, ?_, ?_, ?_, ?_, ?_, ?_, ?_, trivial⟩
          · intro vs p hI hp
            have e14 : (Roll.putD Dzg13 vs [] b0).eval (.tmp 14) = .bool false := (Roll.eval_old rfl).trans (hlv.at 5 (14, .bool false) rfl)
            clear hp hlv hN
            unfold Roll.Goes
            simp only [Lzg13, List.getD_cons_zero, List.getD_cons_succ]
            generalize Roll.putD Dzg13 vs [] b0 = a1 at *
            refine Roll.goes_val (w' := p) (.bool false) rfl ?_ ⟨hI, Below.refl _ _, rfl⟩
            (have ec : ∀ x, a1.eval (.const x) = x := fun _ => rfl); (have ef : ∀ x, a1.eval (.func x) = .func (.func x) #[] #[] := fun _ => rfl); generalize a1.eval = ρ at *
            skip
            go_simp <;> (intros; first | (exfalso; omega) | rfl | omega)
          · intro vs p hI hp
            have e11 : (Roll.putD Dzg13 vs [] b0).eval (.tmp 11) = .int .i64 (-1) := (Roll.eval_old rfl).trans (hlv.at 4 (11, .int .i64 (-1)) rfl)
            clear hp hlv hN
            unfold Roll.Goes
            simp only [Lzg13, List.getD_cons_zero, List.getD_cons_succ]
            generalize Roll.putD Dzg13 vs [] b0 = a1 at *
            refine Roll.goes_val (w' := p) (.int .i64 (-1)) rfl ?_ ⟨hI, Below.refl _ _, rfl⟩
            (have ec : ∀ x, a1.eval (.const x) = x := fun _ => rfl); (have ef : ∀ x, a1.eval (.func x) = .func (.func x) #[] #[] := fun _ => rfl); generalize a1.eval = ρ at *
            skip
            go_simp <;> (intros; first | (exfalso; omega) | rfl | omega)
          · intro vs p hI hp
            have h1 : (vs 1) = .int .i64 (-1) := hp 1 (by simp [Lzg13])
            have e76 : (Roll.putD Dzg13 vs [1] b0).eval (.tmp 76) = .int .i64 (-1) := (Roll.eval_new 1 rfl (by decide) (by decide) (by omega)).trans h1
            clear hp hlv hN
            unfold Roll.Goes
            simp only [Lzg13, List.getD_cons_zero, List.getD_cons_succ]
            generalize Roll.putD Dzg13 vs [1] b0 = a1 at *
            refine Roll.goes_val (w' := p) (.bool false) rfl ?_ ⟨hI, Below.refl _ _, rfl⟩
            (have ec : ∀ x, a1.eval (.const x) = x := fun _ => rfl); (have ef : ∀ x, a1.eval (.func x) = .func (.func x) #[] #[] := fun _ => rfl); generalize a1.eval = ρ at *
            clear h1
            go_simp <;> (intros; first | (exfalso; omega) | rfl | omega)
          · intro vs p hI hp
            have h0 : (vs 0) = .bool false := hp 0 (by simp [Lzg13])
            have h2 : (vs 2) = .bool false := hp 2 (by simp [Lzg13])
            have e75 : (Roll.putD Dzg13 vs [0, 2] b0).eval (.tmp 75) = .bool false := (Roll.eval_new 0 rfl (by decide) (by decide) (by omega)).trans h0
            have e77 : (Roll.putD Dzg13 vs [0, 2] b0).eval (.tmp 77) = .bool false := (Roll.eval_new 2 rfl (by decide) (by decide) (by omega)).trans h2
            clear hp hlv hN
            unfold Roll.Goes
            simp only [Lzg13, List.getD_cons_zero, List.getD_cons_succ]
            generalize Roll.putD Dzg13 vs [0, 2] b0 = a1 at *
            refine Roll.goes_val (w' := p) (.bool true) rfl ?_ ⟨hI, Below.refl _ _, rfl⟩
            (have ec : ∀ x, a1.eval (.const x) = x := fun _ => rfl); (have ef : ∀ x, a1.eval (.func x) = .func (.func x) #[] #[] := fun _ => rfl); generalize a1.eval = ρ at *
            clear h0 h2
            go_simp <;> (intros; first | (exfalso; omega) | rfl | omega)
          · intro vs p hI hp
            have h3 : (vs 3) = .bool true := hp 3 (by simp [Lzg13])
            have e78 : (Roll.putD Dzg13 vs [3] b0).eval (.tmp 78) = .bool true := (Roll.eval_new 3 rfl (by decide) (by decide) (by omega)).trans h3
            clear hp hlv hN
            unfold Roll.Goes
            simp only [Lzg13, List.getD_cons_zero, List.getD_cons_succ]
            generalize Roll.putD Dzg13 vs [3] b0 = a1 at *
            refine Roll.goes_val (w' := p) (.bool true) rfl ?_ ⟨hI, Below.refl _ _, rfl⟩
            (have ec : ∀ x, a1.eval (.const x) = x := fun _ => rfl); (have ef : ∀ x, a1.eval (.func x) = .func (.func x) #[] #[] := fun _ => rfl); generalize a1.eval = ρ at *
            clear h3
            go_simp <;> (intros; first | (exfalso; omega) | rfl | omega)
          · intro vs p hI hp
            have h4 : (vs 4) = .bool true := hp 4 (by simp [Lzg13])
            have e14 : (Roll.putD Dzg13 vs [4] b0).eval (.tmp 14) = .bool false := (Roll.eval_old rfl).trans (hlv.at 5 (14, .bool false) rfl)
            clear hp hlv hN
            refine ⟨fun hg => ?_, fun hg => absurd h4 hg⟩
            clear hg
            unfold Roll.Goes
            simp only [Lzg13, List.getD_cons_zero, List.getD_cons_succ]
            generalize Roll.putD Dzg13 vs [4] b0 = a1 at *
            refine Roll.goes_val (w' := p) (.bool false) rfl ?_ ⟨hI, Below.refl _ _, rfl⟩
            (have ec : ∀ x, a1.eval (.const x) = x := fun _ => rfl); (have ef : ∀ x, a1.eval (.func x) = .func (.func x) #[] #[] := fun _ => rfl); generalize a1.eval = ρ at *
            clear h4
            go_simp <;> (intros; first | (exfalso; omega) | rfl | omega)
          · intro vs p hI hp
            have h5 : (vs 5) = .bool false := hp 5 (by simp [Lzg13])
            have h4 : (vs 4) = .bool true := hp 4 (by simp [Lzg13])
            have e80 : (Roll.putD Dzg13 vs [5, 4] b0).eval (.tmp 80) = .bool false := (Roll.eval_new 5 rfl (by decide) (by decide) (by omega)).trans h5
            clear hp hlv hN
            refine ⟨fun hg => ?_, fun hg => absurd h4 hg⟩
            clear hg
            unfold Roll.Goes
            simp only [Lzg13, List.getD_cons_zero, List.getD_cons_succ]
            generalize Roll.putD Dzg13 vs [5, 4] b0 = a1 at *
            refine Roll.goes_val (w' := p) (.bool true) rfl ?_ ⟨hI, Below.refl _ _, rfl⟩
            (have ec : ∀ x, a1.eval (.const x) = x := fun _ => rfl); (have ef : ∀ x, a1.eval (.func x) = .func (.func x) #[] #[] := fun _ => rfl); generalize a1.eval = ρ at *
            clear h5 h4
            go_simp <;> (intros; first | (exfalso; omega) | rfl | omega)
          · intro vs p hI hp
            have h6 : (vs 6) = .bool true := hp 6 (by simp [Lzg13])
            have h4 : (vs 4) = .bool true := hp 4 (by simp [Lzg13])
            have e81 : (Roll.putD Dzg13 vs [6, 4] b0).eval (.tmp 81) = .bool true := (Roll.eval_new 6 rfl (by decide) (by decide) (by omega)).trans h6
            clear hp hlv hN
            refine ⟨fun hg => ?_, fun hg => absurd h4 hg⟩
            clear hg
            unfold Roll.Goes
            simp only [Lzg13, List.getD_cons_zero, List.getD_cons_succ]
            generalize Roll.putD Dzg13 vs [6, 4] b0 = a1 at *
            refine Roll.goes_val (w' := p) (.bool true) rfl ?_ ⟨hI, Below.refl _ _, rfl⟩
            (have ec : ∀ x, a1.eval (.const x) = x := fun _ => rfl); (have ef : ∀ x, a1.eval (.func x) = .func (.func x) #[] #[] := fun _ => rfl); generalize a1.eval = ρ at *
            clear h6 h4
            go_simp <;> (intros; first | (exfalso; omega) | rfl | omega)
          · intro vs p hI hp
            have h7 : (vs 7) = .bool true := hp 7 (by simp [Lzg13])
            have e7 : (Roll.putD Dzg13 vs [7] b0).eval (.tmp 7) = .pointer (some ⟨gz, 0, none⟩) := (Roll.eval_old rfl).trans (hlv.at 1 (7, .pointer (some ⟨gz, 0, none⟩)) rfl)
            clear hp hlv hN
            exact ⟨fun hg => absurd (h7.symm.trans hg) (by simp), fun hg => ⟨Below.refl _ _, rfl⟩⟩
          · intro vs p hI hp
            have h7 : (vs 7) = .bool true := hp 7 (by simp [Lzg13])
            have e8 : (Roll.putD Dzg13 vs [7] b0).eval (.tmp 8) = .int .i64 d := (Roll.eval_old rfl).trans (hlv.at 2 (8, .int .i64 d) rfl)
            clear hp hlv hN
            exact ⟨fun hg => absurd (h7.symm.trans hg) (by simp), fun hg => ⟨Below.refl _ _, rfl⟩⟩
          · intro vs p hI hp
            have h7 : (vs 7) = .bool true := hp 7 (by simp [Lzg13])
            have e9 : (Roll.putD Dzg13 vs [7] b0).eval (.tmp 9) = .int .i64 s := (Roll.eval_old rfl).trans (hlv.at 3 (9, .int .i64 s) rfl)
            clear hp hlv hN
            exact ⟨fun hg => absurd (h7.symm.trans hg) (by simp), fun hg => ⟨Below.refl _ _, rfl⟩⟩
          · intro vs p hI hp
            have h7 : (vs 7) = .bool true := hp 7 (by simp [Lzg13])
            have e2 : (Roll.putD Dzg13 vs [7] b0).eval (.tmp 2) = .bool late := (Roll.eval_old rfl).trans (hlv.at 0 (2, .bool late) rfl)
            clear hp hlv hN
            exact ⟨fun hg => absurd (h7.symm.trans hg) (by simp), fun hg => ⟨Below.refl _ _, rfl⟩⟩
          · intro vs p hI hp
            have h8 : (vs 8) = undef := hp 8 (by simp [Lzg13])
            have h9 : (vs 9) = undef := hp 9 (by simp [Lzg13])
            have h10 : (vs 10) = undef := hp 10 (by simp [Lzg13])
            have h11 : (vs 11) = undef := hp 11 (by simp [Lzg13])
            have h7 : (vs 7) = .bool true := hp 7 (by simp [Lzg13])
            have e83 : (Roll.putD Dzg13 vs [8, 9, 10, 11, 7] b0).eval (.tmp 83) = undef := (Roll.eval_new 8 rfl (by decide) (by decide) (by omega)).trans h8
            have e84 : (Roll.putD Dzg13 vs [8, 9, 10, 11, 7] b0).eval (.tmp 84) = undef := (Roll.eval_new 9 rfl (by decide) (by decide) (by omega)).trans h9
            have e85 : (Roll.putD Dzg13 vs [8, 9, 10, 11, 7] b0).eval (.tmp 85) = undef := (Roll.eval_new 10 rfl (by decide) (by decide) (by omega)).trans h10
            have e86 : (Roll.putD Dzg13 vs [8, 9, 10, 11, 7] b0).eval (.tmp 86) = undef := (Roll.eval_new 11 rfl (by decide) (by decide) (by omega)).trans h11
            clear hp hlv hN
            exact ⟨fun hg => absurd (h7.symm.trans hg) (by simp), fun hg => ⟨Below.refl _ _, rfl⟩⟩
          · intro vs p hI hp
            have h7 : (vs 7) = .bool true := hp 7 (by simp [Lzg13])
            have e7 : (Roll.putD Dzg13 vs [7] b0).eval (.tmp 7) = .pointer (some ⟨gz, 0, none⟩) := (Roll.eval_old rfl).trans (hlv.at 1 (7, .pointer (some ⟨gz, 0, none⟩)) rfl)
            clear hp hlv hN
            exact ⟨fun hg => absurd (h7.symm.trans hg) (by simp), fun hg => ⟨Below.refl _ _, rfl⟩⟩
          · intro vs p hI hp
            have h13 : (vs 13) = undef := hp 13 (by simp [Lzg13])
            have h7 : (vs 7) = .bool true := hp 7 (by simp [Lzg13])
            have e88 : (Roll.putD Dzg13 vs [13, 7] b0).eval (.tmp 88) = undef := (Roll.eval_new 13 rfl (by decide) (by decide) (by omega)).trans h13
            clear hp hlv hN
            exact ⟨fun hg => absurd (h7.symm.trans hg) (by simp), fun hg => ⟨Below.refl _ _, rfl⟩⟩
          · intro vs p hI hp
            have h7 : (vs 7) = .bool true := hp 7 (by simp [Lzg13])
            have e11 : (Roll.putD Dzg13 vs [7] b0).eval (.tmp 11) = .int .i64 (-1) := (Roll.eval_old rfl).trans (hlv.at 4 (11, .int .i64 (-1)) rfl)
            clear hp hlv hN
            exact ⟨fun hg => absurd (h7.symm.trans hg) (by simp), fun hg => ⟨Below.refl _ _, rfl⟩⟩
          · intro vs p hI hp
            have h14 : (vs 14) = undef := hp 14 (by simp [Lzg13])
            have h15 : (vs 15) = undef := hp 15 (by simp [Lzg13])
            have h7 : (vs 7) = .bool true := hp 7 (by simp [Lzg13])
            have e89 : (Roll.putD Dzg13 vs [14, 15, 7] b0).eval (.tmp 89) = undef := (Roll.eval_new 14 rfl (by decide) (by decide) (by omega)).trans h14
            have e90 : (Roll.putD Dzg13 vs [14, 15, 7] b0).eval (.tmp 90) = undef := (Roll.eval_new 15 rfl (by decide) (by decide) (by omega)).trans h15
            clear hp hlv hN
            exact ⟨fun hg => absurd (h7.symm.trans hg) (by simp), fun hg => ⟨Below.refl _ _, rfl⟩⟩
          · intro vs p hI hp
            have h16 : (vs 16) = undef := hp 16 (by simp [Lzg13])
            have h7 : (vs 7) = .bool true := hp 7 (by simp [Lzg13])
            have e91 : (Roll.putD Dzg13 vs [16, 7] b0).eval (.tmp 91) = undef := (Roll.eval_new 16 rfl (by decide) (by decide) (by omega)).trans h16
            clear hp hlv hN
            exact ⟨fun hg => absurd (h7.symm.trans hg) (by simp), fun hg => ⟨Below.refl _ _, rfl⟩⟩
          · intro vs p hI hp
            have h17 : (vs 17) = undef := hp 17 (by simp [Lzg13])
            have h7 : (vs 7) = .bool true := hp 7 (by simp [Lzg13])
            have e92 : (Roll.putD Dzg13 vs [17, 7] b0).eval (.tmp 92) = undef := (Roll.eval_new 17 rfl (by decide) (by decide) (by omega)).trans h17
            clear hp hlv hN
            exact ⟨fun hg => absurd (h7.symm.trans hg) (by simp), fun hg => ⟨Below.refl _ _, rfl⟩⟩
          · intro vs p hI hp
            have h12 : (vs 12) = undef := hp 12 (by simp [Lzg13])
            have h18 : (vs 18) = undef := hp 18 (by simp [Lzg13])
            have h7 : (vs 7) = .bool true := hp 7 (by simp [Lzg13])
            have e87 : (Roll.putD Dzg13 vs [12, 18, 7] b0).eval (.tmp 87) = undef := (Roll.eval_new 12 rfl (by decide) (by decide) (by omega)).trans h12
            have e93 : (Roll.putD Dzg13 vs [12, 18, 7] b0).eval (.tmp 93) = undef := (Roll.eval_new 18 rfl (by decide) (by decide) (by omega)).trans h18
            clear hp hlv hN
            exact ⟨fun hg => absurd (h7.symm.trans hg) (by simp), fun hg => ⟨Below.refl _ _, rfl⟩⟩
          · intro vs p hI hp
            have h7 : (vs 7) = .bool true := hp 7 (by simp [Lzg13])
            have h19 : (vs 19) = undef := hp 19 (by simp [Lzg13])
            have h4 : (vs 4) = .bool true := hp 4 (by simp [Lzg13])
            have e82 : (Roll.putD Dzg13 vs [7, 19, 4] b0).eval (.tmp 82) = .bool true := (Roll.eval_new 7 rfl (by decide) (by decide) (by omega)).trans h7
            have e94 : (Roll.putD Dzg13 vs [7, 19, 4] b0).eval (.tmp 94) = undef := (Roll.eval_new 19 rfl (by decide) (by decide) (by omega)).trans h19
            clear hp hlv hN
            refine ⟨fun hg => ?_, fun hg => absurd h4 hg⟩
            clear hg
            unfold Roll.Goes
            simp only [Lzg13, List.getD_cons_zero, List.getD_cons_succ]
            generalize Roll.putD Dzg13 vs [7, 19, 4] b0 = a1 at *
            refine Roll.goes_val (w' := p) (.bool true) rfl ?_ ⟨hI, Below.refl _ _, rfl⟩
            (have ec : ∀ x, a1.eval (.const x) = x := fun _ => rfl); (have ef : ∀ x, a1.eval (.func x) = .func (.func x) #[] #[] := fun _ => rfl); generalize a1.eval = ρ at *
            clear h7 h19 h4
            go_simp <;> (intros; first | (exfalso; omega) | rfl | omega)
          · intro vs p hI hp
            have h4 : (vs 4) = .bool true := hp 4 (by simp [Lzg13])
            have h20 : (vs 20) = .bool true := hp 20 (by simp [Lzg13])
            have e79 : (Roll.putD Dzg13 vs [4, 20] b0).eval (.tmp 79) = .bool true := (Roll.eval_new 4 rfl (by decide) (by decide) (by omega)).trans h4
            have e95 : (Roll.putD Dzg13 vs [4, 20] b0).eval (.tmp 95) = .bool true := (Roll.eval_new 20 rfl (by decide) (by decide) (by omega)).trans h20
            clear hp hlv hN
            unfold Roll.Goes
            simp only [Lzg13, List.getD_cons_zero, List.getD_cons_succ]
            generalize Roll.putD Dzg13 vs [4, 20] b0 = a1 at *
            refine Roll.goes_val (w' := p) (.bool true) rfl ?_ ⟨hI, Below.refl _ _, rfl⟩
            (have ec : ∀ x, a1.eval (.const x) = x := fun _ => rfl); (have ef : ∀ x, a1.eval (.func x) = .func (.func x) #[] #[] := fun _ => rfl); generalize a1.eval = ρ at *
            clear h4 h20
            go_simp <;> (intros; first | (exfalso; omega) | rfl | omega)
          · intro vs p hI hp
            have h21 : (vs 21) = .bool true := hp 21 (by simp [Lzg13])
            have e96 : (Roll.putD Dzg13 vs [21] b0).eval (.tmp 96) = .bool true := (Roll.eval_new 21 rfl (by decide) (by decide) (by omega)).trans h21
            clear hp hlv hN
            unfold Roll.Goes
            simp only [Lzg13, List.getD_cons_zero, List.getD_cons_succ]
            generalize Roll.putD Dzg13 vs [21] b0 = a1 at *
            refine Roll.goes_val (w' := p) (.bool true) rfl ?_ ⟨hI, Below.refl _ _, rfl⟩
            (have ec : ∀ x, a1.eval (.const x) = x := fun _ => rfl); (have ef : ∀ x, a1.eval (.func x) = .func (.func x) #[] #[] := fun _ => rfl); generalize a1.eval = ρ at *
            clear h21
            go_simp <;> (intros; first | (exfalso; omega) | rfl | omega)
          · intro vs p hI hp
            have h22 : (vs 22) = .bool true := hp 22 (by simp [Lzg13])
            clear hp hlv hN
            refine ⟨fun hg => ?_, fun hg => absurd h22 hg⟩
            clear hg
            unfold Roll.Goes
            simp only [Lzg13, List.getD_cons_zero, List.getD_cons_succ]
            generalize Roll.putD Dzg13 vs [22] b0 = a1 at *
            refine Roll.goes_call 11 #[] p rfl (by have ec : ∀ x, a1.eval (.const x) = x := fun _ => rfl; have ef : ∀ x, a1.eval (.func x) = .func (.func x) #[] #[] := fun _ => rfl; generalize a1.eval = ρ at *; go_simp) ?_
            refine (HLV.out p).mono ?_
            rintro q p2 ⟨rfl, hb⟩
            exact ⟨_, rfl, hI.trans (hb.mono hI.size), hb, rfl⟩
          · intro vs p hI hp
            have h22 : (vs 22) = .bool true := hp 22 (by simp [Lzg13])
            have h23 : (vs 23) = .bool true := hp 23 (by simp [Lzg13])
            have e97 : (Roll.putD Dzg13 vs [22, 23] b0).eval (.tmp 97) = .bool true := (Roll.eval_new 22 rfl (by decide) (by decide) (by omega)).trans h22
            have e98 : (Roll.putD Dzg13 vs [22, 23] b0).eval (.tmp 98) = .bool true := (Roll.eval_new 23 rfl (by decide) (by decide) (by omega)).trans h23
            clear hp hlv hN
            unfold Roll.Goes
            simp only [Lzg13, List.getD_cons_zero, List.getD_cons_succ]
            generalize Roll.putD Dzg13 vs [22, 23] b0 = a1 at *
            refine Roll.goes_val (w' := p) (.bool true) rfl ?_ ⟨hI, Below.refl _ _, rfl⟩
            (have ec : ∀ x, a1.eval (.const x) = x := fun _ => rfl); (have ef : ∀ x, a1.eval (.func x) = .func (.func x) #[] #[] := fun _ => rfl); generalize a1.eval = ρ at *
            clear h22 h23
            go_simp <;> (intros; first | (exfalso; omega) | rfl | omega)
        · intro vs p hI hR
          have h0 : (vs 0) = .bool false := hR 0 (by omega)
          have h1 : (vs 1) = .int .i64 (-1) := hR 1 (by omega)
          have h2 : (vs 2) = .bool false := hR 2 (by omega)
          have h3 : (vs 3) = .bool true := hR 3 (by omega)
          have h4 : (vs 4) = .bool true := hR 4 (by omega)
          have h5 : (vs 5) = .bool false := hR 5 (by omega)
          have h6 : (vs 6) = .bool true := hR 6 (by omega)
          have h7 : (vs 7) = .bool true := hR 7 (by omega)
          have h8 : (vs 8) = undef := hR 8 (by omega)
          have h9 : (vs 9) = undef := hR 9 (by omega)
          have h10 : (vs 10) = undef := hR 10 (by omega)
          have h11 : (vs 11) = undef := hR 11 (by omega)
          have h12 : (vs 12) = undef := hR 12 (by omega)
          have h13 : (vs 13) = undef := hR 13 (by omega)
          have h14 : (vs 14) = undef := hR 14 (by omega)
          have h15 : (vs 15) = undef := hR 15 (by omega)
          have h16 : (vs 16) = undef := hR 16 (by omega)
          have h17 : (vs 17) = undef := hR 17 (by omega)
          have h18 : (vs 18) = undef := hR 18 (by omega)
          have h19 : (vs 19) = undef := hR 19 (by omega)
          have h20 : (vs 20) = .bool true := hR 20 (by omega)
          have h21 : (vs 21) = .bool true := hR 21 (by omega)
          have h22 : (vs 22) = .bool true := hR 22 (by omega)
          have h23 : (vs 23) = .bool true := hR 23 (by omega)
          have h24 : (vs 24) = .bool true := hR 24 (by omega)
          clear hR
          simp only [List.range_succ, List.range_zero, List.nil_append, List.cons_append, Roll.putD, Act.put, List.getD_cons_zero, List.getD_cons_succ, List.setIfInBounds_toArray, List.set_cons_zero, List.set_cons_succ, List.drop_succ_cons, List.drop_zero, Dzg13]
          simp only [h0, h1, h2, h3, h4, h5, h6, h7, h8, h9, h10, h11, h12, h13, h14, h15, h16, h17, h18, h19, h20, h21, h22, h23, h24]
          clear h0 h1 h2 h3 h4 h5 h6 h7 h8 h9 h10 h11 h12 h13 h14 h15 h16 h17 h18 h19 h20 h21 h22 h23 h24
          have HBE := Lib.hid (HBP.out.trans (hI.mono HBP.out.size))
          clear hI
          go_wp2_with fail
          go_ret
          exact ⟨rfl, HW.out.trans (HBE.out.mono HW.out.size)⟩
      · have hjn : j < nz := by have := HS.out.1; omega
        obtain ⟨b, off, -, hbl, rfl, hc⟩ := HS.out.cells (by omega)
        have hcj := (hc j hj).1
        obtain ⟨oj, hoj⟩ : ∃ oj, oj = off + j * 2 := ⟨_, rfl⟩
        rw [← hoj] at hcj
        obtain ⟨X, hX⟩ : ∃ X, X = L[j].t := ⟨_, rfl⟩
        rw [← hX] at hcj hg
        have HMM : Hid (insP k (segL minI O L) = [] ∧ resP late k 0 (segL minI O L) = X) := Lib.hid (by
          rcases HMAIN.out with ⟨h1, x, hx, h2⟩ | ⟨h1, -⟩
          · rw [hg] at hx; cases hx
            exact ⟨h1, h2 _ _⟩
          · rw [hg] at h1; cases h1)
        rw [HMM.out.1] at CI
        rw [HMM.out.2] at CR
        have HJ0 : Hid (0 ≤ (j : Int)) := Lib.hid (by omega)
        have HJN : Hid ((j : Int) < (nz : Int)) := Lib.hid (by omega)
        have HOJ : Hid (off + j * 2 = oj) := Lib.hid hoj.symm
        have HBL0 := Lib.hid hbl
        have HCJ := Lib.hid hcj
        clear hc hcj hoj hX hg hjn hj hbl
        go_upto_region 13 with (go_at_call 22; refine (CI.out _ HBD.out).mono ?_; rintro e q1 ⟨⟨ai, ci, rfl⟩, hb⟩; have HBP := Lib.hid (HBD.out.trans (hb.mono HBD.out.size)); have HRN := Lib.hid ((hb.block gz (heap_lt HR.out)).trans HR.out); clear HR ldz hb HBD; have HR := HRN; clear HRN)
        have CSX : Hid (q1.cell? ⟨b, oj, none⟩ = some (.int .i64 X)) := Lib.hid ((HBP.out.cell (p := ⟨b, oj, none⟩) HBL0.out).trans HCJ.out)
        have HBL : Hid (b < q1.heap.size) := Lib.hid (Nat.lt_of_lt_of_le HBL0.out HBP.out.size)
        have CSL : Hid (q1.cell? ⟨gz, 1, none⟩ = some (.slice (some ⟨b, off, none⟩) nz cz)) := Lib.hid (cell_of_row q1 gz 1 _ _ _ HR.out)
        clear hge c1 hm1 hm2 hn20
        have HGZL2 := Lib.hid (heap_lt HR.out)
        clear HGZL
        have HGZL := HGZL2
        clear HGZL2
        refine Roll.region_f 25 100 Dzg13 Lzg13 [(2, .bool late), (7, .pointer (some ⟨gz, 0, none⟩)), (8, .int .i64 d), (9, .int .i64 s), (11, .int .i64 (j : Int)), (14, .bool true)] (fun p => Below q1.heap.size q1 p) (fun p p2 => Below p.heap.size p p2) [fun vv p => vv = .bool true, fun vv p => vv = .int .i64 (j : Int), fun vv p => vv = .bool true, fun vv p => vv = .bool true, fun vv p => vv = .bool true, fun vv p => vv = .bool true, fun vv p => vv = .bool false, fun vv p => vv = .bool false, fun vv p => vv = .agg #[.int .i64 O, .slice (some ⟨b, off, none⟩) nz cz], fun vv p => vv = .int .i64 d, fun vv p => vv = .int .i64 s, fun vv p => vv = .bool late, fun vv p => vv = .int .i64 X, fun vv p => vv = .pointer (some ⟨gz, 1, none⟩), fun vv p => vv = .slice (some ⟨b, off, none⟩) nz cz, fun vv p => vv = .int .i64 (j : Int), fun vv p => vv = .pointer (some ⟨b, oj, none⟩), fun vv p => vv = .pointer (some ⟨b, oj, none⟩), fun vv p => vv = .int .i64 X, fun vv p => vv = .bool true, fun vv p => vv = .bool true, fun vv p => vv = .bool true, fun vv p => vv = .bool true, fun vv p => vv = .bool true, fun vv p => vv = .bool true] (by kernel_rfl) (by kernel_rfl) rfl ⟨rfl, rfl, rfl, rfl, rfl, rfl, trivial⟩ ((Below.refl _ _).drew) ?_ ?_ ?_
        · exact ⟨fun _ _ _ _ h => h, fun _ _ _ _ h => h, fun _ _ _ _ h => h, fun _ _ _ _ h => h, fun _ _ _ _ h => h, fun _ _ _ _ h => h, fun _ _ _ _ h => h, fun _ _ _ _ h => h, fun _ _ _ _ h => h, fun _ _ _ _ h => h, fun _ _ _ _ h => h, fun _ _ _ _ h => h, fun _ _ _ _ h => h, fun _ _ _ _ h => h, fun _ _ _ _ h => h, fun _ _ _ _ h => h, fun _ _ _ _ h => h, fun _ _ _ _ h => h, fun _ _ _ _ h => h, fun _ _ _ _ h => h, fun _ _ _ _ h => h, fun _ _ _ _ h => h, fun _ _ _ _ h => h, fun _ _ _ _ h => h, fun _ _ _ _ h => h, trivial⟩
        · intro b0 hN hlv
          refine ⟨?_, ?_, ?_, ?_, ?_, ?_, ?_, ?_, ?_, ?_, ?_, ?_, ?_, ?_, ?_, ?_, ?_, ?_, ?_, ?_, ?_, ?_, ?_, ?_, ?_, trivial⟩
          · intro vs p hI hp
            have e14 : (Roll.putD Dzg13 vs [] b0).eval (.tmp 14) = .bool true := (Roll.eval_old rfl).trans (hlv.at 5 (14, .bool true) rfl)
            clear hp hlv hN
            unfold Roll.Goes
            simp only [Lzg13, List.getD_cons_zero, List.getD_cons_succ]
            generalize Roll.putD Dzg13 vs [] b0 = a1 at *
            refine Roll.goes_val (w' := p) (.bool true) rfl ?_ ⟨hI, Below.refl _ _, rfl⟩
            (have ec : ∀ x, a1.eval (.const x) = x := fun _ => rfl); (have ef : ∀ x, a1.eval (.func x) = .func (.func x) #[] #[] := fun _ => rfl); generalize a1.eval = ρ at *
            skip
            go_simp <;> (intros; first | (exfalso; omega) | rfl | omega)
          · intro vs p hI hp
            have e11 : (Roll.putD Dzg13 vs [] b0).eval (.tmp 11) = .int .i64 (j : Int) := (Roll.eval_old rfl).trans (hlv.at 4 (11, .int .i64 (j : Int)) rfl)
            clear hp hlv hN
            unfold Roll.Goes
            simp only [Lzg13, List.getD_cons_zero, List.getD_cons_succ]
            generalize Roll.putD Dzg13 vs [] b0 = a1 at *
            refine Roll.goes_val (w' := p) (.int .i64 (j : Int)) rfl ?_ ⟨hI, Below.refl _ _, rfl⟩
            (have ec : ∀ x, a1.eval (.const x) = x := fun _ => rfl); (have ef : ∀ x, a1.eval (.func x) = .func (.func x) #[] #[] := fun _ => rfl); generalize a1.eval = ρ at *
            skip
            go_simp <;> (intros; first | (exfalso; omega) | rfl | omega)
          · intro vs p hI hp
            have h1 : (vs 1) = .int .i64 (j : Int) := hp 1 (by simp [Lzg13])
            have e76 : (Roll.putD Dzg13 vs [1] b0).eval (.tmp 76) = .int .i64 (j : Int) := (Roll.eval_new 1 rfl (by decide) (by decide) (by omega)).trans h1
            clear hp hlv hN
            unfold Roll.Goes
            simp only [Lzg13, List.getD_cons_zero, List.getD_cons_succ]
            generalize Roll.putD Dzg13 vs [1] b0 = a1 at *
            have f0 := HJ0.out
            refine Roll.goes_val (w' := p) (.bool true) rfl ?_ ⟨hI, Below.refl _ _, rfl⟩
            (have ec : ∀ x, a1.eval (.const x) = x := fun _ => rfl); (have ef : ∀ x, a1.eval (.func x) = .func (.func x) #[] #[] := fun _ => rfl); generalize a1.eval = ρ at *
            clear h1
            go_simp <;> (intros; first | (exfalso; omega) | rfl | omega)
          · intro vs p hI hp
            have h0 : (vs 0) = .bool true := hp 0 (by simp [Lzg13])
            have h2 : (vs 2) = .bool true := hp 2 (by simp [Lzg13])
            have e75 : (Roll.putD Dzg13 vs [0, 2] b0).eval (.tmp 75) = .bool true := (Roll.eval_new 0 rfl (by decide) (by decide) (by omega)).trans h0
            have e77 : (Roll.putD Dzg13 vs [0, 2] b0).eval (.tmp 77) = .bool true := (Roll.eval_new 2 rfl (by decide) (by decide) (by omega)).trans h2
            clear hp hlv hN
            unfold Roll.Goes
            simp only [Lzg13, List.getD_cons_zero, List.getD_cons_succ]
            generalize Roll.putD Dzg13 vs [0, 2] b0 = a1 at *
            refine Roll.goes_val (w' := p) (.bool true) rfl ?_ ⟨hI, Below.refl _ _, rfl⟩
            (have ec : ∀ x, a1.eval (.const x) = x := fun _ => rfl); (have ef : ∀ x, a1.eval (.func x) = .func (.func x) #[] #[] := fun _ => rfl); generalize a1.eval = ρ at *
            clear h0 h2
            go_simp <;> (intros; first | (exfalso; omega) | rfl | omega)
          · intro vs p hI hp
            have h3 : (vs 3) = .bool true := hp 3 (by simp [Lzg13])
            have e78 : (Roll.putD Dzg13 vs [3] b0).eval (.tmp 78) = .bool true := (Roll.eval_new 3 rfl (by decide) (by decide) (by omega)).trans h3
            clear hp hlv hN
            unfold Roll.Goes
            simp only [Lzg13, List.getD_cons_zero, List.getD_cons_succ]
            generalize Roll.putD Dzg13 vs [3] b0 = a1 at *
            refine Roll.goes_val (w' := p) (.bool true) rfl ?_ ⟨hI, Below.refl _ _, rfl⟩
            (have ec : ∀ x, a1.eval (.const x) = x := fun _ => rfl); (have ef : ∀ x, a1.eval (.func x) = .func (.func x) #[] #[] := fun _ => rfl); generalize a1.eval = ρ at *
            clear h3
            go_simp <;> (intros; first | (exfalso; omega) | rfl | omega)
          · intro vs p hI hp
            have h4 : (vs 4) = .bool true := hp 4 (by simp [Lzg13])
            have e14 : (Roll.putD Dzg13 vs [4] b0).eval (.tmp 14) = .bool true := (Roll.eval_old rfl).trans (hlv.at 5 (14, .bool true) rfl)
            clear hp hlv hN
            refine ⟨fun hg => ?_, fun hg => absurd h4 hg⟩
            clear hg
            unfold Roll.Goes
            simp only [Lzg13, List.getD_cons_zero, List.getD_cons_succ]
            generalize Roll.putD Dzg13 vs [4] b0 = a1 at *
            refine Roll.goes_val (w' := p) (.bool true) rfl ?_ ⟨hI, Below.refl _ _, rfl⟩
            (have ec : ∀ x, a1.eval (.const x) = x := fun _ => rfl); (have ef : ∀ x, a1.eval (.func x) = .func (.func x) #[] #[] := fun _ => rfl); generalize a1.eval = ρ at *
            clear h4
            go_simp <;> (intros; first | (exfalso; omega) | rfl | omega)
          · intro vs p hI hp
            have h5 : (vs 5) = .bool true := hp 5 (by simp [Lzg13])
            have h4 : (vs 4) = .bool true := hp 4 (by simp [Lzg13])
            have e80 : (Roll.putD Dzg13 vs [5, 4] b0).eval (.tmp 80) = .bool true := (Roll.eval_new 5 rfl (by decide) (by decide) (by omega)).trans h5
            clear hp hlv hN
            refine ⟨fun hg => ?_, fun hg => absurd h4 hg⟩
            clear hg
            unfold Roll.Goes
            simp only [Lzg13, List.getD_cons_zero, List.getD_cons_succ]
            generalize Roll.putD Dzg13 vs [5, 4] b0 = a1 at *
            refine Roll.goes_val (w' := p) (.bool false) rfl ?_ ⟨hI, Below.refl _ _, rfl⟩
            (have ec : ∀ x, a1.eval (.const x) = x := fun _ => rfl); (have ef : ∀ x, a1.eval (.func x) = .func (.func x) #[] #[] := fun _ => rfl); generalize a1.eval = ρ at *
            clear h5 h4
            go_simp <;> (intros; first | (exfalso; omega) | rfl | omega)
          · intro vs p hI hp
            have h6 : (vs 6) = .bool false := hp 6 (by simp [Lzg13])
            have h4 : (vs 4) = .bool true := hp 4 (by simp [Lzg13])
            have e81 : (Roll.putD Dzg13 vs [6, 4] b0).eval (.tmp 81) = .bool false := (Roll.eval_new 6 rfl (by decide) (by decide) (by omega)).trans h6
            clear hp hlv hN
            refine ⟨fun hg => ?_, fun hg => absurd h4 hg⟩
            clear hg
            unfold Roll.Goes
            simp only [Lzg13, List.getD_cons_zero, List.getD_cons_succ]
            generalize Roll.putD Dzg13 vs [6, 4] b0 = a1 at *
            refine Roll.goes_val (w' := p) (.bool false) rfl ?_ ⟨hI, Below.refl _ _, rfl⟩
            (have ec : ∀ x, a1.eval (.const x) = x := fun _ => rfl); (have ef : ∀ x, a1.eval (.func x) = .func (.func x) #[] #[] := fun _ => rfl); generalize a1.eval = ρ at *
            clear h6 h4
            go_simp <;> (intros; first | (exfalso; omega) | rfl | omega)
          · intro vs p hI hp
            have h7 : (vs 7) = .bool false := hp 7 (by simp [Lzg13])
            have e7 : (Roll.putD Dzg13 vs [7] b0).eval (.tmp 7) = .pointer (some ⟨gz, 0, none⟩) := (Roll.eval_old rfl).trans (hlv.at 1 (7, .pointer (some ⟨gz, 0, none⟩)) rfl)
            clear hp hlv hN
            refine ⟨fun hg => ?_, fun hg => absurd h7 hg⟩
            clear hg
            unfold Roll.Goes
            simp only [Lzg13, List.getD_cons_zero, List.getD_cons_succ]
            generalize Roll.putD Dzg13 vs [7] b0 = a1 at *
            have ldz := run_loadZone ((hI.block gz HGZL.out).trans HR.out)
            refine Roll.goes_val (w' := p) (.agg #[.int .i64 O, .slice (some ⟨b, off, none⟩) nz cz]) rfl ?_ ⟨hI, Below.refl _ _, rfl⟩
            (have ec : ∀ x, a1.eval (.const x) = x := fun _ => rfl); (have ef : ∀ x, a1.eval (.func x) = .func (.func x) #[] #[] := fun _ => rfl); generalize a1.eval = ρ at *
            clear h7
            go_simp <;> (intros; first | (exfalso; omega) | rfl | omega)
          · intro vs p hI hp
            have h7 : (vs 7) = .bool false := hp 7 (by simp [Lzg13])
            have e8 : (Roll.putD Dzg13 vs [7] b0).eval (.tmp 8) = .int .i64 d := (Roll.eval_old rfl).trans (hlv.at 2 (8, .int .i64 d) rfl)
            clear hp hlv hN
            refine ⟨fun hg => ?_, fun hg => absurd h7 hg⟩
            clear hg
            unfold Roll.Goes
            simp only [Lzg13, List.getD_cons_zero, List.getD_cons_succ]
            generalize Roll.putD Dzg13 vs [7] b0 = a1 at *
            refine Roll.goes_val (w' := p) (.int .i64 d) rfl ?_ ⟨hI, Below.refl _ _, rfl⟩
            (have ec : ∀ x, a1.eval (.const x) = x := fun _ => rfl); (have ef : ∀ x, a1.eval (.func x) = .func (.func x) #[] #[] := fun _ => rfl); generalize a1.eval = ρ at *
            clear h7
            go_simp <;> (intros; first | (exfalso; omega) | rfl | omega)
          · intro vs p hI hp
            have h7 : (vs 7) = .bool false := hp 7 (by simp [Lzg13])
            have e9 : (Roll.putD Dzg13 vs [7] b0).eval (.tmp 9) = .int .i64 s := (Roll.eval_old rfl).trans (hlv.at 3 (9, .int .i64 s) rfl)
            clear hp hlv hN
            refine ⟨fun hg => ?_, fun hg => absurd h7 hg⟩
            clear hg
            unfold Roll.Goes
            simp only [Lzg13, List.getD_cons_zero, List.getD_cons_succ]
            generalize Roll.putD Dzg13 vs [7] b0 = a1 at *
            refine Roll.goes_val (w' := p) (.int .i64 s) rfl ?_ ⟨hI, Below.refl _ _, rfl⟩
            (have ec : ∀ x, a1.eval (.const x) = x := fun _ => rfl); (have ef : ∀ x, a1.eval (.func x) = .func (.func x) #[] #[] := fun _ => rfl); generalize a1.eval = ρ at *
            clear h7
            go_simp <;> (intros; first | (exfalso; omega) | rfl | omega)
          · intro vs p hI hp
            have h7 : (vs 7) = .bool false := hp 7 (by simp [Lzg13])
            have e2 : (Roll.putD Dzg13 vs [7] b0).eval (.tmp 2) = .bool late := (Roll.eval_old rfl).trans (hlv.at 0 (2, .bool late) rfl)
            clear hp hlv hN
            refine ⟨fun hg => ?_, fun hg => absurd h7 hg⟩
            clear hg
            unfold Roll.Goes
            simp only [Lzg13, List.getD_cons_zero, List.getD_cons_succ]
            generalize Roll.putD Dzg13 vs [7] b0 = a1 at *
            refine Roll.goes_val (w' := p) (.bool late) rfl ?_ ⟨hI, Below.refl _ _, rfl⟩
            (have ec : ∀ x, a1.eval (.const x) = x := fun _ => rfl); (have ef : ∀ x, a1.eval (.func x) = .func (.func x) #[] #[] := fun _ => rfl); generalize a1.eval = ρ at *
            clear h7
            go_simp <;> (intros; first | (exfalso; omega) | rfl | omega)
          · intro vs p hI hp
            have h8 : (vs 8) = .agg #[.int .i64 O, .slice (some ⟨b, off, none⟩) nz cz] := hp 8 (by simp [Lzg13])
            have h9 : (vs 9) = .int .i64 d := hp 9 (by simp [Lzg13])
            have h10 : (vs 10) = .int .i64 s := hp 10 (by simp [Lzg13])
            have h11 : (vs 11) = .bool late := hp 11 (by simp [Lzg13])
            have h7 : (vs 7) = .bool false := hp 7 (by simp [Lzg13])
            have e83 : (Roll.putD Dzg13 vs [8, 9, 10, 11, 7] b0).eval (.tmp 83) = .agg #[.int .i64 O, .slice (some ⟨b, off, none⟩) nz cz] := (Roll.eval_new 8 rfl (by decide) (by decide) (by omega)).trans h8
            have e84 : (Roll.putD Dzg13 vs [8, 9, 10, 11, 7] b0).eval (.tmp 84) = .int .i64 d := (Roll.eval_new 9 rfl (by decide) (by decide) (by omega)).trans h9
            have e85 : (Roll.putD Dzg13 vs [8, 9, 10, 11, 7] b0).eval (.tmp 85) = .int .i64 s := (Roll.eval_new 10 rfl (by decide) (by decide) (by omega)).trans h10
            have e86 : (Roll.putD Dzg13 vs [8, 9, 10, 11, 7] b0).eval (.tmp 86) = .bool late := (Roll.eval_new 11 rfl (by decide) (by decide) (by omega)).trans h11
            clear hp hlv hN
            refine ⟨fun hg => ?_, fun hg => absurd h7 hg⟩
            clear hg
            unfold Roll.Goes
            simp only [Lzg13, List.getD_cons_zero, List.getD_cons_succ]
            generalize Roll.putD Dzg13 vs [8, 9, 10, 11, 7] b0 = a1 at *
            refine Roll.goes_call 24 #[.agg #[.int .i64 O, .slice (some ⟨b, off, none⟩) nz cz], .int .i64 d, .int .i64 s, .bool late] p rfl (by have ec : ∀ x, a1.eval (.const x) = x := fun _ => rfl; have ef : ∀ x, a1.eval (.func x) = .func (.func x) #[] #[] := fun _ => rfl; generalize a1.eval = ρ at *; go_simp) ?_
            refine (CR.out p (HBP.out.trans (hI.mono HBP.out.size))).mono ?_
            rintro q p2 ⟨rfl, hb⟩
            exact ⟨_, rfl, hI.trans (hb.mono hI.size), hb, rfl⟩
          · intro vs p hI hp
            have h7 : (vs 7) = .bool false := hp 7 (by simp [Lzg13])
            have e7 : (Roll.putD Dzg13 vs [7] b0).eval (.tmp 7) = .pointer (some ⟨gz, 0, none⟩) := (Roll.eval_old rfl).trans (hlv.at 1 (7, .pointer (some ⟨gz, 0, none⟩)) rfl)
            clear hp hlv hN
            refine ⟨fun hg => ?_, fun hg => absurd h7 hg⟩
            clear hg
            unfold Roll.Goes
            simp only [Lzg13, List.getD_cons_zero, List.getD_cons_succ]
            generalize Roll.putD Dzg13 vs [7] b0 = a1 at *
            refine Roll.goes_val (w' := p) (.pointer (some ⟨gz, 1, none⟩)) rfl ?_ ⟨hI, Below.refl _ _, rfl⟩
            (have ec : ∀ x, a1.eval (.const x) = x := fun _ => rfl); (have ef : ∀ x, a1.eval (.func x) = .func (.func x) #[] #[] := fun _ => rfl); generalize a1.eval = ρ at *
            clear h7
            go_simp <;> (intros; first | (exfalso; omega) | rfl | omega)
          · intro vs p hI hp
            have h13 : (vs 13) = .pointer (some ⟨gz, 1, none⟩) := hp 13 (by simp [Lzg13])
            have h7 : (vs 7) = .bool false := hp 7 (by simp [Lzg13])
            have e88 : (Roll.putD Dzg13 vs [13, 7] b0).eval (.tmp 88) = .pointer (some ⟨gz, 1, none⟩) := (Roll.eval_new 13 rfl (by decide) (by decide) (by omega)).trans h13
            clear hp hlv hN
            refine ⟨fun hg => ?_, fun hg => absurd h7 hg⟩
            clear hg
            unfold Roll.Goes
            simp only [Lzg13, List.getD_cons_zero, List.getD_cons_succ]
            generalize Roll.putD Dzg13 vs [13, 7] b0 = a1 at *
            have cf : p.cell? ⟨gz, 1, none⟩ = some (.slice (some ⟨b, off, none⟩) nz cz) := (hI.cell (p := ⟨gz, 1, none⟩) HGZL.out).trans CSL.out
            refine Roll.goes_val (w' := p) (.slice (some ⟨b, off, none⟩) nz cz) rfl ?_ ⟨hI, Below.refl _ _, rfl⟩
            (have ec : ∀ x, a1.eval (.const x) = x := fun _ => rfl); (have ef : ∀ x, a1.eval (.func x) = .func (.func x) #[] #[] := fun _ => rfl); generalize a1.eval = ρ at *
            clear h13 h7
            go_simp <;> (intros; first | (exfalso; omega) | rfl | omega)
          · intro vs p hI hp
            have h7 : (vs 7) = .bool false := hp 7 (by simp [Lzg13])
            have e11 : (Roll.putD Dzg13 vs [7] b0).eval (.tmp 11) = .int .i64 (j : Int) := (Roll.eval_old rfl).trans (hlv.at 4 (11, .int .i64 (j : Int)) rfl)
            clear hp hlv hN
            refine ⟨fun hg => ?_, fun hg => absurd h7 hg⟩
            clear hg
            unfold Roll.Goes
            simp only [Lzg13, List.getD_cons_zero, List.getD_cons_succ]
            generalize Roll.putD Dzg13 vs [7] b0 = a1 at *
            refine Roll.goes_val (w' := p) (.int .i64 (j : Int)) rfl ?_ ⟨hI, Below.refl _ _, rfl⟩
            (have ec : ∀ x, a1.eval (.const x) = x := fun _ => rfl); (have ef : ∀ x, a1.eval (.func x) = .func (.func x) #[] #[] := fun _ => rfl); generalize a1.eval = ρ at *
            clear h7
            go_simp <;> (intros; first | (exfalso; omega) | rfl | omega)
          · intro vs p hI hp
            have h14 : (vs 14) = .slice (some ⟨b, off, none⟩) nz cz := hp 14 (by simp [Lzg13])
            have h15 : (vs 15) = .int .i64 (j : Int) := hp 15 (by simp [Lzg13])
            have h7 : (vs 7) = .bool false := hp 7 (by simp [Lzg13])
            have e89 : (Roll.putD Dzg13 vs [14, 15, 7] b0).eval (.tmp 89) = .slice (some ⟨b, off, none⟩) nz cz := (Roll.eval_new 14 rfl (by decide) (by decide) (by omega)).trans h14
            have e90 : (Roll.putD Dzg13 vs [14, 15, 7] b0).eval (.tmp 90) = .int .i64 (j : Int) := (Roll.eval_new 15 rfl (by decide) (by decide) (by omega)).trans h15
            clear hp hlv hN
            refine ⟨fun hg => ?_, fun hg => absurd h7 hg⟩
            clear hg
            unfold Roll.Goes
            simp only [Lzg13, List.getD_cons_zero, List.getD_cons_succ]
            generalize Roll.putD Dzg13 vs [14, 15, 7] b0 = a1 at *
            have f0 := HJN.out
            have f1 := HOJ.out
            refine Roll.goes_val (w' := p) (.pointer (some ⟨b, oj, none⟩)) rfl ?_ ⟨hI, Below.refl _ _, rfl⟩
            (have ec : ∀ x, a1.eval (.const x) = x := fun _ => rfl); (have ef : ∀ x, a1.eval (.func x) = .func (.func x) #[] #[] := fun _ => rfl); generalize a1.eval = ρ at *
            clear h14 h15 h7
            go_simp <;> (intros; first | (exfalso; omega) | rfl | omega)
          · intro vs p hI hp
            have h16 : (vs 16) = .pointer (some ⟨b, oj, none⟩) := hp 16 (by simp [Lzg13])
            have h7 : (vs 7) = .bool false := hp 7 (by simp [Lzg13])
            have e91 : (Roll.putD Dzg13 vs [16, 7] b0).eval (.tmp 91) = .pointer (some ⟨b, oj, none⟩) := (Roll.eval_new 16 rfl (by decide) (by decide) (by omega)).trans h16
            clear hp hlv hN
            refine ⟨fun hg => ?_, fun hg => absurd h7 hg⟩
            clear hg
            unfold Roll.Goes
            simp only [Lzg13, List.getD_cons_zero, List.getD_cons_succ]
            generalize Roll.putD Dzg13 vs [16, 7] b0 = a1 at *
            refine Roll.goes_val (w' := p) (.pointer (some ⟨b, oj, none⟩)) rfl ?_ ⟨hI, Below.refl _ _, rfl⟩
            (have ec : ∀ x, a1.eval (.const x) = x := fun _ => rfl); (have ef : ∀ x, a1.eval (.func x) = .func (.func x) #[] #[] := fun _ => rfl); generalize a1.eval = ρ at *
            clear h16 h7
            go_simp <;> (intros; first | (exfalso; omega) | rfl | omega)
          · intro vs p hI hp
            have h17 : (vs 17) = .pointer (some ⟨b, oj, none⟩) := hp 17 (by simp [Lzg13])
            have h7 : (vs 7) = .bool false := hp 7 (by simp [Lzg13])
            have e92 : (Roll.putD Dzg13 vs [17, 7] b0).eval (.tmp 92) = .pointer (some ⟨b, oj, none⟩) := (Roll.eval_new 17 rfl (by decide) (by decide) (by omega)).trans h17
            clear hp hlv hN
            refine ⟨fun hg => ?_, fun hg => absurd h7 hg⟩
            clear hg
            unfold Roll.Goes
            simp only [Lzg13, List.getD_cons_zero, List.getD_cons_succ]
            generalize Roll.putD Dzg13 vs [17, 7] b0 = a1 at *
            have cf : p.cell? ⟨b, oj, none⟩ = some (.int .i64 X) := (hI.cell (p := ⟨b, oj, none⟩) HBL.out).trans CSX.out
            refine Roll.goes_val (w' := p) (.int .i64 X) rfl ?_ ⟨hI, Below.refl _ _, rfl⟩
            (have ec : ∀ x, a1.eval (.const x) = x := fun _ => rfl); (have ef : ∀ x, a1.eval (.func x) = .func (.func x) #[] #[] := fun _ => rfl); generalize a1.eval = ρ at *
            clear h17 h7
            go_simp <;> (intros; first | (exfalso; omega) | rfl | omega)
          · intro vs p hI hp
            have h12 : (vs 12) = .int .i64 X := hp 12 (by simp [Lzg13])
            have h18 : (vs 18) = .int .i64 X := hp 18 (by simp [Lzg13])
            have h7 : (vs 7) = .bool false := hp 7 (by simp [Lzg13])
            have e87 : (Roll.putD Dzg13 vs [12, 18, 7] b0).eval (.tmp 87) = .int .i64 X := (Roll.eval_new 12 rfl (by decide) (by decide) (by omega)).trans h12
            have e93 : (Roll.putD Dzg13 vs [12, 18, 7] b0).eval (.tmp 93) = .int .i64 X := (Roll.eval_new 18 rfl (by decide) (by decide) (by omega)).trans h18
            clear hp hlv hN
            refine ⟨fun hg => ?_, fun hg => absurd h7 hg⟩
            clear hg
            unfold Roll.Goes
            simp only [Lzg13, List.getD_cons_zero, List.getD_cons_succ]
            generalize Roll.putD Dzg13 vs [12, 18, 7] b0 = a1 at *
            refine Roll.goes_val (w' := p) (.bool true) rfl ?_ ⟨hI, Below.refl _ _, rfl⟩
            (have ec : ∀ x, a1.eval (.const x) = x := fun _ => rfl); (have ef : ∀ x, a1.eval (.func x) = .func (.func x) #[] #[] := fun _ => rfl); generalize a1.eval = ρ at *
            clear h12 h18 h7
            go_simp <;> (intros; first | (exfalso; omega) | rfl | omega)
          · intro vs p hI hp
            have h7 : (vs 7) = .bool false := hp 7 (by simp [Lzg13])
            have h19 : (vs 19) = .bool true := hp 19 (by simp [Lzg13])
            have h4 : (vs 4) = .bool true := hp 4 (by simp [Lzg13])
            have e82 : (Roll.putD Dzg13 vs [7, 19, 4] b0).eval (.tmp 82) = .bool false := (Roll.eval_new 7 rfl (by decide) (by decide) (by omega)).trans h7
            have e94 : (Roll.putD Dzg13 vs [7, 19, 4] b0).eval (.tmp 94) = .bool true := (Roll.eval_new 19 rfl (by decide) (by decide) (by omega)).trans h19
            clear hp hlv hN
            refine ⟨fun hg => ?_, fun hg => absurd h4 hg⟩
            clear hg
            unfold Roll.Goes
            simp only [Lzg13, List.getD_cons_zero, List.getD_cons_succ]
            generalize Roll.putD Dzg13 vs [7, 19, 4] b0 = a1 at *
            refine Roll.goes_val (w' := p) (.bool true) rfl ?_ ⟨hI, Below.refl _ _, rfl⟩
            (have ec : ∀ x, a1.eval (.const x) = x := fun _ => rfl); (have ef : ∀ x, a1.eval (.func x) = .func (.func x) #[] #[] := fun _ => rfl); generalize a1.eval = ρ at *
            clear h7 h19 h4
            go_simp <;> (intros; first | (exfalso; omega) | rfl | omega)
          · intro vs p hI hp
            have h4 : (vs 4) = .bool true := hp 4 (by simp [Lzg13])
            have h20 : (vs 20) = .bool true := hp 20 (by simp [Lzg13])
            have e79 : (Roll.putD Dzg13 vs [4, 20] b0).eval (.tmp 79) = .bool true := (Roll.eval_new 4 rfl (by decide) (by decide) (by omega)).trans h4
            have e95 : (Roll.putD Dzg13 vs [4, 20] b0).eval (.tmp 95) = .bool true := (Roll.eval_new 20 rfl (by decide) (by decide) (by omega)).trans h20
            clear hp hlv hN
            unfold Roll.Goes
            simp only [Lzg13, List.getD_cons_zero, List.getD_cons_succ]
            generalize Roll.putD Dzg13 vs [4, 20] b0 = a1 at *
            refine Roll.goes_val (w' := p) (.bool true) rfl ?_ ⟨hI, Below.refl _ _, rfl⟩
            (have ec : ∀ x, a1.eval (.const x) = x := fun _ => rfl); (have ef : ∀ x, a1.eval (.func x) = .func (.func x) #[] #[] := fun _ => rfl); generalize a1.eval = ρ at *
            clear h4 h20
            go_simp <;> (intros; first | (exfalso; omega) | rfl | omega)
          · intro vs p hI hp
            have h21 : (vs 21) = .bool true := hp 21 (by simp [Lzg13])
            have e96 : (Roll.putD Dzg13 vs [21] b0).eval (.tmp 96) = .bool true := (Roll.eval_new 21 rfl (by decide) (by decide) (by omega)).trans h21
            clear hp hlv hN
            unfold Roll.Goes
            simp only [Lzg13, List.getD_cons_zero, List.getD_cons_succ]
            generalize Roll.putD Dzg13 vs [21] b0 = a1 at *
            refine Roll.goes_val (w' := p) (.bool true) rfl ?_ ⟨hI, Below.refl _ _, rfl⟩
            (have ec : ∀ x, a1.eval (.const x) = x := fun _ => rfl); (have ef : ∀ x, a1.eval (.func x) = .func (.func x) #[] #[] := fun _ => rfl); generalize a1.eval = ρ at *
            clear h21
            go_simp <;> (intros; first | (exfalso; omega) | rfl | omega)
          · intro vs p hI hp
            have h22 : (vs 22) = .bool true := hp 22 (by simp [Lzg13])
            clear hp hlv hN
            refine ⟨fun hg => ?_, fun hg => absurd h22 hg⟩
            clear hg
            unfold Roll.Goes
            simp only [Lzg13, List.getD_cons_zero, List.getD_cons_succ]
            generalize Roll.putD Dzg13 vs [22] b0 = a1 at *
            refine Roll.goes_call 11 #[] p rfl (by have ec : ∀ x, a1.eval (.const x) = x := fun _ => rfl; have ef : ∀ x, a1.eval (.func x) = .func (.func x) #[] #[] := fun _ => rfl; generalize a1.eval = ρ at *; go_simp) ?_
            refine (HLV.out p).mono ?_
            rintro q p2 ⟨rfl, hb⟩
            exact ⟨_, rfl, hI.trans (hb.mono hI.size), hb, rfl⟩
          · intro vs p hI hp
            have h22 : (vs 22) = .bool true := hp 22 (by simp [Lzg13])
            have h23 : (vs 23) = .bool true := hp 23 (by simp [Lzg13])
            have e97 : (Roll.putD Dzg13 vs [22, 23] b0).eval (.tmp 97) = .bool true := (Roll.eval_new 22 rfl (by decide) (by decide) (by omega)).trans h22
            have e98 : (Roll.putD Dzg13 vs [22, 23] b0).eval (.tmp 98) = .bool true := (Roll.eval_new 23 rfl (by decide) (by decide) (by omega)).trans h23
            clear hp hlv hN
            unfold Roll.Goes
            simp only [Lzg13, List.getD_cons_zero, List.getD_cons_succ]
            generalize Roll.putD Dzg13 vs [22, 23] b0 = a1 at *
            refine Roll.goes_val (w' := p) (.bool true) rfl ?_ ⟨hI, Below.refl _ _, rfl⟩
            (have ec : ∀ x, a1.eval (.const x) = x := fun _ => rfl); (have ef : ∀ x, a1.eval (.func x) = .func (.func x) #[] #[] := fun _ => rfl); generalize a1.eval = ρ at *
            clear h22 h23
            go_simp <;> (intros; first | (exfalso; omega) | rfl | omega)
        · intro vs p hI hR
          have h0 : (vs 0) = .bool true := hR 0 (by omega)
          have h1 : (vs 1) = .int .i64 (j : Int) := hR 1 (by omega)
          have h2 : (vs 2) = .bool true := hR 2 (by omega)
          have h3 : (vs 3) = .bool true := hR 3 (by omega)
          have h4 : (vs 4) = .bool true := hR 4 (by omega)
          have h5 : (vs 5) = .bool true := hR 5 (by omega)
          have h6 : (vs 6) = .bool false := hR 6 (by omega)
          have h7 : (vs 7) = .bool false := hR 7 (by omega)
          have h8 : (vs 8) = .agg #[.int .i64 O, .slice (some ⟨b, off, none⟩) nz cz] := hR 8 (by omega)
          have h9 : (vs 9) = .int .i64 d := hR 9 (by omega)
          have h10 : (vs 10) = .int .i64 s := hR 10 (by omega)
          have h11 : (vs 11) = .bool late := hR 11 (by omega)
          have h12 : (vs 12) = .int .i64 X := hR 12 (by omega)
          have h13 : (vs 13) = .pointer (some ⟨gz, 1, none⟩) := hR 13 (by omega)
          have h14 : (vs 14) = .slice (some ⟨b, off, none⟩) nz cz := hR 14 (by omega)
          have h15 : (vs 15) = .int .i64 (j : Int) := hR 15 (by omega)
          have h16 : (vs 16) = .pointer (some ⟨b, oj, none⟩) := hR 16 (by omega)
          have h17 : (vs 17) = .pointer (some ⟨b, oj, none⟩) := hR 17 (by omega)
          have h18 : (vs 18) = .int .i64 X := hR 18 (by omega)
          have h19 : (vs 19) = .bool true := hR 19 (by omega)
          have h20 : (vs 20) = .bool true := hR 20 (by omega)
          have h21 : (vs 21) = .bool true := hR 21 (by omega)
          have h22 : (vs 22) = .bool true := hR 22 (by omega)
          have h23 : (vs 23) = .bool true := hR 23 (by omega)
          have h24 : (vs 24) = .bool true := hR 24 (by omega)
          clear hR
          simp only [List.range_succ, List.range_zero, List.nil_append, List.cons_append, Roll.putD, Act.put, List.getD_cons_zero, List.getD_cons_succ, List.setIfInBounds_toArray, List.set_cons_zero, List.set_cons_succ, List.drop_succ_cons, List.drop_zero, Dzg13]
          simp only [h0, h1, h2, h3, h4, h5, h6, h7, h8, h9, h10, h11, h12, h13, h14, h15, h16, h17, h18, h19, h20, h21, h22, h23, h24]
          clear h0 h1 h2 h3 h4 h5 h6 h7 h8 h9 h10 h11 h12 h13 h14 h15 h16 h17 h18 h19 h20 h21 h22 h23 h24
          have HBE := Lib.hid (HBP.out.trans (hI.mono HBP.out.size))
          clear hI
          go_wp2_with fail
          go_ret
          exact ⟨rfl, HW.out.trans (HBE.out.mono HW.out.size)⟩
end Go.Proofs.Ytcdjilnlmihnhaa

/-
  The law DateParses (written by gen_IW.py).
-/
import Derived.Test.YtcoijmggfkjcjaaDoorIG
import Derived.Test.YtcoijmggfkjcjaaDoorID
import Derived.Test.YtcoijmggfkjcjaaDoorIR
namespace Go.Proofs.YtcoijmggfkjcjaaDoor
open Go.RowKit
set_option linter.unusedSimpArgs false
set_option linter.unusedVariables false
theorem run_conv1 (w : World) (g : Nat) (c : Int) (h : w.heap[g]? = some (.cells #[.int .u8 c] 5 (0, 0))) (hc : 0 ≤ c ∧ c ≤ 255) :
    (convert 41 9 (.slice (some ⟨g, 0, none⟩) 1 1)).run Tryd.prog w = .ok (.string ⟨#[UInt8.ofNat c.toNat]⟩) w := by
  refine run_convert_bytes_back w 41 9 5 ⟨g, 0, none⟩ 1 [UInt8.ofNat c.toNat] Tryd.underlying41 Tryd.underlying5 Tryd.underlying9 (fun j hj => ?_)
  have hj0 : j = 0 := by simp at hj; omega
  subst hj0
  have h1 := cell_of_row w g 0 _ _ _ h
  have e : (([UInt8.ofNat c.toNat] : List UInt8)[0]'hj).toNat = c.toNat := by
    show (UInt8.ofNat c.toNat).toNat = c.toNat
    rw [UInt8.toNat_ofNat']
    omega
  rw [e]
  have e2 : ((c.toNat : Nat) : Int) = c := by omega
  rw [e2]
  exact h1
def Dpa0 : List (Option Tmp) := [some 43, some 44, some 45, some 46, some 47, some 48, some 49, some 50, some 51, some 52, some 53, some 13]
def Lpa0 : List (List Nat) := [[], [], [0, 1], [], [3], [4], [2, 5], [], [], [7, 8], [6, 9], [10]]
def Dpa1 : List (Option Tmp) := [some 56, some 57, some 58, some 59, some 60, some 61, some 62, some 63, some 64, some 65, some 66, some 67, some 68, some 69, some 70, some 13]
def Lpa1 : List (List Nat) := [[], [], [0, 1], [], [3], [4], [2, 5], [], [], [8], [], [10], [9, 11], [7, 12], [6, 13], [14]]
set_option maxRecDepth 100000 in
set_option maxHeartbeats 8000000 in
theorem parses_0 (raw : ByteArray) (n at_ how c a H : Int) (K K2 : Nat) (w0 : World) (hT : Tabs w0) (hraw : raw.size ≤ 9223372036854775807) (ps : ByteArray) (hz : ps.size = 10) (hc : 0 ≤ c ∧ c ≤ 255) (hK : K ≤ 10) (hK2 : K2 = min (K + 1) 10)
    (cD : ∀ u, Calls Tryd.prog 21 #[.int .i64 n] u fun e w' => e = .returned (.int .i64 a) ∧ u = w')
    (cP : ∀ u, Tabs u → Calls Tryd.prog 25 #[.int .i64 a] u fun e w' => e = .returned (.string ps) ∧ Below u.heap.size u w')
    (cA : ∀ u, Calls Tryd.prog 15 #[.int .i64 at_, .int .i64 11] u fun e w' => e = .returned (.int .i64 (K : Int)) ∧ u = w')
    (cH : ∀ u, Calls Tryd.prog 15 #[.int .i64 how, .int .i64 3] u fun e w' => e = .returned (.int .i64 0) ∧ u = w') :
    Calls Tryd.prog 8 #[.string raw, .int .i64 n, .int .i64 at_, .int .i64 how, .int .u8 c] w0 fun e w' => e = .returned (.bool true) ∧ Below w0.heap.size w0 w' := by
  obtain ⟨sc, hsc⟩ : ∃ sc : ByteArray, sc = ⟨#[UInt8.ofNat c.toNat]⟩ := ⟨_, rfl⟩
  have HSC : Hid ((⟨#[UInt8.ofNat c.toNat]⟩ : ByteArray) = sc) := Lib.hid hsc.symm
  have HC1 := Lib.hid hc
  have FZ := Lib.hid hz
  have FZI : Hid ((ps.size : Int) = 10) := Lib.hid (by omega)
  have FK : Hid ((K : Int) ≤ 10) := Lib.hid (by omega)
  have FK2 : Hid ((K2 : Int) ≤ 10) := Lib.hid (by omega)
  have FW : Hid (IntKind.i64.wrap ((K : Int) + 1) = (K : Int) + 1) := Lib.hid (i64_id _ (by omega) (by omega))
  have HMIN : Hid (min ((K : Int) + 1) 10 = (K2 : Int)) := Lib.hid (by omega)
  have Z1 : Hid ((ps.extract 0 K).size = K) := Lib.hid (by rw [ByteArray.size_extract]; omega)
  have Z2 : Hid ((ps.extract K 10).size = 10 - K) := Lib.hid (by rw [ByteArray.size_extract]; omega)
  have Z4 : Hid ((ps.extract K2 10).size = 10 - K2) := Lib.hid (by rw [ByteArray.size_extract]; omega)
  have ZC : Hid (sc.size = 1) := Lib.hid (by rw [hsc]; rfl)
  have Z3 : Hid ((ps.extract 0 K ++ sc).size = K + 1) := Lib.hid (by rw [ByteArray.size_append, Z1.out, ZC.out])
  obtain ⟨tn, htn⟩ : ∃ tn : ByteArray, tn = (ps.extract 0 K ++ sc) ++ ps.extract K 10 := ⟨_, rfl⟩
  have FT : Hid ((ps.extract 0 K ++ sc) ++ ps.extract K 10 = tn) := Lib.hid htn.symm
  have HTNS : Hid (tn.size ≤ 100) := Lib.hid (by rw [htn, ByteArray.size_append, Z3.out, Z2.out]; omega)
  have HRAW := Lib.hid hraw
  have HDH := Lib.hid cD
  have HPR := Lib.hid cP
  have HAT := Lib.hid cA
  have HHO := Lib.hid cH
  have HTP := Lib.hid hT
  have HBP : Hid (Below w0.heap.size w0 w0) := Lib.hid (Below.refl _ _)
  have e1 : (ps.size : Int) = 10 := FZI.out
  have e2 : (K : Int) ≤ 10 := FK.out
  have e3 : (K2 : Int) ≤ 10 := FK2.out
  have e4 := FW.out
  have e5 := HMIN.out
  have e6 := Z1.out
  have e7 := Z4.out
  have e8 : ps.size = 10 := FZ.out
  have e9 : (K2 : Int) ≤ (ps.size : Int) := by omega
  have e10 : (K : Int) ≤ (ps.size : Int) := by omega
  clear hT hraw hz hc hK hK2 cD cP cA cH hsc htn
  go_enter Tryd.func8, Tryd.ntmps8
  go_upto_region 2 with (first
    | (go_at_call 21; refine (HDH.out _).mono ?_; rintro e w1 ⟨rfl, rfl⟩)
    | (go_at_call 25; refine (HPR.out _ HTP.out).mono ?_; rintro e w1 ⟨rfl, hb⟩; have HTN := Tab_stepD HTP hb; have HBN := Bel_stepD HBP hb; clear HTP HBP; have HTP := HTN; have HBP := HBN; clear HTN HBN; clear hb))
  go_upto_region 3 with (go_at_call 15; refine (HAT.out _).mono ?_; rintro e w1 ⟨rfl, rfl⟩)
  go_quiet (fail)
  obtain ⟨w2, hw⟩ : ∃ w2, w2 = w1.drewN nq := ⟨_, rfl⟩
  have hb : Below w1.heap.size w1 w2 := by rw [hw]; exact below_drewN (Below.refl _ _) _
  have HTN := Tab_stepD HTP hb
  have HBN := Bel_stepD HBP hb
  clear HTP HBP
  have HTP := HTN
  have HBP := HBN
  rw [← hw]
  clear hw hb HTN HBN
  go_upto_block 0 with (go_at_call 15; refine (HHO.out _).mono ?_; rintro e w1 ⟨rfl, rfl⟩)
  clear e1 e2 e3 e4 e5 e6 e7 e8 e9 e10
  go_upto_region 6 with fail
  refine Roll.region_f 12 104 Dpa0 Lpa0 [(4, .int .u8 c), (11, .string ps), (12, .int .i64 (K : Int))] (fun p => Below w2.heap.size w2 p) (fun p p2 => Below p.heap.size p p2) [fun vv p => vv = .string ps, fun vv p => vv = .int .i64 (K : Int), fun vv p => vv = .string (ps.extract 0 K), fun vv p => vv = .int .u8 c, fun vv p => ∃ r, vv = .slice (some ⟨r, 0, none⟩) 1 1 ∧ p.heap[r]? = some (.cells #[.int .u8 c] 5 (0, 0)), fun vv p => vv = .string sc, fun vv p => vv = .string (ps.extract 0 K ++ sc), fun vv p => vv = .string ps, fun vv p => vv = .int .i64 (K : Int), fun vv p => vv = .string (ps.extract K 10), fun vv p => vv = .string tn, fun vv p => vv = .string tn] (by kernel_rfl) (by kernel_rfl) rfl ⟨rfl, rfl, rfl, trivial⟩ ((Below.refl _ _).drew) ?_ ?_ ?_
  · exact ⟨fun _ _ _ _ h => h, fun _ _ _ _ h => h, fun _ _ _ _ h => h, fun _ _ _ _ h => h, fun _ _ _ hs h => by obtain ⟨r, e1, e3⟩ := h; exact ⟨r, e1, (Kept.of_below (fun _ => False) hs).heap e3 (fun h => h)⟩, fun _ _ _ _ h => h, fun _ _ _ _ h => h, fun _ _ _ _ h => h, fun _ _ _ _ h => h, fun _ _ _ _ h => h, fun _ _ _ _ h => h, fun _ _ _ _ h => h, trivial⟩
  · intro b0 hN hlv
    refine ⟨?_, ?_, ?_, ?_, ?_, ?_, ?_, ?_, ?_, ?_, ?_, ?_, trivial⟩
    · intro vs p hI hp
      have e11 : (Roll.putD Dpa0 vs [] b0).eval (.tmp 11) = .string ps := (Roll.eval_old rfl).trans (hlv.at 1 (11, .string ps) rfl)
      clear hp hlv hN
      unfold Roll.Goes
      simp only [Lpa0, List.getD_cons_zero, List.getD_cons_succ]
      generalize Roll.putD Dpa0 vs [] b0 = a1 at *
      refine Roll.goes_val (w' := p) (.string ps) rfl ?_ ⟨hI, Below.refl _ _, rfl⟩
      (have ec : ∀ x, a1.eval (.const x) = x := fun _ => rfl); (have ef : ∀ x, a1.eval (.func x) = .func (.func x) #[] #[] := fun _ => rfl); generalize a1.eval = ρ at *
      skip
      go_simp <;> (intros; first | (exfalso; omega) | rfl | omega)
    · intro vs p hI hp
      have e12 : (Roll.putD Dpa0 vs [] b0).eval (.tmp 12) = .int .i64 (K : Int) := (Roll.eval_old rfl).trans (hlv.at 2 (12, .int .i64 (K : Int)) rfl)
      clear hp hlv hN
      unfold Roll.Goes
      simp only [Lpa0, List.getD_cons_zero, List.getD_cons_succ]
      generalize Roll.putD Dpa0 vs [] b0 = a1 at *
      refine Roll.goes_val (w' := p) (.int .i64 (K : Int)) rfl ?_ ⟨hI, Below.refl _ _, rfl⟩
      (have ec : ∀ x, a1.eval (.const x) = x := fun _ => rfl); (have ef : ∀ x, a1.eval (.func x) = .func (.func x) #[] #[] := fun _ => rfl); generalize a1.eval = ρ at *
      skip
      go_simp <;> (intros; first | (exfalso; omega) | rfl | omega)
    · intro vs p hI hp
      have h0 : (vs 0) = .string ps := hp 0 (by simp [Lpa0])
      have h1 : (vs 1) = .int .i64 (K : Int) := hp 1 (by simp [Lpa0])
      have e43 : (Roll.putD Dpa0 vs [0, 1] b0).eval (.tmp 43) = .string ps := (Roll.eval_new 0 rfl (by decide) (by decide) (by omega)).trans h0
      have e44 : (Roll.putD Dpa0 vs [0, 1] b0).eval (.tmp 44) = .int .i64 (K : Int) := (Roll.eval_new 1 rfl (by decide) (by decide) (by omega)).trans h1
      clear hp hlv hN
      unfold Roll.Goes
      simp only [Lpa0, List.getD_cons_zero, List.getD_cons_succ]
      generalize Roll.putD Dpa0 vs [0, 1] b0 = a1 at *
      have f0 := FK.out
      have f1 := FZ.out
      refine Roll.goes_val (w' := p) (.string (ps.extract 0 K)) rfl ?_ ⟨hI, Below.refl _ _, rfl⟩
      (have ec : ∀ x, a1.eval (.const x) = x := fun _ => rfl); (have ef : ∀ x, a1.eval (.func x) = .func (.func x) #[] #[] := fun _ => rfl); generalize a1.eval = ρ at *
      clear h0 h1
      (first | (go_simp; done) | (go_simp <;> (intros; first | (exfalso; omega) | rfl | omega)) | (go_simp; rw [if_pos (by omega), if_pos (by omega)]) | (go_simp; rw [if_pos (by omega)]))
    · intro vs p hI hp
      have e4 : (Roll.putD Dpa0 vs [] b0).eval (.tmp 4) = .int .u8 c := (Roll.eval_old rfl).trans (hlv.at 0 (4, .int .u8 c) rfl)
      clear hp hlv hN
      unfold Roll.Goes
      simp only [Lpa0, List.getD_cons_zero, List.getD_cons_succ]
      generalize Roll.putD Dpa0 vs [] b0 = a1 at *
      refine Roll.goes_val (w' := p) (.int .u8 c) rfl ?_ ⟨hI, Below.refl _ _, rfl⟩
      (have ec : ∀ x, a1.eval (.const x) = x := fun _ => rfl); (have ef : ∀ x, a1.eval (.func x) = .func (.func x) #[] #[] := fun _ => rfl); generalize a1.eval = ρ at *
      skip
      go_simp <;> (intros; first | (exfalso; omega) | rfl | omega)
    · intro vs p hI hp
      have h3 : (vs 3) = .int .u8 c := hp 3 (by simp [Lpa0])
      have e46 : (Roll.putD Dpa0 vs [3] b0).eval (.tmp 46) = .int .u8 c := (Roll.eval_new 3 rfl (by decide) (by decide) (by omega)).trans h3
      clear hp hlv hN
      unfold Roll.Goes
      simp only [Lpa0, List.getD_cons_zero, List.getD_cons_succ]
      generalize Roll.putD Dpa0 vs [3] b0 = a1 at *
      have hal : Below p.heap.size p (p.alloc (.cells #[.int .u8 c] 5)) := (Below.refl _ _).alloc (Nat.le_refl _) _
      refine Roll.goes_val (w' := p.alloc (.cells #[.int .u8 c] 5)) (.slice (some ⟨p.heap.size, 0, none⟩) 1 1) rfl (by have ec : ∀ x, a1.eval (.const x) = x := fun _ => rfl; have ef : ∀ x, a1.eval (.func x) = .func (.func x) #[] #[] := fun _ => rfl; generalize a1.eval = ρ at *; go_simp <;> (intros; first | (exfalso; omega) | rfl)) ⟨hI.trans (hal.mono hI.size), hal, p.heap.size, rfl, heap_new0⟩
    · intro vs p hI hp
      have h4 : ∃ r, (vs 4) = .slice (some ⟨r, 0, none⟩) 1 1 ∧ p.heap[r]? = some (.cells #[.int .u8 c] 5 (0, 0)) := hp 4 (by simp [Lpa0])
      have e47 : (Roll.putD Dpa0 vs [4] b0).eval (.tmp 47) = vs 4 := (Roll.eval_new 4 rfl (by decide) (by decide) (by omega))
      clear hp hlv hN
      unfold Roll.Goes
      simp only [Lpa0, List.getD_cons_zero, List.getD_cons_succ]
      generalize Roll.putD Dpa0 vs [4] b0 = a1 at *
      obtain ⟨r, er, hr⟩ := h4
      rw [er] at e47
      have fc := run_conv1 p r c hr HC1.out
      rw [HSC.out] at fc
      refine Roll.goes_val (w' := p) (.string sc) rfl ?_ ⟨hI, Below.refl _ _, rfl⟩
      (have ec : ∀ x, a1.eval (.const x) = x := fun _ => rfl); (have ef : ∀ x, a1.eval (.func x) = .func (.func x) #[] #[] := fun _ => rfl); generalize a1.eval = ρ at *
      go_simp <;> (intros; first | (exfalso; omega) | rfl | omega)
    · intro vs p hI hp
      have h2 : (vs 2) = .string (ps.extract 0 K) := hp 2 (by simp [Lpa0])
      have h5 : (vs 5) = .string sc := hp 5 (by simp [Lpa0])
      have e45 : (Roll.putD Dpa0 vs [2, 5] b0).eval (.tmp 45) = .string (ps.extract 0 K) := (Roll.eval_new 2 rfl (by decide) (by decide) (by omega)).trans h2
      have e48 : (Roll.putD Dpa0 vs [2, 5] b0).eval (.tmp 48) = .string sc := (Roll.eval_new 5 rfl (by decide) (by decide) (by omega)).trans h5
      clear hp hlv hN
      unfold Roll.Goes
      simp only [Lpa0, List.getD_cons_zero, List.getD_cons_succ]
      generalize Roll.putD Dpa0 vs [2, 5] b0 = a1 at *
      have f0 := Z1.out
      have f1 := ZC.out
      have f2 := FK.out
      refine Roll.goes_val (w' := p) (.string (ps.extract 0 K ++ sc)) rfl ?_ ⟨hI, Below.refl _ _, rfl⟩
      (have ec : ∀ x, a1.eval (.const x) = x := fun _ => rfl); (have ef : ∀ x, a1.eval (.func x) = .func (.func x) #[] #[] := fun _ => rfl); generalize a1.eval = ρ at *
      clear h2 h5
      go_simp <;> (intros; first | (exfalso; omega) | rfl | omega)
    · intro vs p hI hp
      have e11 : (Roll.putD Dpa0 vs [] b0).eval (.tmp 11) = .string ps := (Roll.eval_old rfl).trans (hlv.at 1 (11, .string ps) rfl)
      clear hp hlv hN
      unfold Roll.Goes
      simp only [Lpa0, List.getD_cons_zero, List.getD_cons_succ]
      generalize Roll.putD Dpa0 vs [] b0 = a1 at *
      refine Roll.goes_val (w' := p) (.string ps) rfl ?_ ⟨hI, Below.refl _ _, rfl⟩
      (have ec : ∀ x, a1.eval (.const x) = x := fun _ => rfl); (have ef : ∀ x, a1.eval (.func x) = .func (.func x) #[] #[] := fun _ => rfl); generalize a1.eval = ρ at *
      skip
      go_simp <;> (intros; first | (exfalso; omega) | rfl | omega)
    · intro vs p hI hp
      have e12 : (Roll.putD Dpa0 vs [] b0).eval (.tmp 12) = .int .i64 (K : Int) := (Roll.eval_old rfl).trans (hlv.at 2 (12, .int .i64 (K : Int)) rfl)
      clear hp hlv hN
      unfold Roll.Goes
      simp only [Lpa0, List.getD_cons_zero, List.getD_cons_succ]
      generalize Roll.putD Dpa0 vs [] b0 = a1 at *
      refine Roll.goes_val (w' := p) (.int .i64 (K : Int)) rfl ?_ ⟨hI, Below.refl _ _, rfl⟩
      (have ec : ∀ x, a1.eval (.const x) = x := fun _ => rfl); (have ef : ∀ x, a1.eval (.func x) = .func (.func x) #[] #[] := fun _ => rfl); generalize a1.eval = ρ at *
      skip
      go_simp <;> (intros; first | (exfalso; omega) | rfl | omega)
    · intro vs p hI hp
      have h7 : (vs 7) = .string ps := hp 7 (by simp [Lpa0])
      have h8 : (vs 8) = .int .i64 (K : Int) := hp 8 (by simp [Lpa0])
      have e50 : (Roll.putD Dpa0 vs [7, 8] b0).eval (.tmp 50) = .string ps := (Roll.eval_new 7 rfl (by decide) (by decide) (by omega)).trans h7
      have e51 : (Roll.putD Dpa0 vs [7, 8] b0).eval (.tmp 51) = .int .i64 (K : Int) := (Roll.eval_new 8 rfl (by decide) (by decide) (by omega)).trans h8
      clear hp hlv hN
      unfold Roll.Goes
      simp only [Lpa0, List.getD_cons_zero, List.getD_cons_succ]
      generalize Roll.putD Dpa0 vs [7, 8] b0 = a1 at *
      have f0 := FK.out
      have f1 := FZ.out
      refine Roll.goes_val (w' := p) (.string (ps.extract K 10)) rfl ?_ ⟨hI, Below.refl _ _, rfl⟩
      (have ec : ∀ x, a1.eval (.const x) = x := fun _ => rfl); (have ef : ∀ x, a1.eval (.func x) = .func (.func x) #[] #[] := fun _ => rfl); generalize a1.eval = ρ at *
      clear h7 h8
      (first | (go_simp; done) | (go_simp <;> (intros; first | (exfalso; omega) | rfl | omega)) | (go_simp; rw [if_pos (by omega), if_pos (by omega)]) | (go_simp; rw [if_pos (by omega)]))
    · intro vs p hI hp
      have h6 : (vs 6) = .string (ps.extract 0 K ++ sc) := hp 6 (by simp [Lpa0])
      have h9 : (vs 9) = .string (ps.extract K 10) := hp 9 (by simp [Lpa0])
      have e49 : (Roll.putD Dpa0 vs [6, 9] b0).eval (.tmp 49) = .string (ps.extract 0 K ++ sc) := (Roll.eval_new 6 rfl (by decide) (by decide) (by omega)).trans h6
      have e52 : (Roll.putD Dpa0 vs [6, 9] b0).eval (.tmp 52) = .string (ps.extract K 10) := (Roll.eval_new 9 rfl (by decide) (by decide) (by omega)).trans h9
      clear hp hlv hN
      unfold Roll.Goes
      simp only [Lpa0, List.getD_cons_zero, List.getD_cons_succ]
      generalize Roll.putD Dpa0 vs [6, 9] b0 = a1 at *
      have f0 := FT.out
      have f1 := Z3.out
      have f2 := Z2.out
      have f3 := FK.out
      refine Roll.goes_val (w' := p) (.string tn) rfl ?_ ⟨hI, Below.refl _ _, rfl⟩
      (have ec : ∀ x, a1.eval (.const x) = x := fun _ => rfl); (have ef : ∀ x, a1.eval (.func x) = .func (.func x) #[] #[] := fun _ => rfl); generalize a1.eval = ρ at *
      clear h6 h9
      go_simp <;> (intros; first | (exfalso; omega) | rfl | omega)
    · intro vs p hI hp
      have h10 : (vs 10) = .string tn := hp 10 (by simp [Lpa0])
      have e53 : (Roll.putD Dpa0 vs [10] b0).eval (.tmp 53) = .string tn := (Roll.eval_new 10 rfl (by decide) (by decide) (by omega)).trans h10
      clear hp hlv hN
      unfold Roll.Goes
      simp only [Lpa0, List.getD_cons_zero, List.getD_cons_succ]
      generalize Roll.putD Dpa0 vs [10] b0 = a1 at *
      refine Roll.goes_val (w' := p) (.string tn) rfl ?_ ⟨hI, Below.refl _ _, rfl⟩
      (have ec : ∀ x, a1.eval (.const x) = x := fun _ => rfl); (have ef : ∀ x, a1.eval (.func x) = .func (.func x) #[] #[] := fun _ => rfl); generalize a1.eval = ρ at *
      clear h10
      go_simp <;> (intros; first | (exfalso; omega) | rfl | omega)
  · intro vs p hI hR
    have h0 : (vs 0) = .string ps := hR 0 (by omega)
    have h1 : (vs 1) = .int .i64 (K : Int) := hR 1 (by omega)
    have h2 : (vs 2) = .string (ps.extract 0 K) := hR 2 (by omega)
    have h3 : (vs 3) = .int .u8 c := hR 3 (by omega)
    have h4 : ∃ r, (vs 4) = .slice (some ⟨r, 0, none⟩) 1 1 ∧ p.heap[r]? = some (.cells #[.int .u8 c] 5 (0, 0)) := hR 4 (by omega)
    have h5 : (vs 5) = .string sc := hR 5 (by omega)
    have h6 : (vs 6) = .string (ps.extract 0 K ++ sc) := hR 6 (by omega)
    have h7 : (vs 7) = .string ps := hR 7 (by omega)
    have h8 : (vs 8) = .int .i64 (K : Int) := hR 8 (by omega)
    have h9 : (vs 9) = .string (ps.extract K 10) := hR 9 (by omega)
    have h10 : (vs 10) = .string tn := hR 10 (by omega)
    have h11 : (vs 11) = .string tn := hR 11 (by omega)
    clear hR
    simp only [List.range_succ, List.range_zero, List.nil_append, List.cons_append, Roll.putD, Act.put, List.getD_cons_zero, List.getD_cons_succ, List.setIfInBounds_toArray, List.set_cons_zero, List.set_cons_succ, List.drop_succ_cons, List.drop_zero, Dpa0]
    simp only [h0, h1, h2, h3, h5, h6, h7, h8, h9, h10, h11]
    clear h0 h1 h2 h3 h5 h6 h7 h8 h9 h10 h11
    have HI := Lib.hid hI
    have HTN := Tab_stepD HTP hI
    have HBN := Bel_stepD HBP hI
    clear hI HTP HBP
    have HTP := HTN
    have HBP := HBN
    clear HTN HBN
    go_upto_region 10 with fail
    obtain ⟨w, hw1⟩ : ∃ w, w = p.alloc (.cells #[.string raw, .string ps, .string tn] 9) := ⟨_, rfl⟩
    obtain ⟨gs, hgs⟩ : ∃ gs, gs = p.heap.size := ⟨_, rfl⟩
    have hrd : w.heap[gs]? = some (.cells #[.string raw, .string ps, .string tn] 9 (0, 0)) := by rw [hw1, hgs]; exact heap_new0
    have hb1 : Below p.heap.size p w := by rw [hw1]; exact (Below.refl _ p).alloc (Nat.le_refl _) _
    rw [← hw1]
    rw [← hgs]
    have HLS := Lib.hid (heap_lt hrd)
    have HVD : Hid (∀ i : Nat, i < 3 → ∃ a : ByteArray, w.cell? ⟨gs, i, none⟩ = some (.string a) ∧ a.size ≤ 9223372036854775807) := Lib.hid (fun i hi => by
      have h : i = 0 ∨ i = 1 ∨ i = 2 := by omega
      rcases h with rfl | rfl | rfl
      · exact ⟨_, cell_of_row w gs 0 _ _ _ hrd, HRAW.out⟩
      · exact ⟨_, cell_of_row w gs 1 _ _ _ hrd, by have := FZ.out; omega⟩
      · exact ⟨_, cell_of_row w gs 2 _ _ _ hrd, by have := HTNS.out; omega⟩)
    have HT0 := Lib.hid (HTP.out.below hb1)
    have HB1 := Bel_stepD HBP hb1
    clear hw1 hgs hrd hb1 HTP HBP
    go_wp2_with fail
    go_loopw [15] (fun ii wr => ∃ i : Nat, i ≤ 3 ∧ ii = .int .i64 (i : Int) ∧ Tabs wr ∧ Below w.heap.size w wr) (fun ii _ => (3 - intOf ii).toNat)
    case atStart => exact ⟨0, by omega, rfl, HT0.out, Below.refl _ _⟩
    case round =>
      obtain ⟨i, hi, rfl, ht, hb⟩ := hrel
      have HTP := Lib.hid ht
      have HBP := Lib.hid hb
      clear ht hb
      by_cases hi3 : i < 3
      · have hii : (i : Int) < 3 := by omega
        obtain ⟨a, ha, has⟩ := HVD.out i hi3
        have HCA := Lib.hid ha
        have ca : wr.cell? ⟨gs, i, none⟩ = some (.string a) := (HBP.out.cell (p := ⟨gs, i, none⟩) HLS.out).trans ha
        have j1 : IntKind.i64.wrap ((i : Int) + 1) = (i : Int) + 1 := i64_id _ (by omega) (by omega)
        obtain ⟨r, hr⟩ : ∃ r, r = prsN a.data.toList := ⟨_, rfl⟩
        obtain ⟨er, her⟩ : ∃ er, er = prsE a.data.toList := ⟨_, rfl⟩
        have HP1 : Hid (∀ p, Tabs p → Calls Tryd.prog 36 #[.string a] p fun e w' => e = .returned (.tuple #[.int .i64 r, .int .i64 er]) ∧ Below p.heap.size p w') := Lib.hid (fun p hp => by rw [hr, her]; exact parse_any a p has hp)
        have HP2 : Hid (∀ p, Tabs p → Calls Tryd.prog 37 #[.string a] p fun e w' => e = .returned (.tuple #[.int .i64 r, .int .i64 er]) ∧ Below p.heap.size p w') := Lib.hid (fun p hp => by rw [hr, her]; exact refParse_any a p hp)
        clear ha has hr her
        go_upto_region 14 with (go_at_call 36; refine (HP1.out _ HTP.out).mono ?_; rintro e v1 ⟨rfl, hb⟩; have HTN := Tab_stepD HTP hb; have HBN := Bel_stepD HBP hb; clear HTP HBP; have HTP := HTN; have HBP := HBN; clear HTN HBN; clear hb; clear ca)
        have ca : v1.cell? ⟨gs, i, none⟩ = some (.string a) := (HBP.out.cell (p := ⟨gs, i, none⟩) HLS.out).trans HCA.out
        go_upto_region 15 with (go_at_call 37; refine (HP2.out _ HTP.out).mono ?_; rintro e v2 ⟨rfl, hb⟩; have HTN := Tab_stepD HTP hb; have HBN := Bel_stepD HBP hb; clear HTP HBP; have HTP := HTN; have HBP := HBN; clear HTN HBN; clear hb; clear ca)
        go_wp2_with fail
        go_roundw
        case rel => exact ⟨i + 1, by omega, by go_num, HTP.out, HBP.out⟩
        case measure => simp only [intOf]; omega
      · obtain rfl : i = 3 := by omega
        go_wp2_with (go_at_call 19; refine (lives_any _ HTP.out).mono ?_; rintro e wl ⟨rfl, hb⟩; have HBL := Lib.hid ((HB1.out.trans (HBP.out.mono HB1.out.size)).trans (hb.mono (Nat.le_trans HB1.out.size HBP.out.size))); clear hb)
        go_ret
        exact ⟨rfl, HBL.out⟩

set_option maxRecDepth 100000 in
set_option maxHeartbeats 8000000 in
theorem parses_1 (raw : ByteArray) (n at_ how c a H : Int) (K K2 : Nat) (w0 : World) (hT : Tabs w0) (hraw : raw.size ≤ 9223372036854775807) (ps : ByteArray) (hz : ps.size = 10) (hc : 0 ≤ c ∧ c ≤ 255) (hK : K ≤ 10) (hK2 : K2 = min (K + 1) 10)
    (cD : ∀ u, Calls Tryd.prog 21 #[.int .i64 n] u fun e w' => e = .returned (.int .i64 a) ∧ u = w')
    (cP : ∀ u, Tabs u → Calls Tryd.prog 25 #[.int .i64 a] u fun e w' => e = .returned (.string ps) ∧ Below u.heap.size u w')
    (cA : ∀ u, Calls Tryd.prog 15 #[.int .i64 at_, .int .i64 11] u fun e w' => e = .returned (.int .i64 (K : Int)) ∧ u = w')
    (cH : ∀ u, Calls Tryd.prog 15 #[.int .i64 how, .int .i64 3] u fun e w' => e = .returned (.int .i64 1) ∧ u = w') :
    Calls Tryd.prog 8 #[.string raw, .int .i64 n, .int .i64 at_, .int .i64 how, .int .u8 c] w0 fun e w' => e = .returned (.bool true) ∧ Below w0.heap.size w0 w' := by
  obtain ⟨sc, hsc⟩ : ∃ sc : ByteArray, sc = ⟨#[UInt8.ofNat c.toNat]⟩ := ⟨_, rfl⟩
  have HSC : Hid ((⟨#[UInt8.ofNat c.toNat]⟩ : ByteArray) = sc) := Lib.hid hsc.symm
  have HC1 := Lib.hid hc
  have FZ := Lib.hid hz
  have FZI : Hid ((ps.size : Int) = 10) := Lib.hid (by omega)
  have FK : Hid ((K : Int) ≤ 10) := Lib.hid (by omega)
  have FK2 : Hid ((K2 : Int) ≤ 10) := Lib.hid (by omega)
  have FW : Hid (IntKind.i64.wrap ((K : Int) + 1) = (K : Int) + 1) := Lib.hid (i64_id _ (by omega) (by omega))
  have HMIN : Hid (min ((K : Int) + 1) 10 = (K2 : Int)) := Lib.hid (by omega)
  have Z1 : Hid ((ps.extract 0 K).size = K) := Lib.hid (by rw [ByteArray.size_extract]; omega)
  have Z2 : Hid ((ps.extract K 10).size = 10 - K) := Lib.hid (by rw [ByteArray.size_extract]; omega)
  have Z4 : Hid ((ps.extract K2 10).size = 10 - K2) := Lib.hid (by rw [ByteArray.size_extract]; omega)
  have ZC : Hid (sc.size = 1) := Lib.hid (by rw [hsc]; rfl)
  have Z3 : Hid ((ps.extract 0 K ++ sc).size = K + 1) := Lib.hid (by rw [ByteArray.size_append, Z1.out, ZC.out])
  obtain ⟨tn, htn⟩ : ∃ tn : ByteArray, tn = (ps.extract 0 K ++ sc) ++ ps.extract K2 10 := ⟨_, rfl⟩
  have FT : Hid ((ps.extract 0 K ++ sc) ++ ps.extract K2 10 = tn) := Lib.hid htn.symm
  have HTNS : Hid (tn.size ≤ 100) := Lib.hid (by rw [htn, ByteArray.size_append, Z3.out, Z4.out]; omega)
  have HRAW := Lib.hid hraw
  have HDH := Lib.hid cD
  have HPR := Lib.hid cP
  have HAT := Lib.hid cA
  have HHO := Lib.hid cH
  have HTP := Lib.hid hT
  have HBP : Hid (Below w0.heap.size w0 w0) := Lib.hid (Below.refl _ _)
  have e1 : (ps.size : Int) = 10 := FZI.out
  have e2 : (K : Int) ≤ 10 := FK.out
  have e3 : (K2 : Int) ≤ 10 := FK2.out
  have e4 := FW.out
  have e5 := HMIN.out
  have e6 := Z1.out
  have e7 := Z4.out
  have e8 : ps.size = 10 := FZ.out
  have e9 : (K2 : Int) ≤ (ps.size : Int) := by omega
  have e10 : (K : Int) ≤ (ps.size : Int) := by omega
  clear hT hraw hz hc hK hK2 cD cP cA cH hsc htn
  go_enter Tryd.func8, Tryd.ntmps8
  go_upto_region 2 with (first
    | (go_at_call 21; refine (HDH.out _).mono ?_; rintro e w1 ⟨rfl, rfl⟩)
    | (go_at_call 25; refine (HPR.out _ HTP.out).mono ?_; rintro e w1 ⟨rfl, hb⟩; have HTN := Tab_stepD HTP hb; have HBN := Bel_stepD HBP hb; clear HTP HBP; have HTP := HTN; have HBP := HBN; clear HTN HBN; clear hb))
  go_upto_region 3 with (go_at_call 15; refine (HAT.out _).mono ?_; rintro e w1 ⟨rfl, rfl⟩)
  go_quiet (fail)
  obtain ⟨w2, hw⟩ : ∃ w2, w2 = w1.drewN nq := ⟨_, rfl⟩
  have hb : Below w1.heap.size w1 w2 := by rw [hw]; exact below_drewN (Below.refl _ _) _
  have HTN := Tab_stepD HTP hb
  have HBN := Bel_stepD HBP hb
  clear HTP HBP
  have HTP := HTN
  have HBP := HBN
  rw [← hw]
  clear hw hb HTN HBN
  go_upto_block 0 with (go_at_call 15; refine (HHO.out _).mono ?_; rintro e w1 ⟨rfl, rfl⟩)
  clear e1 e2 e3 e4 e5 e6 e7 e8 e9 e10
  go_upto_region 8 with fail
  refine Roll.region_f 16 104 Dpa1 Lpa1 [(4, .int .u8 c), (11, .string ps), (12, .int .i64 (K : Int))] (fun p => Below w2.heap.size w2 p) (fun p p2 => Below p.heap.size p p2) [fun vv p => vv = .string ps, fun vv p => vv = .int .i64 (K : Int), fun vv p => vv = .string (ps.extract 0 K), fun vv p => vv = .int .u8 c, fun vv p => ∃ r, vv = .slice (some ⟨r, 0, none⟩) 1 1 ∧ p.heap[r]? = some (.cells #[.int .u8 c] 5 (0, 0)), fun vv p => vv = .string sc, fun vv p => vv = .string (ps.extract 0 K ++ sc), fun vv p => vv = .string ps, fun vv p => vv = .int .i64 (K : Int), fun vv p => vv = .int .i64 ((K : Int) + 1), fun vv p => vv = .string ps, fun vv p => vv = .int .i64 10, fun vv p => vv = .int .i64 (K2 : Int), fun vv p => vv = .string (ps.extract K2 10), fun vv p => vv = .string tn, fun vv p => vv = .string tn] (by kernel_rfl) (by kernel_rfl) rfl ⟨rfl, rfl, rfl, trivial⟩ ((Below.refl _ _).drew) ?_ ?_ ?_
  · exact ⟨fun _ _ _ _ h => h, fun _ _ _ _ h => h, fun _ _ _ _ h => h, fun _ _ _ _ h => h, fun _ _ _ hs h => by obtain ⟨r, e1, e3⟩ := h; exact ⟨r, e1, (Kept.of_below (fun _ => False) hs).heap e3 (fun h => h)⟩, fun _ _ _ _ h => h, fun _ _ _ _ h => h, fun _ _ _ _ h => h, fun _ _ _ _ h => h, fun _ _ _ _ h => h, fun _ _ _ _ h => h, fun _ _ _ _ h => h, fun _ _ _ _ h => h, fun _ _ _ _ h => h, fun _ _ _ _ h => h, fun _ _ _ _ h => h, trivial⟩
  · intro b0 hN hlv
    refine ⟨?_, ?_, ?_, ?_, ?_, ?_, ?_, ?_, ?_, ?_, ?_, ?_, ?_, ?_, ?_, ?_, trivial⟩
    · intro vs p hI hp
      have e11 : (Roll.putD Dpa1 vs [] b0).eval (.tmp 11) = .string ps := (Roll.eval_old rfl).trans (hlv.at 1 (11, .string ps) rfl)
      clear hp hlv hN
      unfold Roll.Goes
      simp only [Lpa1, List.getD_cons_zero, List.getD_cons_succ]
      generalize Roll.putD Dpa1 vs [] b0 = a1 at *
      refine Roll.goes_val (w' := p) (.string ps) rfl ?_ ⟨hI, Below.refl _ _, rfl⟩
      (have ec : ∀ x, a1.eval (.const x) = x := fun _ => rfl); (have ef : ∀ x, a1.eval (.func x) = .func (.func x) #[] #[] := fun _ => rfl); generalize a1.eval = ρ at *
      skip
      go_simp <;> (intros; first | (exfalso; omega) | rfl | omega)
    · intro vs p hI hp
      have e12 : (Roll.putD Dpa1 vs [] b0).eval (.tmp 12) = .int .i64 (K : Int) := (Roll.eval_old rfl).trans (hlv.at 2 (12, .int .i64 (K : Int)) rfl)
      clear hp hlv hN
      unfold Roll.Goes
      simp only [Lpa1, List.getD_cons_zero, List.getD_cons_succ]
      generalize Roll.putD Dpa1 vs [] b0 = a1 at *
      refine Roll.goes_val (w' := p) (.int .i64 (K : Int)) rfl ?_ ⟨hI, Below.refl _ _, rfl⟩
      (have ec : ∀ x, a1.eval (.const x) = x := fun _ => rfl); (have ef : ∀ x, a1.eval (.func x) = .func (.func x) #[] #[] := fun _ => rfl); generalize a1.eval = ρ at *
      skip
      go_simp <;> (intros; first | (exfalso; omega) | rfl | omega)
    · intro vs p hI hp
      have h0 : (vs 0) = .string ps := hp 0 (by simp [Lpa1])
      have h1 : (vs 1) = .int .i64 (K : Int) := hp 1 (by simp [Lpa1])
      have e56 : (Roll.putD Dpa1 vs [0, 1] b0).eval (.tmp 56) = .string ps := (Roll.eval_new 0 rfl (by decide) (by decide) (by omega)).trans h0
      have e57 : (Roll.putD Dpa1 vs [0, 1] b0).eval (.tmp 57) = .int .i64 (K : Int) := (Roll.eval_new 1 rfl (by decide) (by decide) (by omega)).trans h1
      clear hp hlv hN
      unfold Roll.Goes
      simp only [Lpa1, List.getD_cons_zero, List.getD_cons_succ]
      generalize Roll.putD Dpa1 vs [0, 1] b0 = a1 at *
      have f0 := FK.out
      have f1 := FZ.out
      refine Roll.goes_val (w' := p) (.string (ps.extract 0 K)) rfl ?_ ⟨hI, Below.refl _ _, rfl⟩
      (have ec : ∀ x, a1.eval (.const x) = x := fun _ => rfl); (have ef : ∀ x, a1.eval (.func x) = .func (.func x) #[] #[] := fun _ => rfl); generalize a1.eval = ρ at *
      clear h0 h1
      (first | (go_simp; done) | (go_simp <;> (intros; first | (exfalso; omega) | rfl | omega)) | (go_simp; rw [if_pos (by omega), if_pos (by omega)]) | (go_simp; rw [if_pos (by omega)]))
    · intro vs p hI hp
      have e4 : (Roll.putD Dpa1 vs [] b0).eval (.tmp 4) = .int .u8 c := (Roll.eval_old rfl).trans (hlv.at 0 (4, .int .u8 c) rfl)
      clear hp hlv hN
      unfold Roll.Goes
      simp only [Lpa1, List.getD_cons_zero, List.getD_cons_succ]
      generalize Roll.putD Dpa1 vs [] b0 = a1 at *
      refine Roll.goes_val (w' := p) (.int .u8 c) rfl ?_ ⟨hI, Below.refl _ _, rfl⟩
      (have ec : ∀ x, a1.eval (.const x) = x := fun _ => rfl); (have ef : ∀ x, a1.eval (.func x) = .func (.func x) #[] #[] := fun _ => rfl); generalize a1.eval = ρ at *
      skip
      go_simp <;> (intros; first | (exfalso; omega) | rfl | omega)
    · intro vs p hI hp
      have h3 : (vs 3) = .int .u8 c := hp 3 (by simp [Lpa1])
      have e59 : (Roll.putD Dpa1 vs [3] b0).eval (.tmp 59) = .int .u8 c := (Roll.eval_new 3 rfl (by decide) (by decide) (by omega)).trans h3
      clear hp hlv hN
      unfold Roll.Goes
      simp only [Lpa1, List.getD_cons_zero, List.getD_cons_succ]
      generalize Roll.putD Dpa1 vs [3] b0 = a1 at *
      have hal : Below p.heap.size p (p.alloc (.cells #[.int .u8 c] 5)) := (Below.refl _ _).alloc (Nat.le_refl _) _
      refine Roll.goes_val (w' := p.alloc (.cells #[.int .u8 c] 5)) (.slice (some ⟨p.heap.size, 0, none⟩) 1 1) rfl (by have ec : ∀ x, a1.eval (.const x) = x := fun _ => rfl; have ef : ∀ x, a1.eval (.func x) = .func (.func x) #[] #[] := fun _ => rfl; generalize a1.eval = ρ at *; go_simp <;> (intros; first | (exfalso; omega) | rfl)) ⟨hI.trans (hal.mono hI.size), hal, p.heap.size, rfl, heap_new0⟩
    · intro vs p hI hp
      have h4 : ∃ r, (vs 4) = .slice (some ⟨r, 0, none⟩) 1 1 ∧ p.heap[r]? = some (.cells #[.int .u8 c] 5 (0, 0)) := hp 4 (by simp [Lpa1])
      have e60 : (Roll.putD Dpa1 vs [4] b0).eval (.tmp 60) = vs 4 := (Roll.eval_new 4 rfl (by decide) (by decide) (by omega))
      clear hp hlv hN
      unfold Roll.Goes
      simp only [Lpa1, List.getD_cons_zero, List.getD_cons_succ]
      generalize Roll.putD Dpa1 vs [4] b0 = a1 at *
      obtain ⟨r, er, hr⟩ := h4
      rw [er] at e60
      have fc := run_conv1 p r c hr HC1.out
      rw [HSC.out] at fc
      refine Roll.goes_val (w' := p) (.string sc) rfl ?_ ⟨hI, Below.refl _ _, rfl⟩
      (have ec : ∀ x, a1.eval (.const x) = x := fun _ => rfl); (have ef : ∀ x, a1.eval (.func x) = .func (.func x) #[] #[] := fun _ => rfl); generalize a1.eval = ρ at *
      go_simp <;> (intros; first | (exfalso; omega) | rfl | omega)
    · intro vs p hI hp
      have h2 : (vs 2) = .string (ps.extract 0 K) := hp 2 (by simp [Lpa1])
      have h5 : (vs 5) = .string sc := hp 5 (by simp [Lpa1])
      have e58 : (Roll.putD Dpa1 vs [2, 5] b0).eval (.tmp 58) = .string (ps.extract 0 K) := (Roll.eval_new 2 rfl (by decide) (by decide) (by omega)).trans h2
      have e61 : (Roll.putD Dpa1 vs [2, 5] b0).eval (.tmp 61) = .string sc := (Roll.eval_new 5 rfl (by decide) (by decide) (by omega)).trans h5
      clear hp hlv hN
      unfold Roll.Goes
      simp only [Lpa1, List.getD_cons_zero, List.getD_cons_succ]
      generalize Roll.putD Dpa1 vs [2, 5] b0 = a1 at *
      have f0 := Z1.out
      have f1 := ZC.out
      have f2 := FK.out
      refine Roll.goes_val (w' := p) (.string (ps.extract 0 K ++ sc)) rfl ?_ ⟨hI, Below.refl _ _, rfl⟩
      (have ec : ∀ x, a1.eval (.const x) = x := fun _ => rfl); (have ef : ∀ x, a1.eval (.func x) = .func (.func x) #[] #[] := fun _ => rfl); generalize a1.eval = ρ at *
      clear h2 h5
      go_simp <;> (intros; first | (exfalso; omega) | rfl | omega)
    · intro vs p hI hp
      have e11 : (Roll.putD Dpa1 vs [] b0).eval (.tmp 11) = .string ps := (Roll.eval_old rfl).trans (hlv.at 1 (11, .string ps) rfl)
      clear hp hlv hN
      unfold Roll.Goes
      simp only [Lpa1, List.getD_cons_zero, List.getD_cons_succ]
      generalize Roll.putD Dpa1 vs [] b0 = a1 at *
      refine Roll.goes_val (w' := p) (.string ps) rfl ?_ ⟨hI, Below.refl _ _, rfl⟩
      (have ec : ∀ x, a1.eval (.const x) = x := fun _ => rfl); (have ef : ∀ x, a1.eval (.func x) = .func (.func x) #[] #[] := fun _ => rfl); generalize a1.eval = ρ at *
      skip
      go_simp <;> (intros; first | (exfalso; omega) | rfl | omega)
    · intro vs p hI hp
      have e12 : (Roll.putD Dpa1 vs [] b0).eval (.tmp 12) = .int .i64 (K : Int) := (Roll.eval_old rfl).trans (hlv.at 2 (12, .int .i64 (K : Int)) rfl)
      clear hp hlv hN
      unfold Roll.Goes
      simp only [Lpa1, List.getD_cons_zero, List.getD_cons_succ]
      generalize Roll.putD Dpa1 vs [] b0 = a1 at *
      refine Roll.goes_val (w' := p) (.int .i64 (K : Int)) rfl ?_ ⟨hI, Below.refl _ _, rfl⟩
      (have ec : ∀ x, a1.eval (.const x) = x := fun _ => rfl); (have ef : ∀ x, a1.eval (.func x) = .func (.func x) #[] #[] := fun _ => rfl); generalize a1.eval = ρ at *
      skip
      go_simp <;> (intros; first | (exfalso; omega) | rfl | omega)
    · intro vs p hI hp
      have h8 : (vs 8) = .int .i64 (K : Int) := hp 8 (by simp [Lpa1])
      have e64 : (Roll.putD Dpa1 vs [8] b0).eval (.tmp 64) = .int .i64 (K : Int) := (Roll.eval_new 8 rfl (by decide) (by decide) (by omega)).trans h8
      clear hp hlv hN
      unfold Roll.Goes
      simp only [Lpa1, List.getD_cons_zero, List.getD_cons_succ]
      generalize Roll.putD Dpa1 vs [8] b0 = a1 at *
      have f0 := FW.out
      refine Roll.goes_val (w' := p) (.int .i64 ((K : Int) + 1)) rfl ?_ ⟨hI, Below.refl _ _, rfl⟩
      (have ec : ∀ x, a1.eval (.const x) = x := fun _ => rfl); (have ef : ∀ x, a1.eval (.func x) = .func (.func x) #[] #[] := fun _ => rfl); generalize a1.eval = ρ at *
      clear h8
      go_simp <;> (intros; first | (exfalso; omega) | rfl | omega)
    · intro vs p hI hp
      have e11 : (Roll.putD Dpa1 vs [] b0).eval (.tmp 11) = .string ps := (Roll.eval_old rfl).trans (hlv.at 1 (11, .string ps) rfl)
      clear hp hlv hN
      unfold Roll.Goes
      simp only [Lpa1, List.getD_cons_zero, List.getD_cons_succ]
      generalize Roll.putD Dpa1 vs [] b0 = a1 at *
      refine Roll.goes_val (w' := p) (.string ps) rfl ?_ ⟨hI, Below.refl _ _, rfl⟩
      (have ec : ∀ x, a1.eval (.const x) = x := fun _ => rfl); (have ef : ∀ x, a1.eval (.func x) = .func (.func x) #[] #[] := fun _ => rfl); generalize a1.eval = ρ at *
      skip
      go_simp <;> (intros; first | (exfalso; omega) | rfl | omega)
    · intro vs p hI hp
      have h10 : (vs 10) = .string ps := hp 10 (by simp [Lpa1])
      have e66 : (Roll.putD Dpa1 vs [10] b0).eval (.tmp 66) = .string ps := (Roll.eval_new 10 rfl (by decide) (by decide) (by omega)).trans h10
      clear hp hlv hN
      unfold Roll.Goes
      simp only [Lpa1, List.getD_cons_zero, List.getD_cons_succ]
      generalize Roll.putD Dpa1 vs [10] b0 = a1 at *
      have f0 := FZI.out
      have f1 := FZ.out
      refine Roll.goes_val (w' := p) (.int .i64 10) rfl ?_ ⟨hI, Below.refl _ _, rfl⟩
      (have ec : ∀ x, a1.eval (.const x) = x := fun _ => rfl); (have ef : ∀ x, a1.eval (.func x) = .func (.func x) #[] #[] := fun _ => rfl); generalize a1.eval = ρ at *
      clear h10
      go_simp <;> (intros; first | (exfalso; omega) | rfl | omega)
    · intro vs p hI hp
      have h9 : (vs 9) = .int .i64 ((K : Int) + 1) := hp 9 (by simp [Lpa1])
      have h11 : (vs 11) = .int .i64 10 := hp 11 (by simp [Lpa1])
      have e65 : (Roll.putD Dpa1 vs [9, 11] b0).eval (.tmp 65) = .int .i64 ((K : Int) + 1) := (Roll.eval_new 9 rfl (by decide) (by decide) (by omega)).trans h9
      have e67 : (Roll.putD Dpa1 vs [9, 11] b0).eval (.tmp 67) = .int .i64 10 := (Roll.eval_new 11 rfl (by decide) (by decide) (by omega)).trans h11
      clear hp hlv hN
      unfold Roll.Goes
      simp only [Lpa1, List.getD_cons_zero, List.getD_cons_succ]
      generalize Roll.putD Dpa1 vs [9, 11] b0 = a1 at *
      have f0 := HMIN.out
      refine Roll.goes_val (w' := p) (.int .i64 (K2 : Int)) rfl ?_ ⟨hI, Below.refl _ _, rfl⟩
      (have ec : ∀ x, a1.eval (.const x) = x := fun _ => rfl); (have ef : ∀ x, a1.eval (.func x) = .func (.func x) #[] #[] := fun _ => rfl); generalize a1.eval = ρ at *
      clear h9 h11
      go_simp <;> (intros; first | (exfalso; omega) | rfl | omega)
    · intro vs p hI hp
      have h7 : (vs 7) = .string ps := hp 7 (by simp [Lpa1])
      have h12 : (vs 12) = .int .i64 (K2 : Int) := hp 12 (by simp [Lpa1])
      have e63 : (Roll.putD Dpa1 vs [7, 12] b0).eval (.tmp 63) = .string ps := (Roll.eval_new 7 rfl (by decide) (by decide) (by omega)).trans h7
      have e68 : (Roll.putD Dpa1 vs [7, 12] b0).eval (.tmp 68) = .int .i64 (K2 : Int) := (Roll.eval_new 12 rfl (by decide) (by decide) (by omega)).trans h12
      clear hp hlv hN
      unfold Roll.Goes
      simp only [Lpa1, List.getD_cons_zero, List.getD_cons_succ]
      generalize Roll.putD Dpa1 vs [7, 12] b0 = a1 at *
      have f0 := FK2.out
      have f1 := FZ.out
      refine Roll.goes_val (w' := p) (.string (ps.extract K2 10)) rfl ?_ ⟨hI, Below.refl _ _, rfl⟩
      (have ec : ∀ x, a1.eval (.const x) = x := fun _ => rfl); (have ef : ∀ x, a1.eval (.func x) = .func (.func x) #[] #[] := fun _ => rfl); generalize a1.eval = ρ at *
      clear h7 h12
      (first | (go_simp; done) | (go_simp <;> (intros; first | (exfalso; omega) | rfl | omega)) | (go_simp; rw [if_pos (by omega), if_pos (by omega)]) | (go_simp; rw [if_pos (by omega)]))
    · intro vs p hI hp
      have h6 : (vs 6) = .string (ps.extract 0 K ++ sc) := hp 6 (by simp [Lpa1])
      have h13 : (vs 13) = .string (ps.extract K2 10) := hp 13 (by simp [Lpa1])
      have e62 : (Roll.putD Dpa1 vs [6, 13] b0).eval (.tmp 62) = .string (ps.extract 0 K ++ sc) := (Roll.eval_new 6 rfl (by decide) (by decide) (by omega)).trans h6
      have e69 : (Roll.putD Dpa1 vs [6, 13] b0).eval (.tmp 69) = .string (ps.extract K2 10) := (Roll.eval_new 13 rfl (by decide) (by decide) (by omega)).trans h13
      clear hp hlv hN
      unfold Roll.Goes
      simp only [Lpa1, List.getD_cons_zero, List.getD_cons_succ]
      generalize Roll.putD Dpa1 vs [6, 13] b0 = a1 at *
      have f0 := FT.out
      have f1 := Z3.out
      have f2 := Z4.out
      have f3 := FK.out
      have f4 := FK2.out
      refine Roll.goes_val (w' := p) (.string tn) rfl ?_ ⟨hI, Below.refl _ _, rfl⟩
      (have ec : ∀ x, a1.eval (.const x) = x := fun _ => rfl); (have ef : ∀ x, a1.eval (.func x) = .func (.func x) #[] #[] := fun _ => rfl); generalize a1.eval = ρ at *
      clear h6 h13
      go_simp <;> (intros; first | (exfalso; omega) | rfl | omega)
    · intro vs p hI hp
      have h14 : (vs 14) = .string tn := hp 14 (by simp [Lpa1])
      have e70 : (Roll.putD Dpa1 vs [14] b0).eval (.tmp 70) = .string tn := (Roll.eval_new 14 rfl (by decide) (by decide) (by omega)).trans h14
      clear hp hlv hN
      unfold Roll.Goes
      simp only [Lpa1, List.getD_cons_zero, List.getD_cons_succ]
      generalize Roll.putD Dpa1 vs [14] b0 = a1 at *
      refine Roll.goes_val (w' := p) (.string tn) rfl ?_ ⟨hI, Below.refl _ _, rfl⟩
      (have ec : ∀ x, a1.eval (.const x) = x := fun _ => rfl); (have ef : ∀ x, a1.eval (.func x) = .func (.func x) #[] #[] := fun _ => rfl); generalize a1.eval = ρ at *
      clear h14
      go_simp <;> (intros; first | (exfalso; omega) | rfl | omega)
  · intro vs p hI hR
    have h0 : (vs 0) = .string ps := hR 0 (by omega)
    have h1 : (vs 1) = .int .i64 (K : Int) := hR 1 (by omega)
    have h2 : (vs 2) = .string (ps.extract 0 K) := hR 2 (by omega)
    have h3 : (vs 3) = .int .u8 c := hR 3 (by omega)
    have h4 : ∃ r, (vs 4) = .slice (some ⟨r, 0, none⟩) 1 1 ∧ p.heap[r]? = some (.cells #[.int .u8 c] 5 (0, 0)) := hR 4 (by omega)
    have h5 : (vs 5) = .string sc := hR 5 (by omega)
    have h6 : (vs 6) = .string (ps.extract 0 K ++ sc) := hR 6 (by omega)
    have h7 : (vs 7) = .string ps := hR 7 (by omega)
    have h8 : (vs 8) = .int .i64 (K : Int) := hR 8 (by omega)
    have h9 : (vs 9) = .int .i64 ((K : Int) + 1) := hR 9 (by omega)
    have h10 : (vs 10) = .string ps := hR 10 (by omega)
    have h11 : (vs 11) = .int .i64 10 := hR 11 (by omega)
    have h12 : (vs 12) = .int .i64 (K2 : Int) := hR 12 (by omega)
    have h13 : (vs 13) = .string (ps.extract K2 10) := hR 13 (by omega)
    have h14 : (vs 14) = .string tn := hR 14 (by omega)
    have h15 : (vs 15) = .string tn := hR 15 (by omega)
    clear hR
    simp only [List.range_succ, List.range_zero, List.nil_append, List.cons_append, Roll.putD, Act.put, List.getD_cons_zero, List.getD_cons_succ, List.setIfInBounds_toArray, List.set_cons_zero, List.set_cons_succ, List.drop_succ_cons, List.drop_zero, Dpa1]
    simp only [h0, h1, h2, h3, h5, h6, h7, h8, h9, h10, h11, h12, h13, h14, h15]
    clear h0 h1 h2 h3 h5 h6 h7 h8 h9 h10 h11 h12 h13 h14 h15
    have HI := Lib.hid hI
    have HTN := Tab_stepD HTP hI
    have HBN := Bel_stepD HBP hI
    clear hI HTP HBP
    have HTP := HTN
    have HBP := HBN
    clear HTN HBN
    go_upto_region 10 with fail
    obtain ⟨w, hw1⟩ : ∃ w, w = p.alloc (.cells #[.string raw, .string ps, .string tn] 9) := ⟨_, rfl⟩
    obtain ⟨gs, hgs⟩ : ∃ gs, gs = p.heap.size := ⟨_, rfl⟩
    have hrd : w.heap[gs]? = some (.cells #[.string raw, .string ps, .string tn] 9 (0, 0)) := by rw [hw1, hgs]; exact heap_new0
    have hb1 : Below p.heap.size p w := by rw [hw1]; exact (Below.refl _ p).alloc (Nat.le_refl _) _
    rw [← hw1]
    rw [← hgs]
    have HLS := Lib.hid (heap_lt hrd)
    have HVD : Hid (∀ i : Nat, i < 3 → ∃ a : ByteArray, w.cell? ⟨gs, i, none⟩ = some (.string a) ∧ a.size ≤ 9223372036854775807) := Lib.hid (fun i hi => by
      have h : i = 0 ∨ i = 1 ∨ i = 2 := by omega
      rcases h with rfl | rfl | rfl
      · exact ⟨_, cell_of_row w gs 0 _ _ _ hrd, HRAW.out⟩
      · exact ⟨_, cell_of_row w gs 1 _ _ _ hrd, by have := FZ.out; omega⟩
      · exact ⟨_, cell_of_row w gs 2 _ _ _ hrd, by have := HTNS.out; omega⟩)
    have HT0 := Lib.hid (HTP.out.below hb1)
    have HB1 := Bel_stepD HBP hb1
    clear hw1 hgs hrd hb1 HTP HBP
    go_wp2_with fail
    go_loopw [15] (fun ii wr => ∃ i : Nat, i ≤ 3 ∧ ii = .int .i64 (i : Int) ∧ Tabs wr ∧ Below w.heap.size w wr) (fun ii _ => (3 - intOf ii).toNat)
    case atStart => exact ⟨0, by omega, rfl, HT0.out, Below.refl _ _⟩
    case round =>
      obtain ⟨i, hi, rfl, ht, hb⟩ := hrel
      have HTP := Lib.hid ht
      have HBP := Lib.hid hb
      clear ht hb
      by_cases hi3 : i < 3
      · have hii : (i : Int) < 3 := by omega
        obtain ⟨a, ha, has⟩ := HVD.out i hi3
        have HCA := Lib.hid ha
        have ca : wr.cell? ⟨gs, i, none⟩ = some (.string a) := (HBP.out.cell (p := ⟨gs, i, none⟩) HLS.out).trans ha
        have j1 : IntKind.i64.wrap ((i : Int) + 1) = (i : Int) + 1 := i64_id _ (by omega) (by omega)
        obtain ⟨r, hr⟩ : ∃ r, r = prsN a.data.toList := ⟨_, rfl⟩
        obtain ⟨er, her⟩ : ∃ er, er = prsE a.data.toList := ⟨_, rfl⟩
        have HP1 : Hid (∀ p, Tabs p → Calls Tryd.prog 36 #[.string a] p fun e w' => e = .returned (.tuple #[.int .i64 r, .int .i64 er]) ∧ Below p.heap.size p w') := Lib.hid (fun p hp => by rw [hr, her]; exact parse_any a p has hp)
        have HP2 : Hid (∀ p, Tabs p → Calls Tryd.prog 37 #[.string a] p fun e w' => e = .returned (.tuple #[.int .i64 r, .int .i64 er]) ∧ Below p.heap.size p w') := Lib.hid (fun p hp => by rw [hr, her]; exact refParse_any a p hp)
        clear ha has hr her
        go_upto_region 14 with (go_at_call 36; refine (HP1.out _ HTP.out).mono ?_; rintro e v1 ⟨rfl, hb⟩; have HTN := Tab_stepD HTP hb; have HBN := Bel_stepD HBP hb; clear HTP HBP; have HTP := HTN; have HBP := HBN; clear HTN HBN; clear hb; clear ca)
        have ca : v1.cell? ⟨gs, i, none⟩ = some (.string a) := (HBP.out.cell (p := ⟨gs, i, none⟩) HLS.out).trans HCA.out
        go_upto_region 15 with (go_at_call 37; refine (HP2.out _ HTP.out).mono ?_; rintro e v2 ⟨rfl, hb⟩; have HTN := Tab_stepD HTP hb; have HBN := Bel_stepD HBP hb; clear HTP HBP; have HTP := HTN; have HBP := HBN; clear HTN HBN; clear hb; clear ca)
        go_wp2_with fail
        go_roundw
        case rel => exact ⟨i + 1, by omega, by go_num, HTP.out, HBP.out⟩
        case measure => simp only [intOf]; omega
      · obtain rfl : i = 3 := by omega
        go_wp2_with (go_at_call 19; refine (lives_any _ HTP.out).mono ?_; rintro e wl ⟨rfl, hb⟩; have HBL := Lib.hid ((HB1.out.trans (HBP.out.mono HB1.out.size)).trans (hb.mono (Nat.le_trans HB1.out.size HBP.out.size))); clear hb)
        go_ret
        exact ⟨rfl, HBL.out⟩

set_option maxRecDepth 100000 in
set_option maxHeartbeats 8000000 in
theorem parses_2 (raw : ByteArray) (n at_ how c a H : Int) (K K2 : Nat) (w0 : World) (hT : Tabs w0) (hraw : raw.size ≤ 9223372036854775807) (ps : ByteArray) (hz : ps.size = 10) (hc : 0 ≤ c ∧ c ≤ 255) (hK : K ≤ 10) (hK2 : K2 = min (K + 1) 10)
    (cD : ∀ u, Calls Tryd.prog 21 #[.int .i64 n] u fun e w' => e = .returned (.int .i64 a) ∧ u = w')
    (cP : ∀ u, Tabs u → Calls Tryd.prog 25 #[.int .i64 a] u fun e w' => e = .returned (.string ps) ∧ Below u.heap.size u w')
    (cA : ∀ u, Calls Tryd.prog 15 #[.int .i64 at_, .int .i64 11] u fun e w' => e = .returned (.int .i64 (K : Int)) ∧ u = w')
    (cH : ∀ u, Calls Tryd.prog 15 #[.int .i64 how, .int .i64 3] u fun e w' => e = .returned (.int .i64 2) ∧ u = w') :
    Calls Tryd.prog 8 #[.string raw, .int .i64 n, .int .i64 at_, .int .i64 how, .int .u8 c] w0 fun e w' => e = .returned (.bool true) ∧ Below w0.heap.size w0 w' := by
  obtain ⟨sc, hsc⟩ : ∃ sc : ByteArray, sc = ⟨#[UInt8.ofNat c.toNat]⟩ := ⟨_, rfl⟩
  have HSC : Hid ((⟨#[UInt8.ofNat c.toNat]⟩ : ByteArray) = sc) := Lib.hid hsc.symm
  have HC1 := Lib.hid hc
  have FZ := Lib.hid hz
  have FZI : Hid ((ps.size : Int) = 10) := Lib.hid (by omega)
  have FK : Hid ((K : Int) ≤ 10) := Lib.hid (by omega)
  have FK2 : Hid ((K2 : Int) ≤ 10) := Lib.hid (by omega)
  have FW : Hid (IntKind.i64.wrap ((K : Int) + 1) = (K : Int) + 1) := Lib.hid (i64_id _ (by omega) (by omega))
  have HMIN : Hid (min ((K : Int) + 1) 10 = (K2 : Int)) := Lib.hid (by omega)
  have Z1 : Hid ((ps.extract 0 K).size = K) := Lib.hid (by rw [ByteArray.size_extract]; omega)
  have Z2 : Hid ((ps.extract K 10).size = 10 - K) := Lib.hid (by rw [ByteArray.size_extract]; omega)
  have Z4 : Hid ((ps.extract K2 10).size = 10 - K2) := Lib.hid (by rw [ByteArray.size_extract]; omega)
  have ZC : Hid (sc.size = 1) := Lib.hid (by rw [hsc]; rfl)
  have Z3 : Hid ((ps.extract 0 K ++ sc).size = K + 1) := Lib.hid (by rw [ByteArray.size_append, Z1.out, ZC.out])
  obtain ⟨tn, htn⟩ : ∃ tn : ByteArray, tn = ps.extract 0 K ++ ps.extract K2 10 := ⟨_, rfl⟩
  have FT : Hid (ps.extract 0 K ++ ps.extract K2 10 = tn) := Lib.hid htn.symm
  have HTNS : Hid (tn.size ≤ 100) := Lib.hid (by rw [htn, ByteArray.size_append, Z1.out, Z4.out]; omega)
  have HRAW := Lib.hid hraw
  have HDH := Lib.hid cD
  have HPR := Lib.hid cP
  have HAT := Lib.hid cA
  have HHO := Lib.hid cH
  have HTP := Lib.hid hT
  have HBP : Hid (Below w0.heap.size w0 w0) := Lib.hid (Below.refl _ _)
  have e1 : (ps.size : Int) = 10 := FZI.out
  have e2 : (K : Int) ≤ 10 := FK.out
  have e3 : (K2 : Int) ≤ 10 := FK2.out
  have e4 := FW.out
  have e5 := HMIN.out
  have e6 := Z1.out
  have e7 := Z4.out
  have e8 : ps.size = 10 := FZ.out
  have e9 : (K2 : Int) ≤ (ps.size : Int) := by omega
  have e10 : (K : Int) ≤ (ps.size : Int) := by omega
  clear hT hraw hz hc hK hK2 cD cP cA cH hsc htn
  go_enter Tryd.func8, Tryd.ntmps8
  go_upto_region 2 with (first
    | (go_at_call 21; refine (HDH.out _).mono ?_; rintro e w1 ⟨rfl, rfl⟩)
    | (go_at_call 25; refine (HPR.out _ HTP.out).mono ?_; rintro e w1 ⟨rfl, hb⟩; have HTN := Tab_stepD HTP hb; have HBN := Bel_stepD HBP hb; clear HTP HBP; have HTP := HTN; have HBP := HBN; clear HTN HBN; clear hb))
  go_upto_region 3 with (go_at_call 15; refine (HAT.out _).mono ?_; rintro e w1 ⟨rfl, rfl⟩)
  go_quiet (fail)
  obtain ⟨w2, hw⟩ : ∃ w2, w2 = w1.drewN nq := ⟨_, rfl⟩
  have hb : Below w1.heap.size w1 w2 := by rw [hw]; exact below_drewN (Below.refl _ _) _
  have HTN := Tab_stepD HTP hb
  have HBN := Bel_stepD HBP hb
  clear HTP HBP
  have HTP := HTN
  have HBP := HBN
  rw [← hw]
  clear hw hb HTN HBN
  go_upto_block 0 with (go_at_call 15; refine (HHO.out _).mono ?_; rintro e w1 ⟨rfl, rfl⟩)
  have hft := FT.out
  rw [hft]
  go_upto_region 10 with fail
  obtain ⟨w, hw1⟩ : ∃ w, w = w2.alloc (.cells #[.string raw, .string ps, .string tn] 9) := ⟨_, rfl⟩
  obtain ⟨gs, hgs⟩ : ∃ gs, gs = w2.heap.size := ⟨_, rfl⟩
  have hrd : w.heap[gs]? = some (.cells #[.string raw, .string ps, .string tn] 9 (0, 0)) := by rw [hw1, hgs]; exact heap_new0
  have hb1 : Below w2.heap.size w2 w := by rw [hw1]; exact (Below.refl _ w2).alloc (Nat.le_refl _) _
  rw [← hw1]
  rw [← hgs]
  have HLS := Lib.hid (heap_lt hrd)
  have HVD : Hid (∀ i : Nat, i < 3 → ∃ a : ByteArray, w.cell? ⟨gs, i, none⟩ = some (.string a) ∧ a.size ≤ 9223372036854775807) := Lib.hid (fun i hi => by
    have h : i = 0 ∨ i = 1 ∨ i = 2 := by omega
    rcases h with rfl | rfl | rfl
    · exact ⟨_, cell_of_row w gs 0 _ _ _ hrd, HRAW.out⟩
    · exact ⟨_, cell_of_row w gs 1 _ _ _ hrd, by have := FZ.out; omega⟩
    · exact ⟨_, cell_of_row w gs 2 _ _ _ hrd, by have := HTNS.out; omega⟩)
  have HT0 := Lib.hid (HTP.out.below hb1)
  have HB1 := Bel_stepD HBP hb1
  clear hw1 hgs hrd hb1 HTP HBP
  go_wp2_with fail
  go_loopw [15] (fun ii wr => ∃ i : Nat, i ≤ 3 ∧ ii = .int .i64 (i : Int) ∧ Tabs wr ∧ Below w.heap.size w wr) (fun ii _ => (3 - intOf ii).toNat)
  case atStart => exact ⟨0, by omega, rfl, HT0.out, Below.refl _ _⟩
  case round =>
    obtain ⟨i, hi, rfl, ht, hb⟩ := hrel
    have HTP := Lib.hid ht
    have HBP := Lib.hid hb
    clear ht hb
    by_cases hi3 : i < 3
    · have hii : (i : Int) < 3 := by omega
      obtain ⟨a, ha, has⟩ := HVD.out i hi3
      have HCA := Lib.hid ha
      have ca : wr.cell? ⟨gs, i, none⟩ = some (.string a) := (HBP.out.cell (p := ⟨gs, i, none⟩) HLS.out).trans ha
      have j1 : IntKind.i64.wrap ((i : Int) + 1) = (i : Int) + 1 := i64_id _ (by omega) (by omega)
      obtain ⟨r, hr⟩ : ∃ r, r = prsN a.data.toList := ⟨_, rfl⟩
      obtain ⟨er, her⟩ : ∃ er, er = prsE a.data.toList := ⟨_, rfl⟩
      have HP1 : Hid (∀ p, Tabs p → Calls Tryd.prog 36 #[.string a] p fun e w' => e = .returned (.tuple #[.int .i64 r, .int .i64 er]) ∧ Below p.heap.size p w') := Lib.hid (fun p hp => by rw [hr, her]; exact parse_any a p has hp)
      have HP2 : Hid (∀ p, Tabs p → Calls Tryd.prog 37 #[.string a] p fun e w' => e = .returned (.tuple #[.int .i64 r, .int .i64 er]) ∧ Below p.heap.size p w') := Lib.hid (fun p hp => by rw [hr, her]; exact refParse_any a p hp)
      clear ha has hr her
      go_upto_region 14 with (go_at_call 36; refine (HP1.out _ HTP.out).mono ?_; rintro e v1 ⟨rfl, hb⟩; have HTN := Tab_stepD HTP hb; have HBN := Bel_stepD HBP hb; clear HTP HBP; have HTP := HTN; have HBP := HBN; clear HTN HBN; clear hb; clear ca)
      have ca : v1.cell? ⟨gs, i, none⟩ = some (.string a) := (HBP.out.cell (p := ⟨gs, i, none⟩) HLS.out).trans HCA.out
      go_upto_region 15 with (go_at_call 37; refine (HP2.out _ HTP.out).mono ?_; rintro e v2 ⟨rfl, hb⟩; have HTN := Tab_stepD HTP hb; have HBN := Bel_stepD HBP hb; clear HTP HBP; have HTP := HTN; have HBP := HBN; clear HTN HBN; clear hb; clear ca)
      go_wp2_with fail
      go_roundw
      case rel => exact ⟨i + 1, by omega, by go_num, HTP.out, HBP.out⟩
      case measure => simp only [intOf]; omega
    · obtain rfl : i = 3 := by omega
      go_wp2_with (go_at_call 19; refine (lives_any _ HTP.out).mono ?_; rintro e wl ⟨rfl, hb⟩; have HBL := Lib.hid ((HB1.out.trans (HBP.out.mono HB1.out.size)).trans (hb.mono (Nat.le_trans HB1.out.size HBP.out.size))); clear hb)
      go_ret
      exact ⟨rfl, HBL.out⟩
theorem parses_law (raw : ByteArray) (n at_ how c : Int) (w : World) (hT : Tabs w) (hraw : raw.size ≤ 9223372036854775807) (n1 : -9223372036854775808 ≤ n) (n2 : n ≤ 9223372036854775807) (t1 : -9223372036854775808 ≤ at_) (t2 : at_ ≤ 9223372036854775807) (h1 : -9223372036854775808 ≤ how) (h2 : how ≤ 9223372036854775807) (hc : 0 ≤ c ∧ c ≤ 255) :
    Calls Tryd.prog 8 #[.string raw, .int .i64 n, .int .i64 at_, .int .i64 how, .int .u8 c] w fun e w' => e = .returned (.bool true) ∧ Below w.heap.size w w' := by
  have bk := aroundD_bd at_ 11 (by omega)
  have bh := aroundD_bd how 3 (by omega)
  have cD := fun u => dayHelp_any n u n1 n2
  have cP := fun u hu => refPrint_any (dayOfN n) u hu
  have hz := printB_size (dayOfN_ok n)
  have cA : ∀ u, Calls Tryd.prog 15 #[.int .i64 at_, .int .i64 11] u fun e w' => e = .returned (.int .i64 (((aroundD at_ 11).toNat : Nat) : Int)) ∧ u = w' := fun u => by
    rw [show (((aroundD at_ 11).toNat : Nat) : Int) = aroundD at_ 11 by omega]
    exact aroundD_any at_ 11 u t1 t2 (by omega) (by omega)
  have hcs : aroundD how 3 = 0 ∨ aroundD how 3 = 1 ∨ aroundD how 3 = 2 := by omega
  rcases hcs with e | e | e
  · exact parses_0 raw n at_ how c _ 0 _ _ w hT hraw _ hz hc (by omega) rfl cD cP cA (fun u => by rw [← e]; exact aroundD_any how 3 u h1 h2 (by omega) (by omega))
  · exact parses_1 raw n at_ how c _ 0 _ _ w hT hraw _ hz hc (by omega) rfl cD cP cA (fun u => by rw [← e]; exact aroundD_any how 3 u h1 h2 (by omega) (by omega))
  · exact parses_2 raw n at_ how c _ 0 _ _ w hT hraw _ hz hc (by omega) rfl cD cP cA (fun u => by rw [← e]; exact aroundD_any how 3 u h1 h2 (by omega) (by omega))
end Go.Proofs.YtcoijmggfkjcjaaDoor

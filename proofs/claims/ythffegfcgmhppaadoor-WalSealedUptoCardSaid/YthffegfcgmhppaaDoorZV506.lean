/-
  Texts LH, Q0, Q3, Q4, Q5, G2, G4, H1, G3, LK, Q2, G6, G7, H4, one behind the other.
-/
import Derived.WalkKit
import Derived.WalkSpells
import Derived.WalkLawsBesides
import Derived.Laws.AppendOwn
import Derived.Laws.OwnMore
import Derived.Deep.AppendSrc
import Derived.Deep.MidRow
import Derived.Lib.Hide
import Derived.Deep.QuietTactic
import Derived.BigQuiet
import Derived.Laws.ResultCell
import GoSem.Claim
import Derived.Orders
import Derived.Tactics
import Derived.Maps.RangeRun
import Derived.Maps.Range
import Derived.Maps.OwnOps
import Derived.Maps.RangeWalk
import Derived.Deep.Cut
import Derived.Deep.RegionWith
import Derived.Deep.DrawnRows
import Derived.StillTailTactics
import Derived.Carry
import Derived.Laws.CopyOwn
import Derived.Lib.AppendZerosOnto
import Derived.Laws.BytesString
import Derived.Laws.AppendOwnNone
import Derived.ProofKit
import Derived.OpenShut
import Derived.Deep.Slices
import Derived.Deep.Fields
import Derived.JoinedCond
import Derived.Laws.ShiftsVarLaws
import Derived.Laws.BitsAllLaws
import Derived.Test.YthffegfcgmhppaaDoorRows
import Derived.Test.YthffegfcgmhppaaDoorZV505
namespace Go.Proofs.YthffegfcgmhppaaDoor
open Go.RowKit
set_option linter.unusedSimpArgs false
set_option linter.unusedVariables false
def Dop7 : List (Option Tmp) := [some 36, some 37, some 38, some 39, some 40, some 35, some 41, some 42, some 11, none, some 12]
def Lop7 : List (List Nat) := [[], [0], [], [2], [1, 3], [4], [5], [5], [], [8, 6], [7]]
/-- what may be done to a block that is being made -/
def SZ (rr ee : Nat) (p p2 : World) : Prop := (∀ x : Nat, p.heap[x]? = some (.cells #[.int .u8 0, .int .i64 0] 60 (0, 0)) → p2.heap[x]? = some (.cells #[.int .u8 0, .int .i64 0] 60 (0, 0)) ∨ p2.heap[x]? = some (.cells #[.int .u8 (rr : Int), .int .i64 (ee : Int)] 60 (0, 0))) ∧ ∀ x : Nat, p.heap[x]? = some (.cells #[.int .u8 (rr : Int), .int .i64 (ee : Int)] 60 (0, 0)) → p2.heap[x]? = some (.cells #[.int .u8 (rr : Int), .int .i64 (ee : Int)] 60 (0, 0))
theorem SZ.refl (rr ee : Nat) (p : World) : SZ rr ee p p := ⟨fun _ h => .inl h, fun _ h => h⟩
theorem SZ.of_below {rr ee : Nat} {p p2 : World} (h : Below p.heap.size p p2) : SZ rr ee p p2 := ⟨fun x hx => .inl ((Kept.of_below (fun _ => False) h).heap hx (fun h => h)), fun x hx => (Kept.of_below (fun _ => False) h).heap hx (fun h => h)⟩
theorem SZ.of_set {rr ee : Nat} {p : World} {x : Nat} {old : Array Value} (h : p.heap[x]? = some (.cells old 60 (0, 0))) : SZ rr ee p (p.setRow x #[.int .u8 (rr : Int), .int .i64 (ee : Int)]) := by
  have hk : Kept (fun y => y = x) p (p.setRow x #[.int .u8 (rr : Int), .int .i64 (ee : Int)]) := (Kept.refl (fun y => y = x) p).setRow (fun _ => rfl) _
  refine ⟨fun y hy => ?_, fun y hy => ?_⟩
  · by_cases e : y = x
    · rw [e]; exact .inr (setRow_heap _ _ _ _ _ _ h)
    · exact .inl (hk.heap hy e)
  · by_cases e : y = x
    · rw [e]; exact setRow_heap _ _ _ _ _ _ h
    · exact hk.heap hy e
section
variable {w0 w : World} {L : List Obj} {g j : Nat} {d : DM}
set_option maxRecDepth 100000 in
set_option maxHeartbeats 2000000 in
theorem open_bad (h : Lv w0 w L) (hj : L[j]? = some (diskO g d)) (f n : Int) (f1 : -9223372036854775808 ≤ f) (f2 : f ≤ 9223372036854775807) (n1 : -9223372036854775808 ≤ n) (n2 : n ≤ 9223372036854775807) (hv : validB d.S.length f n = false) :
    Calls Tryd.prog 15 #[.pointer (some ⟨g, 0, none⟩), .int .i64 f, .int .i64 n] w fun x w' => x = .returned (.tuple #[.pointer none, .int .i64 5]) ∧ w = w' := by
  have HC := Lib.hid (valid_lv h hj f n f1 f2 n1 n2)
  rw [hv] at HC
  clear h hj hv
  go_enter Tryd.func15, Tryd.ntmps15
  go_wp2_with (go_at_call 32; refine HC.out.mono ?_; rintro e w2 ⟨rfl, rfl⟩)
  go_ret2
  exact ⟨rfl, rfl⟩
set_option maxRecDepth 100000 in
set_option maxHeartbeats 2000000 in
theorem open_off (h : Lv w0 w L) (hj : L[j]? = some (diskO g d)) (f n : Nat) (hf : f ≤ 4096) (hn : n ≤ 4096) (hv : validB d.S.length f n = true) (ho : d.on = false) :
    Calls Tryd.prog 15 #[.pointer (some ⟨g, 0, none⟩), .int .i64 (f : Int), .int .i64 (n : Int)] w fun x w' => x = .returned (.tuple #[.pointer none, .int .i64 10]) ∧ Lv w0 w' L := by
  have hd1 : 4 ≤ (n : Int) ∧ 0 ≤ (f : Int) ∧ (n : Int) ≤ (d.S.length : Int) - (f : Int) := by unfold validB at hv; exact of_decide_eq_true hv
  have HC := Lib.hid (valid_lv h hj f n (by omega) (by omega) (by omega) (by omega))
  rw [hv] at HC
  obtain ⟨w1, hw1⟩ : ∃ w1, w1 = w.alloc (.cells #[.pointer (some ⟨g, 0, none⟩), .int .i64 (f : Int), .int .i64 (n : Int), .int .u8 0, .int .i64 0, .slice none 0 0, .int .i64 0, .int .i64 0] 62) := ⟨_, rfl⟩
  obtain ⟨gl, hgl⟩ : ∃ gl, gl = w.heap.size := ⟨_, rfl⟩
  have HL1 : Hid (Lv w0 w1 (logO gl g (LM.new f n) :: L)) := Lib.hid (by rw [hw1, hgl]; exact h.logNew g f n)
  have hbl := run_buildL g f n
  have HW1 := Lib.hid hw1
  have HGL := Lib.hid hgl
  have HJ := Lib.hid hj
  have HON := Lib.hid ho
  have HFN : Hid (f + n ≤ d.S.length ∧ 4 ≤ n ∧ d.S.length ≤ 4096) := Lib.hid ⟨by omega, by omega, (h.ok hj).2.1⟩
  have HRD0 : Hid (Calls Tryd.prog 33 #[.pointer (some ⟨gl, 0, none⟩), .int .i64 0, .int .i64 128] w1 fun x w' => x = .returned (.tuple #[.slice none 0 0, .int .i64 10]) ∧ Lv w0 w' (logO gl g (LM.new f n) :: L)) := Lib.hid (read_log_off HL1.out (ii := 0) (j := j + 1) rfl (by simpa using hj) 128 (by omega) (by omega) (show f < d.S.length by omega) ho)
  clear h hj hv ho hw1 hgl hd1
  go_enter Tryd.func15, Tryd.ntmps15
  go_upto_region 4 with (go_at_call 32; refine HC.out.mono ?_; rintro e w2 ⟨rfl, rfl⟩; clear HC)
  rw [← HW1.out, ← HGL.out]
  go_wp2_with (go_at_call 33; refine HRD0.out.mono ?_; rintro x q ⟨rfl, hl2⟩; have HL2 := Lib.hid hl2; clear hl2 HRD0)
  go_ret2
  exact ⟨rfl, HL2.out.tail⟩
set_option maxRecDepth 100000 in
set_option maxHeartbeats 4000000 in
theorem open_form (h : Lv w0 w L) (hj : L[j]? = some (diskO g d)) (f n : Nat) (hf : f ≤ 4096) (hn : n ≤ 4096) (hv : validB d.S.length f n = true) (ho : d.on = true) (hbad : newOk (lastB (d.S.getD f [])) (lastB (d.S.getD (f + 1) [])) = false ∨ n * 64 < endF (newS (lastB (d.S.getD f [])) (lastB (d.S.getD (f + 1) [])))) :
    Calls Tryd.prog 15 #[.pointer (some ⟨g, 0, none⟩), .int .i64 (f : Int), .int .i64 (n : Int)] w fun x w' => x = .returned (.tuple #[.pointer none, .int .i64 7]) ∧ Lv w0 w' L := by
  have hd1 : 4 ≤ (n : Int) ∧ 0 ≤ (f : Int) ∧ (n : Int) ≤ (d.S.length : Int) - (f : Int) := by unfold validB at hv; exact of_decide_eq_true hv
  have HC := Lib.hid (valid_lv h hj f n (by omega) (by omega) (by omega) (by omega))
  rw [hv] at HC
  obtain ⟨w1, hw1⟩ : ∃ w1, w1 = w.alloc (.cells #[.pointer (some ⟨g, 0, none⟩), .int .i64 (f : Int), .int .i64 (n : Int), .int .u8 0, .int .i64 0, .slice none 0 0, .int .i64 0, .int .i64 0] 62) := ⟨_, rfl⟩
  obtain ⟨gl, hgl⟩ : ∃ gl, gl = w.heap.size := ⟨_, rfl⟩
  have HL1 : Hid (Lv w0 w1 (logO gl g (LM.new f n) :: L)) := Lib.hid (by rw [hw1, hgl]; exact h.logNew g f n)
  have hbl := run_buildL g f n
  have HW1 := Lib.hid hw1
  have HGL := Lib.hid hgl
  have HJ := Lib.hid hj
  have HON := Lib.hid ho
  have HFN : Hid (f + n ≤ d.S.length ∧ 4 ≤ n ∧ d.S.length ≤ 4096) := Lib.hid ⟨by omega, by omega, (h.ok hj).2.1⟩
  have h64 := (h.ok hj).2.2.2
  have h6 : ∀ k, k < d.S.length → (lastB (d.S.getD k [])).length = 64 := fun k hk => by
    rw [List.getD_eq_getElem?_getD, List.getElem?_eq_getElem hk, Option.getD_some]
    have := h64 _ (List.getElem_mem hk)
    exact this.2 _ (lastB_mem this.1)
  obtain ⟨f0, hf0⟩ : ∃ f0, f0 = lastB (d.S.getD f []) := ⟨_, rfl⟩
  obtain ⟨s0, hs0⟩ : ∃ s0, s0 = lastB (d.S.getD (f + 1) []) := ⟨_, rfl⟩
  have hf0l : f0.length = 64 := by rw [hf0]; exact h6 _ (by omega)
  have hs0l : s0.length = 64 := by rw [hs0]; exact h6 _ (by omega)
  obtain ⟨hd, hhd⟩ : ∃ hd, hd = f0 ++ s0 := ⟨_, rfl⟩
  have hsec : (secsB d (f + 0) 2).take (128 - 0 * 64) = hd := by
    have e1 : secsB d (f + 0) 2 = hd := by rw [hhd, hf0, hs0]; simp [secsB, List.range_succ]
    rw [e1]
    exact List.take_of_length_le (by rw [hhd, List.length_append, hf0l, hs0l]; omega)
  rw [← hf0, ← hs0] at hbad
  obtain ⟨rr, hrr⟩ : ∃ rr, rr = bN (newS f0 s0) 0 := ⟨_, rfl⟩
  obtain ⟨ee, hee⟩ : ∃ ee, ee = endF (newS f0 s0) := ⟨_, rfl⟩
  obtain ⟨nk, hnk⟩ : ∃ nk, nk = newOk f0 s0 := ⟨_, rfl⟩
  have HRR := Lib.hid hrr.symm
  have HEE := Lib.hid hee.symm
  have HNK := Lib.hid hnk.symm
  have hrrb : rr < 256 := by rw [hrr]; exact bN_lt _ _
  have heeb : ee < 16777216 := by
    rw [hee]; unfold endF
    have e1 := bN_lt (newS f0 s0) 1
    have e2 := bN_lt (newS f0 s0) 2
    have e3 := bN_lt (newS f0 s0) 3
    omega
  have hwn : IntKind.i64.wrap ((n : Int) * 64) = (n : Int) * 64 := i64_id _ (by omega) (by omega)
  have HRD0 : Hid (Calls Tryd.prog 33 #[.pointer (some ⟨gl, 0, none⟩), .int .i64 0, .int .i64 128] w1 fun x w' => ∃ v, x = .returned (.tuple #[v, .int .i64 0]) ∧ Lv w0 w' (bytesO v hd :: logO gl g (LM.new f n) :: L)) := Lib.hid (by
    have := read_log HL1.out (ii := 0) (j := j + 1) rfl (by simpa using hj) 0 128 2 (by omega) (by omega) (by omega) (by omega) (show f + 0 + 2 ≤ d.S.length by omega) ho
    rw [show (secsB d ((LM.new f n).frm + 0) 2).take (128 - 0 * 64) = hd from hsec] at this
    exact this)
  have hhl : hd.length = 128 := by rw [hhd, List.length_append, hf0l, hs0l]
  have HHD : Hid (hd.take 64 = f0 ∧ hd.drop 64 = s0) := Lib.hid ⟨by rw [hhd, ← hf0l, List.take_left], by rw [hhd, ← hf0l, List.drop_left]⟩
  have HHL := Lib.hid hhl
  have HBAD : Hid (nk = false ∨ n * 64 < ee) := Lib.hid (by rw [hnk, hee]; exact hbad)
  clear h hj hv ho hw1 hgl hd1 h64 h6 hf0 hs0 hf0l hs0l hhd hsec hbad hrr hee hnk hhl
  go_enter Tryd.func15, Tryd.ntmps15
  go_upto_region 4 with (go_at_call 32; refine HC.out.mono ?_; rintro e w2 ⟨rfl, rfl⟩; clear HC)
  rw [← HW1.out, ← HGL.out]
  go_upto_region 5 with (go_at_call 33; refine HRD0.out.mono ?_; rintro x q ⟨v, rfl, hl2⟩; have HL2 := Lib.hid hl2; clear hl2 HRD0)
  obtain ⟨BB, ⟨ah, hc, e9, hbs⟩, -, -, -⟩ := HL2.out.get (i := 0) rfl
  rw [HHL.out] at e9 hbs
  subst e9
  obtain ⟨hb, ho, -, -, rfl, -⟩ := hbs.cells (by omega)
  have hc1 : 128 ≤ hc := hbs.2.2.1
  have hc2 : hc ≤ 9223372036854775807 := hbs.2.2.2.1
  have HB1 : Hid (Bs BB q (some ⟨hb, ho, none⟩) 64 hc f0) := Lib.hid (by have := hbs.upto 64 (by omega); rwa [HHD.out.1] at this)
  have HB2 : Hid (Bs BB q (some ⟨hb, ho + 64, none⟩) 64 (hc - 64) s0) := Lib.hid (by have := hbs.past 64 (by omega); rwa [HHD.out.2] at this)
  have HHC : Hid (¬ hc = 64 ∧ (64 : Int) ≤ (hc : Int)) := Lib.hid ⟨by omega, by omega⟩
  clear hbs
  go_wp2_with fail
  refine Roll.region_w 11 100 Dop7 Lop7 [(9, .slice (some ⟨hb, ho, none⟩) 128 hc)] 9 [true, true, true, true, false, true, true, true, false, false, true] (fun p => Below q.heap.size q p) (fun vv p => Below q.heap.size q p) (fun p => Below q.heap.size q p) (SZ rr ee) [fun vv p => (vv 0) = .slice (some ⟨hb, ho, none⟩) 128 hc, fun vv p => (vv 1) = .slice (some ⟨hb, ho, none⟩) 64 hc, fun vv p => (vv 2) = .slice (some ⟨hb, ho, none⟩) 128 hc, fun vv p => (vv 3) = .slice (some ⟨hb, ho + 64, none⟩) 64 (hc - 64), fun vv p => (vv 4) = .tuple #[.agg #[.int .u8 (rr : Int), .int .i64 (ee : Int)], .bool nk], fun vv p => (vv 5) = .tuple #[.agg #[.int .u8 (rr : Int), .int .i64 (ee : Int)], .bool nk], fun vv p => (vv 6) = .agg #[.int .u8 (rr : Int), .int .i64 (ee : Int)], fun vv p => (vv 7) = .bool nk, fun vv p => ∃ x, (vv 8) = .pointer (some ⟨x, 0, none⟩) ∧ q.heap.size ≤ x ∧ (p.heap[x]? = some (.cells #[.int .u8 0, .int .i64 0] 60 (0, 0)) ∨ p.heap[x]? = some (.cells #[.int .u8 (rr : Int), .int .i64 (ee : Int)] 60 (0, 0))), fun vv p => ∃ x, (vv 8) = .pointer (some ⟨x, 0, none⟩) ∧ q.heap.size ≤ x ∧ p.heap[x]? = some (.cells #[.int .u8 (rr : Int), .int .i64 (ee : Int)] 60 (0, 0)), fun vv p => (vv 10) = .bool nk] (by kernel_rfl) (by kernel_rfl) rfl ⟨rfl, trivial⟩ ((Below.refl _ _).drew) (by decide) (by kernel_rfl) (fun _ h => h) (fun _ _ h => h) (fun _ => SZ.refl _ _ _) ?_ ?_ ?_
  · exact ⟨fun _ _ _ _ h => h, fun _ _ _ _ h => h, fun _ _ _ _ h => h, fun _ _ _ _ h => h, fun _ _ _ _ h => h, fun _ _ _ _ h => h, fun _ _ _ _ h => h, fun _ _ _ _ h => h, fun _ _ _ hs h => by obtain ⟨x, e1, e2, e3⟩ := h; exact ⟨x, e1, e2, e3.elim (hs.1 x) (fun h => .inr (hs.2 x h))⟩, fun _ _ _ hs h => by obtain ⟨x, e1, e2, e3⟩ := h; exact ⟨x, e1, e2, hs.2 x e3⟩, fun _ _ _ _ h => h, trivial⟩
  · intro b0 hN hlv
    refine ⟨?_, ?_, ?_, ?_, ?_, ?_, ?_, ?_, ?_, ?_, ?_, trivial⟩
    · intro vs p hI0 hp
      have hI := Roll.inw_pure (by decide) rfl hI0
      clear hI0
      have e9 : (Roll.putD Dop7 vs [] b0).eval (.tmp 9) = .slice (some ⟨hb, ho, none⟩) 128 hc := (Roll.eval_old rfl).trans (hlv.at 0 (9, .slice (some ⟨hb, ho, none⟩) 128 hc) rfl)
      clear hp hlv hN
      unfold Roll.Goes
      simp only [Lop7, List.getD_cons_zero, List.getD_cons_succ]
      generalize Roll.putD Dop7 vs [] b0 = a1 at *
      refine Roll.goes_val (w' := p) (.slice (some ⟨hb, ho, none⟩) 128 hc) rfl ?_ ⟨(Roll.outw_pure (by decide) rfl), rfl⟩
      (have ec : ∀ x, a1.eval (.const x) = x := fun _ => rfl); (have ef : ∀ x, a1.eval (.func x) = .func (.func x) #[] #[] := fun _ => rfl); generalize a1.eval = ρ at *
      skip
      go_simp <;> (intros; first | (exfalso; omega) | rfl)
    · intro vs p hI0 hp
      have hI := Roll.inw_pure (by decide) rfl hI0
      clear hI0
      have h0 : (vs 0) = .slice (some ⟨hb, ho, none⟩) 128 hc := hp 0 (by simp [Lop7])
      have e36 : (Roll.putD Dop7 vs [0] b0).eval (.tmp 36) = .slice (some ⟨hb, ho, none⟩) 128 hc := (Roll.eval_new 0 rfl (by decide) (by decide) (by omega)).trans h0
      clear hp hlv hN
      unfold Roll.Goes
      simp only [Lop7, List.getD_cons_zero, List.getD_cons_succ]
      generalize Roll.putD Dop7 vs [0] b0 = a1 at *
      have hh := HHC.out.1
      refine Roll.goes_val (w' := p) (.slice (some ⟨hb, ho, none⟩) 64 hc) rfl ?_ ⟨(Roll.outw_pure (by decide) rfl), rfl⟩
      (have ec : ∀ x, a1.eval (.const x) = x := fun _ => rfl); (have ef : ∀ x, a1.eval (.func x) = .func (.func x) #[] #[] := fun _ => rfl); generalize a1.eval = ρ at *
      clear h0
      go_simp <;> (intros; first | (exfalso; omega) | rfl)
    · intro vs p hI0 hp
      have hI := Roll.inw_pure (by decide) rfl hI0
      clear hI0
      have e9 : (Roll.putD Dop7 vs [] b0).eval (.tmp 9) = .slice (some ⟨hb, ho, none⟩) 128 hc := (Roll.eval_old rfl).trans (hlv.at 0 (9, .slice (some ⟨hb, ho, none⟩) 128 hc) rfl)
      clear hp hlv hN
      unfold Roll.Goes
      simp only [Lop7, List.getD_cons_zero, List.getD_cons_succ]
      generalize Roll.putD Dop7 vs [] b0 = a1 at *
      refine Roll.goes_val (w' := p) (.slice (some ⟨hb, ho, none⟩) 128 hc) rfl ?_ ⟨(Roll.outw_pure (by decide) rfl), rfl⟩
      (have ec : ∀ x, a1.eval (.const x) = x := fun _ => rfl); (have ef : ∀ x, a1.eval (.func x) = .func (.func x) #[] #[] := fun _ => rfl); generalize a1.eval = ρ at *
      skip
      go_simp <;> (intros; first | (exfalso; omega) | rfl)
    · intro vs p hI0 hp
      have hI := Roll.inw_pure (by decide) rfl hI0
      clear hI0
      have h2 : (vs 2) = .slice (some ⟨hb, ho, none⟩) 128 hc := hp 2 (by simp [Lop7])
      have e38 : (Roll.putD Dop7 vs [2] b0).eval (.tmp 38) = .slice (some ⟨hb, ho, none⟩) 128 hc := (Roll.eval_new 2 rfl (by decide) (by decide) (by omega)).trans h2
      clear hp hlv hN
      unfold Roll.Goes
      simp only [Lop7, List.getD_cons_zero, List.getD_cons_succ]
      generalize Roll.putD Dop7 vs [2] b0 = a1 at *
      have hh := HHC.out.1
      have hh2 := HHC.out.2
      refine Roll.goes_val (w' := p) (.slice (some ⟨hb, ho + 64, none⟩) 64 (hc - 64)) rfl ?_ ⟨(Roll.outw_pure (by decide) rfl), rfl⟩
      (have ec : ∀ x, a1.eval (.const x) = x := fun _ => rfl); (have ef : ∀ x, a1.eval (.func x) = .func (.func x) #[] #[] := fun _ => rfl); generalize a1.eval = ρ at *
      clear h2
      go_simp <;> (intros; first | (exfalso; omega) | rfl)
    · intro vs p hI0 hp
      have hI := Roll.inw_pre (by decide) rfl hI0
      clear hI0
      have h1 : (vs 1) = .slice (some ⟨hb, ho, none⟩) 64 hc := hp 1 (by simp [Lop7])
      have h3 : (vs 3) = .slice (some ⟨hb, ho + 64, none⟩) 64 (hc - 64) := hp 3 (by simp [Lop7])
      have e37 : (Roll.putD Dop7 vs [1, 3] b0).eval (.tmp 37) = .slice (some ⟨hb, ho, none⟩) 64 hc := (Roll.eval_new 1 rfl (by decide) (by decide) (by omega)).trans h1
      have e39 : (Roll.putD Dop7 vs [1, 3] b0).eval (.tmp 39) = .slice (some ⟨hb, ho + 64, none⟩) 64 (hc - 64) := (Roll.eval_new 3 rfl (by decide) (by decide) (by omega)).trans h3
      clear hp hlv hN
      unfold Roll.Goes
      simp only [Lop7, List.getD_cons_zero, List.getD_cons_succ]
      generalize Roll.putD Dop7 vs [1, 3] b0 = a1 at *
      refine Roll.goes_call 34 #[.slice (some ⟨hb, ho, none⟩) 64 hc, .slice (some ⟨hb, ho + 64, none⟩) 64 (hc - 64)] p rfl (by have ec : ∀ x, a1.eval (.const x) = x := fun _ => rfl; have ef : ∀ x, a1.eval (.func x) = .func (.func x) #[] #[] := fun _ => rfl; generalize a1.eval = ρ at *; go_simp) ?_
      refine (newest_any _ _ _ _ _ _ f0 s0 p (HB1.out.kept (Kept.of_below (fun _ => False) hI) (fun _ _ _ h => h)) (HB2.out.kept (Kept.of_below (fun _ => False) hI) (fun _ _ _ h => h))).mono ?_
      rintro y p2 ⟨rfl, hbl⟩
      exact ⟨_, rfl, Roll.outw_pre (by decide) rfl (hI.trans (hbl.mono hI.size)) (SZ.of_below hbl), by show Value.tuple _ = Value.tuple _; rw [HRR.out, HEE.out, HNK.out]⟩
    · intro vs p hI0 hp
      have hI := Roll.inw_pure (by decide) rfl hI0
      clear hI0
      have h4 : (vs 4) = .tuple #[.agg #[.int .u8 (rr : Int), .int .i64 (ee : Int)], .bool nk] := hp 4 (by simp [Lop7])
      have e40 : (Roll.putD Dop7 vs [4] b0).eval (.tmp 40) = .tuple #[.agg #[.int .u8 (rr : Int), .int .i64 (ee : Int)], .bool nk] := (Roll.eval_new 4 rfl (by decide) (by decide) (by omega)).trans h4
      clear hp hlv hN
      unfold Roll.Goes
      simp only [Lop7, List.getD_cons_zero, List.getD_cons_succ]
      generalize Roll.putD Dop7 vs [4] b0 = a1 at *
      refine Roll.goes_val (w' := p) (.tuple #[.agg #[.int .u8 (rr : Int), .int .i64 (ee : Int)], .bool nk]) rfl ?_ ⟨(Roll.outw_pure (by decide) rfl), rfl⟩
      (have ec : ∀ x, a1.eval (.const x) = x := fun _ => rfl); (have ef : ∀ x, a1.eval (.func x) = .func (.func x) #[] #[] := fun _ => rfl); generalize a1.eval = ρ at *
      clear h4
      go_simp <;> (intros; first | (exfalso; omega) | rfl)
    · intro vs p hI0 hp
      have hI := Roll.inw_pure (by decide) rfl hI0
      clear hI0
      have h5 : (vs 5) = .tuple #[.agg #[.int .u8 (rr : Int), .int .i64 (ee : Int)], .bool nk] := hp 5 (by simp [Lop7])
      have e35 : (Roll.putD Dop7 vs [5] b0).eval (.tmp 35) = .tuple #[.agg #[.int .u8 (rr : Int), .int .i64 (ee : Int)], .bool nk] := (Roll.eval_new 5 rfl (by decide) (by decide) (by omega)).trans h5
      clear hp hlv hN
      unfold Roll.Goes
      simp only [Lop7, List.getD_cons_zero, List.getD_cons_succ]
      generalize Roll.putD Dop7 vs [5] b0 = a1 at *
      refine Roll.goes_val (w' := p) (.agg #[.int .u8 (rr : Int), .int .i64 (ee : Int)]) rfl ?_ ⟨(Roll.outw_pure (by decide) rfl), rfl⟩
      (have ec : ∀ x, a1.eval (.const x) = x := fun _ => rfl); (have ef : ∀ x, a1.eval (.func x) = .func (.func x) #[] #[] := fun _ => rfl); generalize a1.eval = ρ at *
      clear h5
      go_simp <;> (intros; first | (exfalso; omega) | rfl)
    · intro vs p hI0 hp
      have hI := Roll.inw_pure (by decide) rfl hI0
      clear hI0
      have h5 : (vs 5) = .tuple #[.agg #[.int .u8 (rr : Int), .int .i64 (ee : Int)], .bool nk] := hp 5 (by simp [Lop7])
      have e35 : (Roll.putD Dop7 vs [5] b0).eval (.tmp 35) = .tuple #[.agg #[.int .u8 (rr : Int), .int .i64 (ee : Int)], .bool nk] := (Roll.eval_new 5 rfl (by decide) (by decide) (by omega)).trans h5
      clear hp hlv hN
      unfold Roll.Goes
      simp only [Lop7, List.getD_cons_zero, List.getD_cons_succ]
      generalize Roll.putD Dop7 vs [5] b0 = a1 at *
      refine Roll.goes_val (w' := p) (.bool nk) rfl ?_ ⟨(Roll.outw_pure (by decide) rfl), rfl⟩
      (have ec : ∀ x, a1.eval (.const x) = x := fun _ => rfl); (have ef : ∀ x, a1.eval (.func x) = .func (.func x) #[] #[] := fun _ => rfl); generalize a1.eval = ρ at *
      clear h5
      go_simp <;> (intros; first | (exfalso; omega) | rfl)
    · intro vs p hI0 hp
      have hI := Roll.inw_pre (by decide) rfl hI0
      clear hI0
      clear hp hlv hN
      unfold Roll.Goes
      simp only [Lop7, List.getD_cons_zero, List.getD_cons_succ]
      generalize Roll.putD Dop7 vs [] b0 = a1 at *
      have hal : Below p.heap.size p (p.alloc (.cells #[.int .u8 0, .int .i64 0] 60)) := (Below.refl _ _).alloc (Nat.le_refl _) _
      refine Roll.goes_val (w' := p.alloc (.cells #[.int .u8 0, .int .i64 0] 60)) (.pointer (some ⟨p.heap.size, 0, none⟩)) rfl (by have ec : ∀ x, a1.eval (.const x) = x := fun _ => rfl; have ef : ∀ x, a1.eval (.func x) = .func (.func x) #[] #[] := fun _ => rfl; have hbs := run_allocS; generalize a1.eval = ρ at *; go_simp <;> (intros; first | (exfalso; omega) | rfl)) ⟨Roll.outw_pre (by decide) rfl (hI.trans (hal.mono hI.size)) (SZ.of_below hal), p.heap.size, rfl, hI.size, .inl (heap_new rfl)⟩
    · intro vs p hI0 hp
      have hI := Roll.inw_k0 rfl hI0
      clear hI0
      have h8 : ∃ x, (vs 8) = .pointer (some ⟨x, 0, none⟩) ∧ q.heap.size ≤ x ∧ (p.heap[x]? = some (.cells #[.int .u8 0, .int .i64 0] 60 (0, 0)) ∨ p.heap[x]? = some (.cells #[.int .u8 (rr : Int), .int .i64 (ee : Int)] 60 (0, 0))) := hp 8 (by simp [Lop7])
      have h6 : (vs 6) = .agg #[.int .u8 (rr : Int), .int .i64 (ee : Int)] := hp 6 (by simp [Lop7])
      have e11 : (Roll.putD Dop7 vs [8, 6] b0).eval (.tmp 11) = vs 8 := (Roll.eval_new 8 rfl (by decide) (by decide) (by omega))
      have e41 : (Roll.putD Dop7 vs [8, 6] b0).eval (.tmp 41) = .agg #[.int .u8 (rr : Int), .int .i64 (ee : Int)] := (Roll.eval_new 6 rfl (by decide) (by decide) (by omega)).trans h6
      clear hp hlv hN
      unfold Roll.Goes
      simp only [Lop7, List.getD_cons_zero, List.getD_cons_succ]
      generalize Roll.putD Dop7 vs [8, 6] b0 = a1 at *
      obtain ⟨x, hv8, hx, hz⟩ := h8
      rw [hv8] at e11
      rcases hz with hz | hz <;>
        (refine Roll.goes_store_row rfl 60 (.tmp 11) (.tmp 41) rfl x _ e11 e41 60 _ hz (sizeS _ _) rfl (oneS _ _) ?_
         exact ⟨Roll.outw_k0 rfl (below_setRow hI hx _) (SZ.of_set hz), x, hv8, hx, setRow_heap _ _ _ _ _ _ hz⟩)
    · intro vs p hI0 hp
      have hI := Roll.inw_pure (by decide) rfl hI0
      clear hI0
      have h7 : (vs 7) = .bool nk := hp 7 (by simp [Lop7])
      have e42 : (Roll.putD Dop7 vs [7] b0).eval (.tmp 42) = .bool nk := (Roll.eval_new 7 rfl (by decide) (by decide) (by omega)).trans h7
      clear hp hlv hN
      unfold Roll.Goes
      simp only [Lop7, List.getD_cons_zero, List.getD_cons_succ]
      generalize Roll.putD Dop7 vs [7] b0 = a1 at *
      refine Roll.goes_val (w' := p) (.bool nk) rfl ?_ ⟨(Roll.outw_pure (by decide) rfl), rfl⟩
      (have ec : ∀ x, a1.eval (.const x) = x := fun _ => rfl); (have ef : ∀ x, a1.eval (.func x) = .func (.func x) #[] #[] := fun _ => rfl); generalize a1.eval = ρ at *
      clear h7
      go_simp <;> (intros; first | (exfalso; omega) | rfl)
  · intro vs p hI hR
    have h0 : (vs 0) = .slice (some ⟨hb, ho, none⟩) 128 hc := hR 0 (by omega)
    have h1 : (vs 1) = .slice (some ⟨hb, ho, none⟩) 64 hc := hR 1 (by omega)
    have h2 : (vs 2) = .slice (some ⟨hb, ho, none⟩) 128 hc := hR 2 (by omega)
    have h3 : (vs 3) = .slice (some ⟨hb, ho + 64, none⟩) 64 (hc - 64) := hR 3 (by omega)
    have h4 : (vs 4) = .tuple #[.agg #[.int .u8 (rr : Int), .int .i64 (ee : Int)], .bool nk] := hR 4 (by omega)
    have h5 : (vs 5) = .tuple #[.agg #[.int .u8 (rr : Int), .int .i64 (ee : Int)], .bool nk] := hR 5 (by omega)
    have h6 : (vs 6) = .agg #[.int .u8 (rr : Int), .int .i64 (ee : Int)] := hR 6 (by omega)
    have h7 : (vs 7) = .bool nk := hR 7 (by omega)
    have h8 : ∃ x, (vs 8) = .pointer (some ⟨x, 0, none⟩) ∧ q.heap.size ≤ x ∧ (p.heap[x]? = some (.cells #[.int .u8 0, .int .i64 0] 60 (0, 0)) ∨ p.heap[x]? = some (.cells #[.int .u8 (rr : Int), .int .i64 (ee : Int)] 60 (0, 0))) := hR 8 (by omega)
    have h9 : ∃ x, (vs 8) = .pointer (some ⟨x, 0, none⟩) ∧ q.heap.size ≤ x ∧ p.heap[x]? = some (.cells #[.int .u8 (rr : Int), .int .i64 (ee : Int)] 60 (0, 0)) := hR 9 (by omega)
    have h10 : (vs 10) = .bool nk := hR 10 (by omega)
    clear hR
    simp only [List.range_succ, List.range_zero, List.nil_append, List.cons_append, Roll.putD, Act.put, List.getD_cons_zero, List.getD_cons_succ, List.setIfInBounds_toArray, List.set_cons_zero, List.set_cons_succ, List.drop_succ_cons, List.drop_zero, Dop7]
    simp only [h0, h1, h2, h3, h4, h5, h6, h7, h10]
    clear h0 h1 h2 h3 h4 h5 h6 h7 h10
    clear h8
    generalize vs 8 = v8 at *
    obtain ⟨g11, rfl, hg11, hz11⟩ := h9
    have HBp := Lib.hid hI
    have HL3 := Lib.hid (HL2.out.cons hI (o := stateO g11 rr ee) (B := fun x => x = g11) ⟨hz11, rfl⟩ (fun x hx => by subst hx; exact ⟨hg11, (Array.getElem?_eq_some_iff.1 hz11).1⟩))
    have HZ11 := Lib.hid hz11
    have HG11 := Lib.hid hg11
    have c111 : p.cell? ⟨g11, 1, none⟩ = some (.int .i64 (ee : Int)) := by rw [cell_of_row p g11 1 _ _ _ hz11]; rfl
    clear hI hz11 hg11 HL2
    rcases HBAD.out with hb | hb
    · subst hb
      go_wp2_with fail
      go_ret2
      exact ⟨rfl, HL3.out.tail.tail.tail⟩
    · cases nk with
      | false =>
        go_wp2_with fail
        go_ret2
        exact ⟨rfl, HL3.out.tail.tail.tail⟩
      | true =>
        have hb1 : ((n * 64 : Nat) : Int) < (ee : Int) := by omega
        have hb2 : (n : Int) * 64 < (ee : Int) := by omega
        go_wp2_with fail
        go_ret2
        exact ⟨rfl, HL3.out.tail.tail.tail⟩
set_option maxRecDepth 100000 in
set_option maxHeartbeats 8000000 in
theorem open_ok (h : Lv w0 w L) (hj : L[j]? = some (diskO g d)) (f n : Nat) (hf : f ≤ 4096) (hn : n ≤ 4096) (hv : validB d.S.length f n = true) (ho : d.on = true) (rs : List (List UInt8)) (cnt : Nat) (hgood : newOk (lastB (d.S.getD f [])) (lastB (d.S.getD (f + 1) [])) = true ∧ endF (newS (lastB (d.S.getD f [])) (lastB (d.S.getD (f + 1) []))) = 128 + lenB rs) (hen : 128 + lenB rs ≤ n * 64) (hcn : lenB rs ≤ cnt * 64 ∧ cnt * 64 < lenB rs + 64) (hjb : (secsB d (f + 2) cnt).take (lenB rs) = joinB rs) (h64 : ∀ r ∈ rs, r.length < 65536) (htk : takR rs ≤ 1000000000) (hrlb : rs.length ≤ 1000000) :
    Calls Tryd.prog 15 #[.pointer (some ⟨g, 0, none⟩), .int .i64 (f : Int), .int .i64 (n : Int)] w fun x w' => ∃ gl, x = .returned (.tuple #[.pointer (some ⟨gl, 0, none⟩), .int .i64 0]) ∧ Lv w0 w' (logO gl g ⟨f, n, bN (newS (lastB (d.S.getD f [])) (lastB (d.S.getD (f + 1) []))) 0, 128 + lenB rs, rs, rs.length, takR rs⟩ :: L) := by
  have H64 := Lib.hid h64
  clear h64
  have hd1 : 4 ≤ (n : Int) ∧ 0 ≤ (f : Int) ∧ (n : Int) ≤ (d.S.length : Int) - (f : Int) := by unfold validB at hv; exact of_decide_eq_true hv
  have HC := Lib.hid (valid_lv h hj f n (by omega) (by omega) (by omega) (by omega))
  rw [hv] at HC
  obtain ⟨w1, hw1⟩ : ∃ w1, w1 = w.alloc (.cells #[.pointer (some ⟨g, 0, none⟩), .int .i64 (f : Int), .int .i64 (n : Int), .int .u8 0, .int .i64 0, .slice none 0 0, .int .i64 0, .int .i64 0] 62) := ⟨_, rfl⟩
  obtain ⟨gl, hgl⟩ : ∃ gl, gl = w.heap.size := ⟨_, rfl⟩
  have HL1 : Hid (Lv w0 w1 (logO gl g (LM.new f n) :: L)) := Lib.hid (by rw [hw1, hgl]; exact h.logNew g f n)
  have hbl := run_buildL g f n
  have HW1 := Lib.hid hw1
  have HGL := Lib.hid hgl
  have HJ := Lib.hid hj
  have HON := Lib.hid ho
  have HFN : Hid (f + n ≤ d.S.length ∧ 4 ≤ n ∧ d.S.length ≤ 4096) := Lib.hid ⟨by omega, by omega, (h.ok hj).2.1⟩
  have h64 := (h.ok hj).2.2.2
  have h6 : ∀ k, k < d.S.length → (lastB (d.S.getD k [])).length = 64 := fun k hk => by
    rw [List.getD_eq_getElem?_getD, List.getElem?_eq_getElem hk, Option.getD_some]
    have := h64 _ (List.getElem_mem hk)
    exact this.2 _ (lastB_mem this.1)
  obtain ⟨f0, hf0⟩ : ∃ f0, f0 = lastB (d.S.getD f []) := ⟨_, rfl⟩
  obtain ⟨s0, hs0⟩ : ∃ s0, s0 = lastB (d.S.getD (f + 1) []) := ⟨_, rfl⟩
  have hf0l : f0.length = 64 := by rw [hf0]; exact h6 _ (by omega)
  have hs0l : s0.length = 64 := by rw [hs0]; exact h6 _ (by omega)
  obtain ⟨hd, hhd⟩ : ∃ hd, hd = f0 ++ s0 := ⟨_, rfl⟩
  have hsec : (secsB d (f + 0) 2).take (128 - 0 * 64) = hd := by
    have e1 : secsB d (f + 0) 2 = hd := by rw [hhd, hf0, hs0]; simp [secsB, List.range_succ]
    rw [e1]
    exact List.take_of_length_le (by rw [hhd, List.length_append, hf0l, hs0l]; omega)
  rw [← hf0, ← hs0] at hgood ⊢
  obtain ⟨rr, hrr⟩ : ∃ rr, rr = bN (newS f0 s0) 0 := ⟨_, rfl⟩
  obtain ⟨ee, hee⟩ : ∃ ee, ee = endF (newS f0 s0) := ⟨_, rfl⟩
  obtain ⟨nk, hnk⟩ : ∃ nk, nk = newOk f0 s0 := ⟨_, rfl⟩
  have HRR := Lib.hid hrr.symm
  have HEE := Lib.hid hee.symm
  have HNK := Lib.hid hnk.symm
  have hrrb : rr < 256 := by rw [hrr]; exact bN_lt _ _
  have heeb : ee < 16777216 := by
    rw [hee]; unfold endF
    have e1 := bN_lt (newS f0 s0) 1
    have e2 := bN_lt (newS f0 s0) 2
    have e3 := bN_lt (newS f0 s0) 3
    omega
  have hwn : IntKind.i64.wrap ((n : Int) * 64) = (n : Int) * 64 := i64_id _ (by omega) (by omega)
  have HRD0 : Hid (Calls Tryd.prog 33 #[.pointer (some ⟨gl, 0, none⟩), .int .i64 0, .int .i64 128] w1 fun x w' => ∃ v, x = .returned (.tuple #[v, .int .i64 0]) ∧ Lv w0 w' (bytesO v hd :: logO gl g (LM.new f n) :: L)) := Lib.hid (by
    have := read_log HL1.out (ii := 0) (j := j + 1) rfl (by simpa using hj) 0 128 2 (by omega) (by omega) (by omega) (by omega) (show f + 0 + 2 ≤ d.S.length by omega) ho
    rw [show (secsB d ((LM.new f n).frm + 0) 2).take (128 - 0 * 64) = hd from hsec] at this
    exact this)
  have hhl : hd.length = 128 := by rw [hhd, List.length_append, hf0l, hs0l]
  have HHD : Hid (hd.take 64 = f0 ∧ hd.drop 64 = s0) := Lib.hid ⟨by rw [hhd, ← hf0l, List.take_left], by rw [hhd, ← hf0l, List.drop_left]⟩
  have HHL := Lib.hid hhl
  rw [← hrr]
  have hk1 : nk = true := by rw [hnk]; exact hgood.1
  have hee2 : ee = 128 + lenB rs := by rw [hee]; exact hgood.2
  rw [← hee2]
  have HEN : Hid (128 ≤ ee ∧ ee ≤ n * 64) := Lib.hid (by omega)
  have HCNT : Hid (ee - 128 ≤ cnt * 64 ∧ cnt * 64 < ee - 128 + 64) := Lib.hid (by omega)
  have HJB : Hid ((secsB d (f + 2) cnt).take (ee - 2 * 64) = joinB rs) := Lib.hid (by rw [show ee - 2 * 64 = lenB rs by omega]; exact hjb)
  have HLB : Hid (lenB rs ≤ 1000000) := Lib.hid (by omega)
  have HTAK := Lib.hid htk
  have HRLB := Lib.hid hrlb
  clear h hj hv ho hw1 hgl hd1 h64 h6 hf0 hs0 hf0l hs0l hhd hsec hgood hrr hee hnk hhl hee2 hen hcn hjb htk hrlb
  subst hk1
  go_enter Tryd.func15, Tryd.ntmps15
  go_upto_region 4 with (go_at_call 32; refine HC.out.mono ?_; rintro e w2 ⟨rfl, rfl⟩; clear HC)
  rw [← HW1.out, ← HGL.out]
  go_upto_region 5 with (go_at_call 33; refine HRD0.out.mono ?_; rintro x q ⟨v, rfl, hl2⟩; have HL2 := Lib.hid hl2; clear hl2 HRD0)
  obtain ⟨BB, ⟨ah, hc, e9, hbs⟩, -, -, -⟩ := HL2.out.get (i := 0) rfl
  rw [HHL.out] at e9 hbs
  subst e9
  obtain ⟨hb, ho, -, -, rfl, -⟩ := hbs.cells (by omega)
  have hc1 : 128 ≤ hc := hbs.2.2.1
  have hc2 : hc ≤ 9223372036854775807 := hbs.2.2.2.1
  have HB1 : Hid (Bs BB q (some ⟨hb, ho, none⟩) 64 hc f0) := Lib.hid (by have := hbs.upto 64 (by omega); rwa [HHD.out.1] at this)
  have HB2 : Hid (Bs BB q (some ⟨hb, ho + 64, none⟩) 64 (hc - 64) s0) := Lib.hid (by have := hbs.past 64 (by omega); rwa [HHD.out.2] at this)
  have HHC : Hid (¬ hc = 64 ∧ (64 : Int) ≤ (hc : Int)) := Lib.hid ⟨by omega, by omega⟩
  clear hbs
  go_wp2_with fail
  refine Roll.region_w 11 100 Dop7 Lop7 [(9, .slice (some ⟨hb, ho, none⟩) 128 hc)] 9 [true, true, true, true, false, true, true, true, false, false, true] (fun p => Below q.heap.size q p) (fun vv p => Below q.heap.size q p) (fun p => Below q.heap.size q p) (SZ rr ee) [fun vv p => (vv 0) = .slice (some ⟨hb, ho, none⟩) 128 hc, fun vv p => (vv 1) = .slice (some ⟨hb, ho, none⟩) 64 hc, fun vv p => (vv 2) = .slice (some ⟨hb, ho, none⟩) 128 hc, fun vv p => (vv 3) = .slice (some ⟨hb, ho + 64, none⟩) 64 (hc - 64), fun vv p => (vv 4) = .tuple #[.agg #[.int .u8 (rr : Int), .int .i64 (ee : Int)], .bool true], fun vv p => (vv 5) = .tuple #[.agg #[.int .u8 (rr : Int), .int .i64 (ee : Int)], .bool true], fun vv p => (vv 6) = .agg #[.int .u8 (rr : Int), .int .i64 (ee : Int)], fun vv p => (vv 7) = .bool true, fun vv p => ∃ x, (vv 8) = .pointer (some ⟨x, 0, none⟩) ∧ q.heap.size ≤ x ∧ (p.heap[x]? = some (.cells #[.int .u8 0, .int .i64 0] 60 (0, 0)) ∨ p.heap[x]? = some (.cells #[.int .u8 (rr : Int), .int .i64 (ee : Int)] 60 (0, 0))), fun vv p => ∃ x, (vv 8) = .pointer (some ⟨x, 0, none⟩) ∧ q.heap.size ≤ x ∧ p.heap[x]? = some (.cells #[.int .u8 (rr : Int), .int .i64 (ee : Int)] 60 (0, 0)), fun vv p => (vv 10) = .bool true] (by kernel_rfl) (by kernel_rfl) rfl ⟨rfl, trivial⟩ ((Below.refl _ _).drew) (by decide) (by kernel_rfl) (fun _ h => h) (fun _ _ h => h) (fun _ => SZ.refl _ _ _) ?_ ?_ ?_
  · exact ⟨fun _ _ _ _ h => h, fun _ _ _ _ h => h, fun _ _ _ _ h => h, fun _ _ _ _ h => h, fun _ _ _ _ h => h, fun _ _ _ _ h => h, fun _ _ _ _ h => h, fun _ _ _ _ h => h, fun _ _ _ hs h => by obtain ⟨x, e1, e2, e3⟩ := h; exact ⟨x, e1, e2, e3.elim (hs.1 x) (fun h => .inr (hs.2 x h))⟩, fun _ _ _ hs h => by obtain ⟨x, e1, e2, e3⟩ := h; exact ⟨x, e1, e2, hs.2 x e3⟩, fun _ _ _ _ h => h, trivial⟩
  · intro b0 hN hlv
    refine ⟨?_, ?_, ?_, ?_, ?_, ?_, ?_, ?_, ?_, ?_, ?_, trivial⟩
    · intro vs p hI0 hp
      have hI := Roll.inw_pure (by decide) rfl hI0
      clear hI0
      have e9 : (Roll.putD Dop7 vs [] b0).eval (.tmp 9) = .slice (some ⟨hb, ho, none⟩) 128 hc := (Roll.eval_old rfl).trans (hlv.at 0 (9, .slice (some ⟨hb, ho, none⟩) 128 hc) rfl)
      clear hp hlv hN
      unfold Roll.Goes
      simp only [Lop7, List.getD_cons_zero, List.getD_cons_succ]
      generalize Roll.putD Dop7 vs [] b0 = a1 at *
      refine Roll.goes_val (w' := p) (.slice (some ⟨hb, ho, none⟩) 128 hc) rfl ?_ ⟨(Roll.outw_pure (by decide) rfl), rfl⟩
      (have ec : ∀ x, a1.eval (.const x) = x := fun _ => rfl); (have ef : ∀ x, a1.eval (.func x) = .func (.func x) #[] #[] := fun _ => rfl); generalize a1.eval = ρ at *
      skip
      go_simp <;> (intros; first | (exfalso; omega) | rfl)
    · intro vs p hI0 hp
      have hI := Roll.inw_pure (by decide) rfl hI0
      clear hI0
      have h0 : (vs 0) = .slice (some ⟨hb, ho, none⟩) 128 hc := hp 0 (by simp [Lop7])
      have e36 : (Roll.putD Dop7 vs [0] b0).eval (.tmp 36) = .slice (some ⟨hb, ho, none⟩) 128 hc := (Roll.eval_new 0 rfl (by decide) (by decide) (by omega)).trans h0
      clear hp hlv hN
      unfold Roll.Goes
      simp only [Lop7, List.getD_cons_zero, List.getD_cons_succ]
      generalize Roll.putD Dop7 vs [0] b0 = a1 at *
      have hh := HHC.out.1
      refine Roll.goes_val (w' := p) (.slice (some ⟨hb, ho, none⟩) 64 hc) rfl ?_ ⟨(Roll.outw_pure (by decide) rfl), rfl⟩
      (have ec : ∀ x, a1.eval (.const x) = x := fun _ => rfl); (have ef : ∀ x, a1.eval (.func x) = .func (.func x) #[] #[] := fun _ => rfl); generalize a1.eval = ρ at *
      clear h0
      go_simp <;> (intros; first | (exfalso; omega) | rfl)
    · intro vs p hI0 hp
      have hI := Roll.inw_pure (by decide) rfl hI0
      clear hI0
      have e9 : (Roll.putD Dop7 vs [] b0).eval (.tmp 9) = .slice (some ⟨hb, ho, none⟩) 128 hc := (Roll.eval_old rfl).trans (hlv.at 0 (9, .slice (some ⟨hb, ho, none⟩) 128 hc) rfl)
      clear hp hlv hN
      unfold Roll.Goes
      simp only [Lop7, List.getD_cons_zero, List.getD_cons_succ]
      generalize Roll.putD Dop7 vs [] b0 = a1 at *
      refine Roll.goes_val (w' := p) (.slice (some ⟨hb, ho, none⟩) 128 hc) rfl ?_ ⟨(Roll.outw_pure (by decide) rfl), rfl⟩
      (have ec : ∀ x, a1.eval (.const x) = x := fun _ => rfl); (have ef : ∀ x, a1.eval (.func x) = .func (.func x) #[] #[] := fun _ => rfl); generalize a1.eval = ρ at *
      skip
      go_simp <;> (intros; first | (exfalso; omega) | rfl)
    · intro vs p hI0 hp
      have hI := Roll.inw_pure (by decide) rfl hI0
      clear hI0
      have h2 : (vs 2) = .slice (some ⟨hb, ho, none⟩) 128 hc := hp 2 (by simp [Lop7])
      have e38 : (Roll.putD Dop7 vs [2] b0).eval (.tmp 38) = .slice (some ⟨hb, ho, none⟩) 128 hc := (Roll.eval_new 2 rfl (by decide) (by decide) (by omega)).trans h2
      clear hp hlv hN
      unfold Roll.Goes
      simp only [Lop7, List.getD_cons_zero, List.getD_cons_succ]
      generalize Roll.putD Dop7 vs [2] b0 = a1 at *
      have hh := HHC.out.1
      have hh2 := HHC.out.2
      refine Roll.goes_val (w' := p) (.slice (some ⟨hb, ho + 64, none⟩) 64 (hc - 64)) rfl ?_ ⟨(Roll.outw_pure (by decide) rfl), rfl⟩
      (have ec : ∀ x, a1.eval (.const x) = x := fun _ => rfl); (have ef : ∀ x, a1.eval (.func x) = .func (.func x) #[] #[] := fun _ => rfl); generalize a1.eval = ρ at *
      clear h2
      go_simp <;> (intros; first | (exfalso; omega) | rfl)
    · intro vs p hI0 hp
      have hI := Roll.inw_pre (by decide) rfl hI0
      clear hI0
      have h1 : (vs 1) = .slice (some ⟨hb, ho, none⟩) 64 hc := hp 1 (by simp [Lop7])
      have h3 : (vs 3) = .slice (some ⟨hb, ho + 64, none⟩) 64 (hc - 64) := hp 3 (by simp [Lop7])
      have e37 : (Roll.putD Dop7 vs [1, 3] b0).eval (.tmp 37) = .slice (some ⟨hb, ho, none⟩) 64 hc := (Roll.eval_new 1 rfl (by decide) (by decide) (by omega)).trans h1
      have e39 : (Roll.putD Dop7 vs [1, 3] b0).eval (.tmp 39) = .slice (some ⟨hb, ho + 64, none⟩) 64 (hc - 64) := (Roll.eval_new 3 rfl (by decide) (by decide) (by omega)).trans h3
      clear hp hlv hN
      unfold Roll.Goes
      simp only [Lop7, List.getD_cons_zero, List.getD_cons_succ]
      generalize Roll.putD Dop7 vs [1, 3] b0 = a1 at *
      refine Roll.goes_call 34 #[.slice (some ⟨hb, ho, none⟩) 64 hc, .slice (some ⟨hb, ho + 64, none⟩) 64 (hc - 64)] p rfl (by have ec : ∀ x, a1.eval (.const x) = x := fun _ => rfl; have ef : ∀ x, a1.eval (.func x) = .func (.func x) #[] #[] := fun _ => rfl; generalize a1.eval = ρ at *; go_simp) ?_
      refine (newest_any _ _ _ _ _ _ f0 s0 p (HB1.out.kept (Kept.of_below (fun _ => False) hI) (fun _ _ _ h => h)) (HB2.out.kept (Kept.of_below (fun _ => False) hI) (fun _ _ _ h => h))).mono ?_
      rintro y p2 ⟨rfl, hbl⟩
      exact ⟨_, rfl, Roll.outw_pre (by decide) rfl (hI.trans (hbl.mono hI.size)) (SZ.of_below hbl), by show Value.tuple _ = Value.tuple _; rw [HRR.out, HEE.out, HNK.out]⟩
    · intro vs p hI0 hp
      have hI := Roll.inw_pure (by decide) rfl hI0
      clear hI0
      have h4 : (vs 4) = .tuple #[.agg #[.int .u8 (rr : Int), .int .i64 (ee : Int)], .bool true] := hp 4 (by simp [Lop7])
      have e40 : (Roll.putD Dop7 vs [4] b0).eval (.tmp 40) = .tuple #[.agg #[.int .u8 (rr : Int), .int .i64 (ee : Int)], .bool true] := (Roll.eval_new 4 rfl (by decide) (by decide) (by omega)).trans h4
      clear hp hlv hN
      unfold Roll.Goes
      simp only [Lop7, List.getD_cons_zero, List.getD_cons_succ]
      generalize Roll.putD Dop7 vs [4] b0 = a1 at *
      refine Roll.goes_val (w' := p) (.tuple #[.agg #[.int .u8 (rr : Int), .int .i64 (ee : Int)], .bool true]) rfl ?_ ⟨(Roll.outw_pure (by decide) rfl), rfl⟩
      (have ec : ∀ x, a1.eval (.const x) = x := fun _ => rfl); (have ef : ∀ x, a1.eval (.func x) = .func (.func x) #[] #[] := fun _ => rfl); generalize a1.eval = ρ at *
      clear h4
      go_simp <;> (intros; first | (exfalso; omega) | rfl)
    · intro vs p hI0 hp
      have hI := Roll.inw_pure (by decide) rfl hI0
      clear hI0
      have h5 : (vs 5) = .tuple #[.agg #[.int .u8 (rr : Int), .int .i64 (ee : Int)], .bool true] := hp 5 (by simp [Lop7])
      have e35 : (Roll.putD Dop7 vs [5] b0).eval (.tmp 35) = .tuple #[.agg #[.int .u8 (rr : Int), .int .i64 (ee : Int)], .bool true] := (Roll.eval_new 5 rfl (by decide) (by decide) (by omega)).trans h5
      clear hp hlv hN
      unfold Roll.Goes
      simp only [Lop7, List.getD_cons_zero, List.getD_cons_succ]
      generalize Roll.putD Dop7 vs [5] b0 = a1 at *
      refine Roll.goes_val (w' := p) (.agg #[.int .u8 (rr : Int), .int .i64 (ee : Int)]) rfl ?_ ⟨(Roll.outw_pure (by decide) rfl), rfl⟩
      (have ec : ∀ x, a1.eval (.const x) = x := fun _ => rfl); (have ef : ∀ x, a1.eval (.func x) = .func (.func x) #[] #[] := fun _ => rfl); generalize a1.eval = ρ at *
      clear h5
      go_simp <;> (intros; first | (exfalso; omega) | rfl)
    · intro vs p hI0 hp
      have hI := Roll.inw_pure (by decide) rfl hI0
      clear hI0
      have h5 : (vs 5) = .tuple #[.agg #[.int .u8 (rr : Int), .int .i64 (ee : Int)], .bool true] := hp 5 (by simp [Lop7])
      have e35 : (Roll.putD Dop7 vs [5] b0).eval (.tmp 35) = .tuple #[.agg #[.int .u8 (rr : Int), .int .i64 (ee : Int)], .bool true] := (Roll.eval_new 5 rfl (by decide) (by decide) (by omega)).trans h5
      clear hp hlv hN
      unfold Roll.Goes
      simp only [Lop7, List.getD_cons_zero, List.getD_cons_succ]
      generalize Roll.putD Dop7 vs [5] b0 = a1 at *
      refine Roll.goes_val (w' := p) (.bool true) rfl ?_ ⟨(Roll.outw_pure (by decide) rfl), rfl⟩
      (have ec : ∀ x, a1.eval (.const x) = x := fun _ => rfl); (have ef : ∀ x, a1.eval (.func x) = .func (.func x) #[] #[] := fun _ => rfl); generalize a1.eval = ρ at *
      clear h5
      go_simp <;> (intros; first | (exfalso; omega) | rfl)
    · intro vs p hI0 hp
      have hI := Roll.inw_pre (by decide) rfl hI0
      clear hI0
      clear hp hlv hN
      unfold Roll.Goes
      simp only [Lop7, List.getD_cons_zero, List.getD_cons_succ]
      generalize Roll.putD Dop7 vs [] b0 = a1 at *
      have hal : Below p.heap.size p (p.alloc (.cells #[.int .u8 0, .int .i64 0] 60)) := (Below.refl _ _).alloc (Nat.le_refl _) _
      refine Roll.goes_val (w' := p.alloc (.cells #[.int .u8 0, .int .i64 0] 60)) (.pointer (some ⟨p.heap.size, 0, none⟩)) rfl (by have ec : ∀ x, a1.eval (.const x) = x := fun _ => rfl; have ef : ∀ x, a1.eval (.func x) = .func (.func x) #[] #[] := fun _ => rfl; have hbs := run_allocS; generalize a1.eval = ρ at *; go_simp <;> (intros; first | (exfalso; omega) | rfl)) ⟨Roll.outw_pre (by decide) rfl (hI.trans (hal.mono hI.size)) (SZ.of_below hal), p.heap.size, rfl, hI.size, .inl (heap_new rfl)⟩
    · intro vs p hI0 hp
      have hI := Roll.inw_k0 rfl hI0
      clear hI0
      have h8 : ∃ x, (vs 8) = .pointer (some ⟨x, 0, none⟩) ∧ q.heap.size ≤ x ∧ (p.heap[x]? = some (.cells #[.int .u8 0, .int .i64 0] 60 (0, 0)) ∨ p.heap[x]? = some (.cells #[.int .u8 (rr : Int), .int .i64 (ee : Int)] 60 (0, 0))) := hp 8 (by simp [Lop7])
      have h6 : (vs 6) = .agg #[.int .u8 (rr : Int), .int .i64 (ee : Int)] := hp 6 (by simp [Lop7])
      have e11 : (Roll.putD Dop7 vs [8, 6] b0).eval (.tmp 11) = vs 8 := (Roll.eval_new 8 rfl (by decide) (by decide) (by omega))
      have e41 : (Roll.putD Dop7 vs [8, 6] b0).eval (.tmp 41) = .agg #[.int .u8 (rr : Int), .int .i64 (ee : Int)] := (Roll.eval_new 6 rfl (by decide) (by decide) (by omega)).trans h6
      clear hp hlv hN
      unfold Roll.Goes
      simp only [Lop7, List.getD_cons_zero, List.getD_cons_succ]
      generalize Roll.putD Dop7 vs [8, 6] b0 = a1 at *
      obtain ⟨x, hv8, hx, hz⟩ := h8
      rw [hv8] at e11
      rcases hz with hz | hz <;>
        (refine Roll.goes_store_row rfl 60 (.tmp 11) (.tmp 41) rfl x _ e11 e41 60 _ hz (sizeS _ _) rfl (oneS _ _) ?_
         exact ⟨Roll.outw_k0 rfl (below_setRow hI hx _) (SZ.of_set hz), x, hv8, hx, setRow_heap _ _ _ _ _ _ hz⟩)
    · intro vs p hI0 hp
      have hI := Roll.inw_pure (by decide) rfl hI0
      clear hI0
      have h7 : (vs 7) = .bool true := hp 7 (by simp [Lop7])
      have e42 : (Roll.putD Dop7 vs [7] b0).eval (.tmp 42) = .bool true := (Roll.eval_new 7 rfl (by decide) (by decide) (by omega)).trans h7
      clear hp hlv hN
      unfold Roll.Goes
      simp only [Lop7, List.getD_cons_zero, List.getD_cons_succ]
      generalize Roll.putD Dop7 vs [7] b0 = a1 at *
      refine Roll.goes_val (w' := p) (.bool true) rfl ?_ ⟨(Roll.outw_pure (by decide) rfl), rfl⟩
      (have ec : ∀ x, a1.eval (.const x) = x := fun _ => rfl); (have ef : ∀ x, a1.eval (.func x) = .func (.func x) #[] #[] := fun _ => rfl); generalize a1.eval = ρ at *
      clear h7
      go_simp <;> (intros; first | (exfalso; omega) | rfl)
  · intro vs p hI hR
    have h0 : (vs 0) = .slice (some ⟨hb, ho, none⟩) 128 hc := hR 0 (by omega)
    have h1 : (vs 1) = .slice (some ⟨hb, ho, none⟩) 64 hc := hR 1 (by omega)
    have h2 : (vs 2) = .slice (some ⟨hb, ho, none⟩) 128 hc := hR 2 (by omega)
    have h3 : (vs 3) = .slice (some ⟨hb, ho + 64, none⟩) 64 (hc - 64) := hR 3 (by omega)
    have h4 : (vs 4) = .tuple #[.agg #[.int .u8 (rr : Int), .int .i64 (ee : Int)], .bool true] := hR 4 (by omega)
    have h5 : (vs 5) = .tuple #[.agg #[.int .u8 (rr : Int), .int .i64 (ee : Int)], .bool true] := hR 5 (by omega)
    have h6 : (vs 6) = .agg #[.int .u8 (rr : Int), .int .i64 (ee : Int)] := hR 6 (by omega)
    have h7 : (vs 7) = .bool true := hR 7 (by omega)
    have h8 : ∃ x, (vs 8) = .pointer (some ⟨x, 0, none⟩) ∧ q.heap.size ≤ x ∧ (p.heap[x]? = some (.cells #[.int .u8 0, .int .i64 0] 60 (0, 0)) ∨ p.heap[x]? = some (.cells #[.int .u8 (rr : Int), .int .i64 (ee : Int)] 60 (0, 0))) := hR 8 (by omega)
    have h9 : ∃ x, (vs 8) = .pointer (some ⟨x, 0, none⟩) ∧ q.heap.size ≤ x ∧ p.heap[x]? = some (.cells #[.int .u8 (rr : Int), .int .i64 (ee : Int)] 60 (0, 0)) := hR 9 (by omega)
    have h10 : (vs 10) = .bool true := hR 10 (by omega)
    clear hR
    simp only [List.range_succ, List.range_zero, List.nil_append, List.cons_append, Roll.putD, Act.put, List.getD_cons_zero, List.getD_cons_succ, List.setIfInBounds_toArray, List.set_cons_zero, List.set_cons_succ, List.drop_succ_cons, List.drop_zero, Dop7]
    simp only [h0, h1, h2, h3, h4, h5, h6, h7, h10]
    clear h0 h1 h2 h3 h4 h5 h6 h7 h10
    clear h8
    generalize vs 8 = v8 at *
    obtain ⟨g11, rfl, hg11, hz11⟩ := h9
    have HBp := Lib.hid hI
    have HL3 := Lib.hid (HL2.out.cons hI (o := stateO g11 rr ee) (B := fun x => x = g11) ⟨hz11, rfl⟩ (fun x hx => by subst hx; exact ⟨hg11, (Array.getElem?_eq_some_iff.1 hz11).1⟩))
    have HZ11 := Lib.hid hz11
    have HG11 := Lib.hid hg11
    have c111 : p.cell? ⟨g11, 1, none⟩ = some (.int .i64 (ee : Int)) := by rw [cell_of_row p g11 1 _ _ _ hz11]; rfl
    clear hI hz11 hg11 HL2
    have hb2 : (ee : Int) ≤ (n : Int) * 64 := by have := HEN.out; omega
    go_upto_region 10 with fail
    have hi3 : (stateO g11 rr ee :: bytesO (.slice (some ⟨hb, ho, none⟩) 128 hc) hd :: logO gl g (LM.new f n) :: L)[2]? = some (logO gl g (LM.new f n)) := rfl
    have hj3 : (stateO g11 rr ee :: bytesO (.slice (some ⟨hb, ho, none⟩) 128 hc) hd :: logO gl g (LM.new f n) :: L)[j + 3]? = some (diskO g d) := by simpa using HJ.out
    have HRD : Hid (Calls Tryd.prog 33 #[.pointer (some ⟨gl, 0, none⟩), .int .i64 128, .int .i64 (ee : Int)] p fun x w' => ∃ v, x = .returned (.tuple #[v, .int .i64 0]) ∧ Lv w0 w' (bytesO v (joinB rs) :: stateO g11 rr ee :: bytesO (.slice (some ⟨hb, ho, none⟩) 128 hc) hd :: logO gl g (LM.new f n) :: L)) := Lib.hid (by
      have hh := HEN.out
      have hf := HFN.out
      have hcc := HCNT.out
      have := read_log HL3.out hi3 hj3 2 ee cnt (by omega) (by omega) (by omega) (by omega) (show f + 2 + cnt ≤ d.S.length by omega) HON.out
      rw [show (secsB d ((LM.new f n).frm + 2) cnt).take (ee - 2 * 64) = joinB rs from HJB.out] at this
      exact this)
    clear hi3 hj3
    go_upto_region 11 with (go_at_call 33; refine HRD.out.mono ?_; rintro x w3 ⟨v3, rfl, hl4⟩; have HL4 := Lib.hid hl4; clear hl4 HRD)
    have hj4 := HL4.out.join (i := 3) (j := 0) (by omega) rfl rfl
    obtain ⟨B, ⟨B1, B2, ⟨kl, Bl, vl, hlg, hlB⟩, ⟨a3, c3, e3, hbs⟩, hdis, hs1, hs2⟩, hblt, _, hset⟩ := hj4.get (i := 3) rfl
    subst e3
    have hglw : gl < w3.heap.size := hlg.blk_lt gl (.inl rfl)
    have hB2gl : ¬ B2 gl := hdis gl (hlB gl (.inl rfl))
    have HSET := Lib.hid hset
    have HLG := Lib.hid hlg
    have HBGL : Hid (B gl) := Lib.hid (hs1 gl (hlB gl (.inl rfl)))
    have HB2B := Lib.hid hs2
    have HBS := Lib.hid hbs
    have HB2GL := Lib.hid hB2gl
    have HGLW := Lib.hid hglw
    clear hj4 hlg hlB hbs hdis hs1 hs2 hblt hset hB2gl hglw
    go_upto_region 14 with (go_at_call 35; refine (split_any B2 _ _ _ rs _ HBS.out H64.out HLB.out).mono ?_; rintro x w4 ⟨v5, k5, rfl, hrc, hk5, hb4⟩; have HRC := Lib.hid hrc; have HK5 := Lib.hid hk5; have HB4 := Lib.hid hb4; have HL5 := Lib.hid (HL4.out.below hb4); clear hrc hk5 hb4 HL4)
    obtain ⟨a5, c5, rfl, hc51, hc52⟩ := HRC.out.shape
    obtain ⟨rl, hrl⟩ : ∃ rl, rl = rs.length := ⟨_, rfl⟩
    rw [← hrl] at hc51 HRC
    rw [← hrl]
    have HRLE := Lib.hid hrl
    clear hrl
    go_upto_region 16 with fail
    obtain ⟨_, ⟨hz5, -⟩, -, -, -⟩ := HL5.out.get (i := 1) rfl
    have hself4 := (Kept.of_below (fun _ => False) HB4.out).heap HLG.out.self (fun h => h)
    have hl4 : Lg w4 gl g kl Bl vl (LM.new f n) := HLG.out.kept (Kept.of_below (fun _ => False) HB4.out) (fun _ _ h => h)
    obtain ⟨al4, cl4, rfl, -, -, hgl4, -, -, -, d3, d4, d5, d6, d7, fz⟩ := hl4.facts
    have HTH : Hid (w4.there gl 3 2) := Lib.hid (fun j hj => by
      have : j = 0 ∨ j = 1 := by omega
      rcases this with rfl | rfl
      · exact ⟨by rw [d3]; rfl, fz _⟩
      · exact ⟨by rw [d4]; rfl, fz _⟩)
    obtain ⟨w5, hw5⟩ : ∃ w5, w5 = w4.setCells gl 3 [.int .u8 (rr : Int), .int .i64 (ee : Int)] := ⟨_, rfl⟩
    have hs5 : w5.heap[gl]? = some (.cells #[.pointer (some ⟨g, 0, none⟩), .int .i64 (f : Int), .int .i64 (n : Int), .int .u8 (rr : Int), .int .i64 (ee : Int), .slice al4 0 cl4, .int .i64 0, .int .i64 0] 62 (0, 0)) := by
      rw [hw5]
      show ((w4.setCell ⟨gl, 3, none⟩ _).setCell ⟨gl, 4, none⟩ _).heap[gl]? = _
      rw [heap_setCell_same _ gl 4 _ _ _ (heap_setCell_same w4 gl 3 _ _ _ hl4.self)]
      rfl
    have hk5 : Kept (fun x => x = gl) w4 w5 := by rw [hw5]; exact (Kept.refl _ _).setCells _ _ (fun _ => rfl)
    have e5 : w5.cell? ⟨gl, 5, none⟩ = some (.slice al4 0 cl4) := by rw [cell_of_row w5 gl 5 _ _ _ hs5]; rfl
    have e6 : w5.cell? ⟨gl, 6, none⟩ = some (.int .i64 0) := by rw [cell_of_row w5 gl 6 _ _ _ hs5]; rfl
    have z5 : w5.frozen? ⟨gl, 5, none⟩ = false := frozen_of_row w5 gl 5 _ _ hs5
    have z6 : w5.frozen? ⟨gl, 6, none⟩ = false := frozen_of_row w5 gl 6 _ _ hs5
    have HZ5w := Lib.hid hz5
    have HW5 := Lib.hid hw5
    have HS5 := Lib.hid hs5
    have HK45 := Lib.hid hk5
    clear hz5 hself4 hl4 d3 d4 d5 d6 d7 fz hgl4 hw5 hs5 hk5
    go_upto_region 17 with (first
      | (refine wpList_load_row rfl 60 (.tmp 11) rfl g11 rfl 60 _ (0, 0) _ HZ5w.out Tryd.underlying60 rfl (sizeS _ _) ?_)
      | (refine wpList_store_mid rfl 60 (.tmp 77) (.tmp 72) rfl gl 3 _ rfl rfl HTH.out (sizeS _ _) (oneS _ _) ?_; show wpList _ _ _ _ _ (w4.setCells gl 3 [.int .u8 (rr : Int), .int .i64 (ee : Int)]); rw [← HW5.out]))
    obtain ⟨w6, hw6⟩ : ∃ w6, w6 = (w5.setCell ⟨gl, 5, none⟩ (.slice a5 rl c5)).setCell ⟨gl, 6, none⟩ (.int .i64 (rl : Int)) := ⟨_, rfl⟩
    rw [← hw6]
    have hk6 : Kept (fun x => x = gl) w4 w6 := by rw [hw6]; exact (HK45.out.setCell (p := ⟨gl, 5, none⟩) (fun _ => rfl) _).setCell (p := ⟨gl, 6, none⟩) (fun _ => rfl) _
    have hs6 : w6.heap[gl]? = some (.cells (LM.cells g ⟨f, n, rr, ee, rs, rl, 0⟩ (.slice a5 rl c5)).toArray 62 (0, 0)) := by
      rw [hw6, heap_setCell_same _ gl 6 _ _ _ (heap_setCell_same w5 gl 5 _ _ _ HS5.out)]
      rfl
    have hkg : k5 ≠ some gl := fun e => by have := HK5.out gl e; have := HGLW.out; omega
    have hR6 : Recs w6 k5 (fun x => B2 x ∧ x < w3.heap.size) (.slice a5 rl c5) rs := HRC.out.kept hk6 (fun x hx e => hkg (by rw [hx, e])) (fun x _ hx e => HB2GL.out (by rw [← e]; exact hx.1))
    have hLg6 : Lg w6 gl g k5 (fun x => B2 x ∧ x < w3.heap.size) (.slice a5 rl c5) ⟨f, n, rr, ee, rs, rl, 0⟩ := ⟨hs6, hR6, ⟨hkg, fun h => HB2GL.out h.1, fun x hx hb => by have := HK5.out x hx; omega⟩, fun x hx => Nat.lt_of_lt_of_le hx.2 (Nat.le_trans HB4.out.size hk6.size)⟩
    have hL6 := HSET.out w6 (logO gl g ⟨f, n, rr, ee, rs, rl, 0⟩) (LBlk gl k5 (fun x => B2 x ∧ x < w3.heap.size)) ⟨k5, _, _, hLg6, fun _ h => h⟩ ((Kept.of_below B HB4.out).trans (hk6.mono (fun x _ hx => by rw [hx]; exact HBGL.out)) (fun _ _ h => h)) (by
      rintro x (h | h | h)
      · rw [h]; exact .inl HBGL.out
      · exact .inr (HK5.out x h)
      · exact .inl (HB2B.out x h.1)) (fun x hx => hLg6.blk_lt x hx)
    have HL6 : Hid (Lv w0 w6 (noO :: stateO g11 rr ee :: bytesO (.slice (some ⟨hb, ho, none⟩) 128 hc) hd :: logO gl g ⟨f, n, rr, ee, rs, rl, 0⟩ :: L)) := Lib.hid hL6
    have HRD6 : Hid (RdR (fun x => k5 = some x ∨ (B2 x ∧ x < w3.heap.size)) w6 a5 rl c5 rs) := Lib.hid (hR6.rd (fun x hx => .inl hx) (fun x hx => .inr hx))
    have HDG : Hid (¬ (k5 = some gl ∨ (B2 gl ∧ gl < w3.heap.size))) := Lib.hid (fun h => h.elim hkg (fun h => HB2GL.out h.1))
    have HTR := HTAK
    clear hw6 hk6 hs6 hkg hR6 hLg6 hL6 HSET HLG HBGL HB2B HBS HB2GL HGLW HRC HK5 HB4 HL5 HZ5w HW5 HS5 HK45 e5 e6 z5 z6 HTH
    obtain ⟨D6, hD6⟩ : ∃ D6 : Nat → Prop, D6 = fun x => k5 = some x ∨ (B2 x ∧ x < w3.heap.size) := ⟨_, rfl⟩
    rw [← hD6] at HRD6
    have HDG2 : Hid (¬ D6 gl) := Lib.hid (by rw [hD6]; exact HDG.out)
    clear hD6 HDG
    go_wp2_with fail
    go_loopw [84] (fun t wr => ∃ i : Nat, i ≤ rl ∧ t = .int .i64 (i : Int) ∧ Lv w0 wr (noO :: stateO g11 rr ee :: bytesO (.slice (some ⟨hb, ho, none⟩) 128 hc) hd :: logO gl g ⟨f, n, rr, ee, rs, rl, takR (rs.take i)⟩ :: L) ∧ RdR D6 wr a5 rl c5 rs) (fun t _ => rl - (intOf t).toNat)
    case atStart => exact ⟨0, Nat.zero_le _, rfl, HL6.out, HRD6.out⟩
    case round =>
      obtain ⟨i, hi9, rfl, hL, hRd⟩ := hrel
      by_cases hlt : i < rl
      · have hn2 : (i : Int) < (rl : Int) := by omega
        have hlr : i < rs.length := by rw [← HRLE.out]; exact hlt
        obtain ⟨r, hr⟩ : ∃ r, r = rs[i]'hlr := ⟨_, rfl⟩
        have HTK : Hid (takR (rs.take (i + 1)) = takR (rs.take i) + (r.length + 12)) := Lib.hid (by rw [List.take_succ_eq_append_getElem hlr, takR_snoc, hr])
        have hti : takR (rs.take (i + 1)) ≤ 1000000000 := Nat.le_trans (takR_take rs _) HTR.out
        rw [HTK.out] at hti
        obtain ⟨T, hT⟩ : ∃ T, T = takR (rs.take i) := ⟨_, rfl⟩
        rw [← hT] at HTK hti hL
        obtain ⟨g8, off8, b8, cb8, -, rfl, hg8, hcell, -⟩ := hRd.2.2.2 i hlr
        rw [← hr] at hcell
        obtain ⟨_, _, -, -, hgl8, -, -, -, -, -, -, -, q7, fz⟩ := hL.logFacts (i := 3) rfl
        simp only at q7
        have z7 := fz 7
        obtain ⟨rn, hrn⟩ : ∃ rn, rn = r.length := ⟨_, rfl⟩
        rw [← hrn] at hcell HTK hti
        have hrlb := HRLB.out
        rw [← HRLE.out] at hrlb
        have hw1 : IntKind.i64.wrap ((i : Int) + 1) = (i : Int) + 1 := i64_id _ (by omega) (by omega)
        have hw2 : IntKind.i64.wrap ((rn : Int) + 12) = (rn : Int) + 12 := i64_id _ (by omega) (by omega)
        have hw3 : IntKind.i64.wrap ((T : Int) + ((rn : Int) + 12)) = ((T + (rn + 12) : Nat) : Int) := by rw [i64_id _ (by omega) (by omega)]; omega
        have HLt := Lib.hid (hL.logTak (i := 3) rfl (T + (rn + 12)))
        have HRd2 : Hid (RdR D6 (wr.setCell ⟨gl, 7, none⟩ (.int .i64 ((T + (rn + 12) : Nat) : Int))) (some ⟨g8, off8, none⟩) rl c5 rs) := Lib.hid (hRd.kept ((Kept.refl (fun x => x = gl) wr).setCell (p := ⟨gl, 7, none⟩) (fun _ => rfl) _) (fun x _ hx e => HDG2.out (by rw [← e]; exact hx)))
        clear hL hRd hr hT hrn hg8 fz hti
        go_wp2_with fail
        go_roundw
        case rel => exact ⟨i + 1, by omega, by go_num, by rw [HTK.out]; exact HLt.out, HRd2.out⟩
        case measure => simp [intOf]; omega
      · obtain rfl : i = rl := by omega
        have e1 : rs.take i = rs := List.take_of_length_le (by rw [HRLE.out]; exact Nat.le_refl _)
        rw [e1] at hL
        have HF := Lib.hid hL.tail.tail.tail
        clear hL hRd e1 hlt
        go_wp2_with fail
        go_ret2
        exact ⟨gl, rfl, by rw [← HRLE.out]; exact HF.out⟩
end
end Go.Proofs.YthffegfcgmhppaaDoor
namespace Go.Proofs.YthffegfcgmhppaaDoor
open Go.RowKit
theorem nf_write {d : DM} {k : Nat} {b : List UInt8} (h : d.fuse = 0) : (d.write k b).on = d.on ∧ (d.write k b).fuse = 0 := ⟨write_on h, (write_fuse h).trans h⟩
theorem nf_flush {d : DM} (h : d.fuse = 0) : d.flush.on = d.on ∧ d.flush.fuse = 0 := ⟨flush_on h, (flush_fuse h).trans h⟩
theorem desR_nf (m : LM) (d : DM) (e : Nat) (h : d.on = true) (hf : d.fuse = 0) : (desR m d e).1 = 0 ∧ (desR m d e).2.1 = { m with rnd := (m.rnd + 1) % 256, en := e } ∧ (desR m d e).2.2 = (d.write (m.frm + (m.rnd + 1) % 256 % 2) (desB ((m.rnd + 1) % 256) e)).flush ∧ (desR m d e).2.2.on = true ∧ (desR m d e).2.2.fuse = 0 := by
  have hw := nf_write (k := m.frm + (m.rnd + 1) % 256 % 2) (b := desB ((m.rnd + 1) % 256) e) hf
  have hw1 := hw.1.trans h
  have hfl := nf_flush hw.2
  unfold desR
  rw [if_pos h, if_pos hw1]
  exact ⟨rfl, rfl, rfl, hfl.1.trans hw1, hfl.2⟩
theorem desR_off (m : LM) (d : DM) (e : Nat) (h : d.on = false) : desR m d e = (10, m, d) := by
  unfold desR
  rw [if_neg (by rw [h]; decide)]
theorem fmtR_off (f n : Nat) (d : DM) (h : d.on = false) : (fmtR f n d).1 = 10 ∧ (fmtR f n d).2.2 = d := by
  unfold fmtR fmt1
  rw [desR_off _ _ _ h]
  exact ⟨rfl, rfl⟩
theorem fmtR_on (f n : Nat) (d : DM) (h : d.on = true) (hf : d.fuse = 0) : (fmtR f n d).1 = 0 ∧ (fmtR f n d).2.1 = ⟨f, n, 2, 128, [], 0, 0⟩ ∧ (fmtR f n d).2.2 = ((((d.write (f + 1) (desB 1 128)).flush).write f (desB 2 128)).flush) ∧ (fmtR f n d).2.2.on = true ∧ (fmtR f n d).2.2.fuse = 0 := by
  obtain ⟨a1, a2, a3, a4, a5⟩ := desR_nf (LM.new f n) d 128 h hf
  have e1 : (fmt1 f n d).1 = 0 := a1
  obtain ⟨b1, b2, b3, b4, b5⟩ := desR_nf (fmt1 f n d).2.1 (fmt1 f n d).2.2 128 a4 a5
  have e2 : (fmt1 f n d).2.1 = ⟨f, n, 1, 128, [], 0, 0⟩ := a2
  unfold fmtR
  rw [if_pos e1]
  refine ⟨b1, ?_, ?_, b4, b5⟩
  · rw [b2, e2]
    rfl
  · rw [b3, e2]
    have : (fmt1 f n d).2.2 = (d.write (f + 1) (desB 1 128)).flush := a3
    rw [this]
    simp
end Go.Proofs.YthffegfcgmhppaaDoor
namespace Go.Proofs.YthffegfcgmhppaaDoor
set_option linter.unusedSimpArgs false
set_option linter.unusedVariables false
/-- a sector: its durable bytes and the unflushed writes -/
def sec (d : DM) (k : Nat) : List (List UInt8) := d.S.getD k []
theorem sec_eq {d : DM} {k : Nat} (h : k < d.S.length) : sec d k = d.S[k] := by
  unfold sec
  rw [List.getD_eq_getElem?_getD, List.getElem?_eq_getElem h, Option.getD_some]
theorem sec_out {d : DM} {k : Nat} (h : d.S.length ≤ k) : sec d k = [] := by
  unfold sec
  rw [List.getD_eq_getElem?_getD, List.getElem?_eq_none h, Option.getD_none]
theorem sec_write (d : DM) (k : Nat) (l : List UInt8) (j : Nat) (hk : k < d.S.length) : sec (d.write k l) j = if k = j then sec d j ++ [l] else sec d j := by
  unfold sec
  rw [List.getD_eq_getElem?_getD, write_get, List.getD_eq_getElem?_getD]
  by_cases e : k = j
  · subst e
    rw [if_pos rfl, if_pos rfl, List.getElem?_eq_getElem hk]
    rfl
  · rw [if_neg e, if_neg e]
theorem sec_flush (d : DM) (k : Nat) (hk : k < d.S.length) : sec d.flush k = [lastB (sec d k)] := by
  rw [sec_eq (by rw [flush_len]; exact hk), sec_eq hk]
  unfold DM.flush
  simp only [DM.burn_S, List.getElem_map]
theorem restart_one (d : DM) (ts : List TM) : ∀ s ∈ (d.restart ts).S, s ≠ [] ∧ s.tail = [] := by
  intro s hs
  obtain ⟨s', _, rfl⟩ := List.mem_map.1 hs
  exact ⟨by simp, rfl⟩
theorem surv_last (s : List (List UInt8)) (h : s ≠ []) : lastB s = surv s (s.length : Int) 0 := by
  have hp : 0 < s.length := List.length_pos_iff.2 h
  unfold surv
  have e : min (s.length : Int).toNat (s.length - 1) = s.length - 1 := by omega
  have key : s[s.length - 1 + 1]? = none := List.getElem?_eq_none (by omega)
  rw [e]
  simp only [key]
  unfold lastB
  rw [List.getD_eq_getElem?_getD, List.getLastD_eq_getLast?, List.getLast?_eq_getElem?]
/-- what may become of a sector -/
def Poss (s : List (List UInt8)) (b : List UInt8) : Prop := b = dur s ∨ ∃ wr by_ : Int, b = surv s wr by_
theorem sec_restart (d : DM) (ts : List TM) (k : Nat) (hk : k < d.S.length) : ∃ b, sec (d.restart ts) k = [b] ∧ Poss (sec d k) b := by
  have hk2 : k < (d.restart ts).S.length := by rw [restart_len]; exact hk
  have h1 := restart_get d ts k hk hk2
  have hs := restart_one d ts _ (List.getElem_mem hk2)
  rw [sec_eq hk2, sec_eq hk]
  match hm : (d.restart ts).S[k], hs with
  | [x], _ =>
    rw [hm] at h1
    refine ⟨x, rfl, ?_⟩
    have hx : lastB [x] = x := rfl
    rw [hx] at h1
    cases hf : firstOf ts k with
    | none => rw [hf] at h1; exact .inl h1
    | some t => rw [hf] at h1; exact .inr ⟨_, _, h1⟩
  | [], h => exact absurd rfl h.1
theorem poss_one {x b : List UInt8} (h : Poss [x] b) : b = x := by
  rcases h with h | ⟨wr, by_, h⟩
  · exact h
  · rw [h]; simp [surv]
/-- a torn write: some first bytes of a later one, the others of an earlier one -/
theorem poss_mix {s : List (List UInt8)} {b : List UInt8} (hs : s ≠ []) (h : Poss s b) : ∃ x y t, x ∈ s ∧ y ∈ s ∧ b = x.take t ++ y.drop t := by
  rcases h with h | ⟨wr, by_, h⟩
  · exact ⟨dur s, dur s, 0, dur_mem hs, dur_mem hs, by rw [h]; simp⟩
  · unfold surv at h
    have hp : 0 < s.length := List.length_pos_iff.2 hs
    have hi : min wr.toNat (s.length - 1) < s.length := by omega
    have hg : s.getD (min wr.toNat (s.length - 1)) [] ∈ s := by
      rw [List.getD_eq_getElem?_getD, List.getElem?_eq_getElem hi, Option.getD_some]; exact List.getElem_mem hi
    simp only at h
    split at h
    · rename_i x hx
      exact ⟨x, _, _, List.mem_of_getElem? hx, hg, h⟩
    · exact ⟨_, _, 0, hg, hg, by rw [h]; simp⟩
theorem poss_two {x y b : List UInt8} (h : Poss [x, y] b) : ∃ t, b = y.take t ++ x.drop t ∨ b = y := by
  rcases h with h | ⟨wr, by_, h⟩
  · exact ⟨0, .inl (by rw [h]; simp [dur])⟩
  · unfold surv at h
    simp only [List.length_cons, List.length_nil] at h
    have : min wr.toNat (0 + 1 + 1 - 1) = 0 ∨ min wr.toNat (0 + 1 + 1 - 1) = 1 := by omega
    rcases this with e | e
    · rw [e] at h
      exact ⟨_, .inl (by simpa using h)⟩
    · rw [e] at h
      exact ⟨0, .inr (by simpa using h)⟩
theorem mix_getD (x y : List UInt8) (t i : Nat) (hx : x.length = 64) (hy : y.length = 64) (hi : i < 64) : (x.take t ++ y.drop t).getD i 0 = if i < t then x.getD i 0 else y.getD i 0 := by
  rw [List.getD_eq_getElem?_getD, List.getD_eq_getElem?_getD, List.getD_eq_getElem?_getD]
  by_cases h : i < t
  · rw [if_pos h, List.getElem?_append_left (by rw [List.length_take]; omega), List.getElem?_take, if_pos h]
  · rw [if_neg h, List.getElem?_append_right (by rw [List.length_take]; omega), List.getElem?_drop, List.length_take, show t + (i - min t x.length) = i by omega]
/-- all that is in the sectors agrees with some bytes, from sector F + 2 on -/
def AllOk (d : DM) (F : Nat) (l : List UInt8) : Prop := ∀ i (hi : i < l.length), ∀ x ∈ sec d (F + 2 + i / 64), x.getD (i % 64) 0 = l[i]
/-- what is read last -/
def LastOk (d : DM) (F : Nat) (l : List UInt8) : Prop := ∀ i (hi : i < l.length), (lastB (sec d (F + 2 + i / 64))).getD (i % 64) 0 = l[i]
/-- the state of a log on a disk: all that may be read of it is of round r, ends at e and has the records rs -/
structure GA (F N : Nat) (d : DM) (r e : Nat) (rs : List (List UInt8)) : Prop where
  fit : F + N ≤ d.S.length
  len : ∀ k, k < d.S.length → sec d k ≠ [] ∧ ∀ b ∈ sec d k, b.length = 64
  rb : r < 256
  new : ∃ x, sec d (F + r % 2) = [x] ∧ okS x = true ∧ bN x 0 = r ∧ endF x = e
  old : ∃ y, sec d (F + (r + 1) % 2) = [y] ∧ (okS y = false ∨ bN y 0 = (r + 255) % 256) ∧ bN y 63 ≠ (r + 1) % 256
  en : e = 128 + lenB rs
  all : AllOk d F (joinB rs)
  room : e ≤ N * 64
theorem len_of_ok {d : DM} {M : Nat} (h : d.Ok M) : ∀ k, k < d.S.length → sec d k ≠ [] ∧ ∀ b ∈ sec d k, b.length = 64 := fun k hk => by
  rw [sec_eq hk]
  have := h.2.2.2 _ (List.getElem_mem hk)
  exact ⟨this.1, this.2.2⟩
theorem dataIn {F N i L : Nat} (hi : i < L) (hL : 128 + L ≤ N * 64) : F + 2 + i / 64 < F + N := by omega
theorem GA.flush {F N : Nat} {d : DM} {r e : Nat} {rs : List (List UInt8)} (h : GA F N d r e rs) : GA F N d.flush r e rs := by
  have hN : 4 ≤ N ∨ N < 4 := by omega
  have hl := flush_len d
  obtain ⟨x, x1, x2⟩ := h.new
  obtain ⟨y, y1, y2⟩ := h.old
  have hro := h.room
  have hen := h.en
  have hfit := h.fit
  refine ⟨by rw [hl]; exact hfit, fun k hk => ?_, h.rb, ⟨x, ?_, x2⟩, ⟨y, ?_, y2⟩, hen, fun i hi b hb => ?_, hro⟩
  · rw [hl] at hk
    rw [sec_flush d k hk]
    obtain ⟨a1, a2⟩ := h.len k hk
    exact ⟨by simp, fun b hb => by rw [List.mem_singleton.1 hb]; exact a2 _ (lastB_mem a1)⟩
  · rw [sec_flush d _ (by omega), x1]; rfl
  · rw [sec_flush d _ (by omega), y1]; rfl
  · have hi2 := hi
    rw [joinB_len] at hi2
    have hk : F + 2 + i / 64 < d.S.length := by omega
    rw [sec_flush d _ hk] at hb
    rw [List.mem_singleton.1 hb]
    exact h.all i hi _ (lastB_mem (h.len _ hk).1)
/-- a power failure leaves the state -/
theorem GA.restart {F N : Nat} {d : DM} {r e : Nat} {rs : List (List UInt8)} (h : GA F N d r e rs) (ts : List TM) : GA F N (d.restart ts) r e rs := by
  have hl := restart_len d ts
  obtain ⟨x, x1, x2⟩ := h.new
  obtain ⟨y, y1, y2⟩ := h.old
  have hro := h.room
  have hen := h.en
  have hfit := h.fit
  have hlen : ∀ k, k < d.S.length → ∃ b, sec (d.restart ts) k = [b] ∧ b.length = 64 ∧ Poss (sec d k) b := fun k hk => by
    obtain ⟨b, b1, b2⟩ := sec_restart d ts k hk
    obtain ⟨a1, a2⟩ := h.len k hk
    obtain ⟨u, v, t, hu, hv, rfl⟩ := poss_mix a1 b2
    have e1 := a2 u hu
    have e2 := a2 v hv
    exact ⟨_, b1, by rw [List.length_append, List.length_take, List.length_drop]; omega, b2⟩
  refine ⟨by rw [hl]; exact hfit, fun k hk => ?_, h.rb, ⟨x, ?_, x2⟩, ⟨y, ?_, y2⟩, hen, fun i hi b hb => ?_, hro⟩
  · rw [hl] at hk
    obtain ⟨b, b1, b2, _⟩ := hlen k hk
    rw [b1]
    exact ⟨by simp, fun c hc => by rw [List.mem_singleton.1 hc]; exact b2⟩
  · obtain ⟨b, b1, _, b2⟩ := hlen (F + r % 2) (by omega)
    rw [x1] at b2
    rw [b1, poss_one b2]
  · obtain ⟨b, b1, _, b2⟩ := hlen (F + (r + 1) % 2) (by omega)
    rw [y1] at b2
    rw [b1, poss_one b2]
  · have hi2 := hi
    rw [joinB_len] at hi2
    have hk : F + 2 + i / 64 < d.S.length := by omega
    obtain ⟨c, c1, _, c2⟩ := hlen _ hk
    rw [c1] at hb
    rw [List.mem_singleton.1 hb]
    obtain ⟨a1, a2⟩ := h.len _ hk
    obtain ⟨u, v, t, hu, hv, rfl⟩ := poss_mix a1 c2
    rw [mix_getD u v t _ (a2 u hu) (a2 v hv) (Nat.mod_lt _ (by omega))]
    split
    · exact h.all i hi u hu
    · exact h.all i hi v hv
/-- a write outside of the two descriptions, that keeps the bytes -/
theorem GA.write {F N : Nat} {d : DM} {r e : Nat} {rs : List (List UInt8)} (h : GA F N d r e rs) (k : Nat) (l : List UInt8) (hk : k < d.S.length) (hl : l.length = 64) (hd : k < F ∨ F + 2 ≤ k) (hkeep : ∀ i (hi : i < (joinB rs).length), F + 2 + i / 64 = k → l.getD (i % 64) 0 = (joinB rs)[i]) : GA F N (d.write k l) r e rs := by
  obtain ⟨x, x1, x2⟩ := h.new
  obtain ⟨y, y1, y2⟩ := h.old
  refine ⟨by rw [write_len]; exact h.fit, fun j hj => ?_, h.rb, ⟨x, ?_, x2⟩, ⟨y, ?_, y2⟩, h.en, fun i hi b hb => ?_, h.room⟩
  · rw [write_len] at hj
    rw [sec_write d k l j hk]
    obtain ⟨a1, a2⟩ := h.len j hj
    split
    · refine ⟨by simp, fun b hb => ?_⟩
      rcases List.mem_append.1 hb with hb | hb
      · exact a2 b hb
      · rw [List.mem_singleton.1 hb]; exact hl
    · exact ⟨a1, a2⟩
  · rw [sec_write d k l _ hk, if_neg (by omega)]; exact x1
  · rw [sec_write d k l _ hk, if_neg (by omega)]; exact y1
  · rw [sec_write d k l _ hk] at hb
    split at hb
    · rename_i e
      rcases List.mem_append.1 hb with hb | hb
      · exact h.all i hi b hb
      · rw [List.mem_singleton.1 hb]; exact hkeep i hi e.symm
    · exact h.all i hi b hb
/-- bN of the parts of a description -/
theorem desB_get (r e i : Nat) (hr : r < 256) (he : e < 16777216) : bN (desB r e) 0 = r ∧ bN (desB r e) 63 = r ∧ endF (desB r e) = e ∧ endB (desB r e) = e := by
  have h8 : ∀ n : Nat, (UInt8.ofNat n).toNat = n % 256 := fun n => by rw [UInt8.toNat_ofNat']
  have g0 : (desB r e).getD 0 0 = UInt8.ofNat r := rfl
  have g1 : (desB r e).getD 1 0 = UInt8.ofNat (e / 65536) := rfl
  have g2 : (desB r e).getD 2 0 = UInt8.ofNat (e / 256) := rfl
  have g3 : (desB r e).getD 3 0 = UInt8.ofNat e := rfl
  have g60 : (desB r e).getD 60 0 = UInt8.ofNat e := by simp [desB, headB, footB]
  have g61 : (desB r e).getD 61 0 = UInt8.ofNat (e / 256) := by simp [desB, headB, footB]
  have g62 : (desB r e).getD 62 0 = UInt8.ofNat (e / 65536) := by simp [desB, headB, footB]
  have g63 : (desB r e).getD 63 0 = UInt8.ofNat r := by simp [desB, headB, footB]
  unfold endF endB bN
  rw [g0, g1, g2, g3, g60, g61, g62, g63, h8, h8, h8, h8]
  omega
theorem okS_des (r e : Nat) (hr : r < 256) (he : e < 16777216) (h128 : 128 ≤ e) : okS (desB r e) = true := by
  obtain ⟨a, b, c, d⟩ := desB_get r e 0 hr he
  unfold okS
  rw [a, b, c, d]
  simpa using h128
/-- the disk while a description is being written -/
theorem GA.des {F N : Nat} {d : DM} {r e : Nat} {rs : List (List UInt8)} (h : GA F N d r e rs) (e' : Nat) (qs : List (List UInt8)) (hN : 4 ≤ N) (he : e' = 128 + lenB qs) (hroom : e' ≤ N * 64) (hb : e' < 16777216) (hall : AllOk d F (joinB qs)) :
    (∀ ts, GA F N ((d.write (F + (r + 1) % 256 % 2) (desB ((r + 1) % 256) e')).restart ts) r e rs ∨ GA F N ((d.write (F + (r + 1) % 256 % 2) (desB ((r + 1) % 256) e')).restart ts) ((r + 1) % 256) e' qs) ∧
    GA F N (d.write (F + (r + 1) % 256 % 2) (desB ((r + 1) % 256) e')).flush ((r + 1) % 256) e' qs := by
  have hrb := h.rb
  have hfit := h.fit
  obtain ⟨x, x1, x2, x3, x4⟩ := h.new
  obtain ⟨y, y1, y2, y3⟩ := h.old
  obtain ⟨r', hr'⟩ : ∃ r', r' = (r + 1) % 256 := ⟨_, rfl⟩
  have hrb' : r' < 256 := by omega
  have hp1 : r' % 2 = (r + 1) % 2 := by omega
  have hp2 : (r' + 1) % 2 = r % 2 := by omega
  rw [← hr']
  obtain ⟨g1, g2, g3, g4⟩ := desB_get r' e' 0 hrb' hb
  have gok := okS_des r' e' hrb' hb (by omega)
  obtain ⟨nb, hnb⟩ : ∃ nb, nb = desB r' e' := ⟨_, rfl⟩
  have hnl : nb.length = 64 := by rw [hnb]; exact desB_len _ _
  rw [← hnb] at g1 g2 g3 g4 gok ⊢
  obtain ⟨K, hK⟩ : ∃ K, K = F + r' % 2 := ⟨_, rfl⟩
  rw [← hK]
  have hKl : K < d.S.length := by omega
  have hKy : sec d K = [y] := by rw [hK, hp1]; exact y1
  have hxlen : x.length = 64 := (h.len (F + r % 2) (by omega)).2 x (by rw [x1]; simp)
  have hylen : y.length = 64 := (h.len K hKl).2 y (by rw [hKy]; simp)
  have hx63 : bN x 63 = r := by
    unfold okS at x2
    have := of_decide_eq_true x2
    omega
  -- what is alike in all cases
  have key : ∀ (d' : DM), d'.S.length = d.S.length → (∀ k, k < d.S.length → k ≠ K → ∃ b, sec d' k = [b] ∧ b.length = 64 ∧ Poss (sec d k) b) → ∀ z, sec d' K = [z] → z.length = 64 →
      ((okS z = false ∨ bN z 0 = (r + 255) % 256) ∧ bN z 63 ≠ (r + 1) % 256 → GA F N d' r e rs) ∧ (z = nb → GA F N d' r' e' qs) := by
    intro d' hl hoth z hz hzl
    have hlen' : ∀ k, k < d'.S.length → sec d' k ≠ [] ∧ ∀ b ∈ sec d' k, b.length = 64 := fun k hk => by
      rw [hl] at hk
      by_cases e1 : k = K
      · rw [e1, hz]; exact ⟨by simp, fun b hb => by rw [List.mem_singleton.1 hb]; exact hzl⟩
      · obtain ⟨b, b1, b2, _⟩ := hoth k hk e1
        rw [b1]; exact ⟨by simp, fun c hc => by rw [List.mem_singleton.1 hc]; exact b2⟩
    have hxx : sec d' (F + r % 2) = [x] := by
      obtain ⟨b, b1, _, b2⟩ := hoth (F + r % 2) (by omega) (by omega)
      rw [x1] at b2
      rw [b1, poss_one b2]
    have hdata : ∀ us : List (List UInt8), 128 + lenB us ≤ N * 64 → AllOk d F (joinB us) → AllOk d' F (joinB us) := by
      intro us hus hao i hi b hb
      have hi2 := hi
      rw [joinB_len] at hi2
      have hk : F + 2 + i / 64 < d.S.length := by omega
      obtain ⟨c, c1, _, c2⟩ := hoth _ hk (by omega)
      rw [c1] at hb
      rw [List.mem_singleton.1 hb]
      obtain ⟨a1, a2⟩ := h.len _ hk
      obtain ⟨u, v, t, hu, hv, rfl⟩ := poss_mix a1 c2
      rw [mix_getD u v t _ (a2 u hu) (a2 v hv) (Nat.mod_lt _ (by omega))]
      split
      · exact hao i hi u hu
      · exact hao i hi v hv
    refine ⟨fun hzz => ⟨by rw [hl]; exact hfit, hlen', hrb, ⟨x, hxx, x2, x3, x4⟩, ⟨z, ?_, hzz.1, hzz.2⟩, h.en, hdata rs (by rw [← h.en]; exact h.room) h.all, h.room⟩, fun hzz => ⟨by rw [hl]; exact hfit, hlen', hrb', ⟨z, ?_, ?_, ?_, ?_⟩, ⟨x, ?_, ?_, ?_⟩, he, hdata qs (by rw [← he]; exact hroom) hall, hroom⟩⟩
    · rw [← hp1, ← hK]; exact hz
    · rw [← hK]; exact hz
    · rw [hzz]; exact gok
    · rw [hzz]; exact g1
    · rw [hzz]; exact g3
    · rw [hp2]; exact hxx
    · right; rw [x3]; omega
    · rw [hx63]; omega
  have hsw : ∀ j, sec (d.write K nb) j = if K = j then sec d j ++ [nb] else sec d j := fun j => sec_write d K nb j hKl
  refine ⟨fun ts => ?_, ?_⟩
  · have hl2 : ((d.write K nb).restart ts).S.length = d.S.length := by rw [restart_len, write_len]
    have hoth : ∀ k, k < d.S.length → k ≠ K → ∃ b, sec ((d.write K nb).restart ts) k = [b] ∧ b.length = 64 ∧ Poss (sec d k) b := fun k hk hne => by
      obtain ⟨b, b1, b2⟩ := sec_restart (d.write K nb) ts k (by rw [write_len]; exact hk)
      rw [hsw k, if_neg (fun e => hne e.symm)] at b2
      obtain ⟨a1, a2⟩ := h.len k hk
      obtain ⟨u, v, t, hu, hv, rfl⟩ := poss_mix a1 b2
      have e1 := a2 u hu
      have e2 := a2 v hv
      exact ⟨_, b1, by rw [List.length_append, List.length_take, List.length_drop]; omega, b2⟩
    obtain ⟨z, z1, z2⟩ := sec_restart (d.write K nb) ts K (by rw [write_len]; exact hKl)
    rw [hsw K, if_pos rfl, hKy] at z2
    have z3 : Poss [y, nb] z := z2
    have z4 := poss_two z3
    obtain ⟨t, hz | hz⟩ := z4
    · have hzl : z.length = 64 := by rw [hz, List.length_append, List.length_take, List.length_drop]; omega
      have k1 := key _ hl2 hoth z z1 hzl
      have gz : ∀ i, i < 64 → bN z i = if i < t then bN nb i else bN y i := fun i hi => by
        unfold bN
        rw [hz, mix_getD nb y t i hnl hylen hi]
        split <;> rfl
      by_cases ht0 : t = 0
      · left
        refine k1.1 ?_
        have : z = y := by rw [hz, ht0]; simp
        rw [this]
        exact ⟨y2, y3⟩
      · by_cases ht64 : 64 ≤ t
        · right
          refine k1.2 ?_
          rw [hz, List.take_of_length_le (by omega), List.drop_of_length_le (by omega), List.append_nil]
        · left
          have z0 : bN z 0 = r' := by rw [gz 0 (by omega), if_pos (by omega), g1]
          have z63 : bN z 63 = bN y 63 := by rw [gz 63 (by omega), if_neg (by omega)]
          refine k1.1 ⟨.inl ?_, by rw [z63]; exact y3⟩
          unfold okS
          rw [decide_eq_false]
          rintro ⟨h0, -⟩
          rw [z0, z63] at h0
          exact y3 (by rw [← h0, hr'])
    · right
      exact (key _ hl2 hoth z z1 (by rw [hz]; exact hnl)).2 hz
  · have hl2 : (d.write K nb).flush.S.length = d.S.length := by rw [flush_len, write_len]
    have hoth : ∀ k, k < d.S.length → k ≠ K → ∃ b, sec (d.write K nb).flush k = [b] ∧ b.length = 64 ∧ Poss (sec d k) b := fun k hk hne => by
      obtain ⟨a1, a2⟩ := h.len k hk
      refine ⟨lastB (sec d k), ?_, a2 _ (lastB_mem a1), .inr ⟨_, 0, surv_last _ a1⟩⟩
      rw [sec_flush _ k (by rw [write_len]; exact hk), hsw k, if_neg (fun e => hne e.symm)]
    have hzK : sec (d.write K nb).flush K = [nb] := by
      rw [sec_flush _ K (by rw [write_len]; exact hKl), hsw K, if_pos rfl, hKy]; rfl
    exact (key _ hl2 hoth nb hzK hnl).2 rfl
end Go.Proofs.YthffegfcgmhppaaDoor
namespace Go.Proofs.YthffegfcgmhppaaDoor
set_option linter.unusedSimpArgs false
set_option linter.unusedVariables false
theorem putB_lo (s b : List UInt8) (o i : Nat) (hs : s.length = 64) (ho : o < 64) (hi : i < o) : (putB s b o).getD i 0 = s.getD i 0 := by
  unfold putB
  rw [List.getD_eq_getElem?_getD, List.getD_eq_getElem?_getD, List.getElem?_append_left (by rw [List.length_take]; omega), List.getElem?_take, if_pos hi]
theorem putB_hi (s b : List UInt8) (o i : Nat) (hs : s.length = 64) (ho : o < 64) (h1 : o ≤ i) (h2 : i < o + (b.take (64 - o)).length) : (putB s b o).getD i 0 = b.getD (i - o) 0 := by
  have hl : (s.take o).length = o := by rw [List.length_take]; omega
  unfold putB
  rw [List.getD_eq_getElem?_getD, List.getD_eq_getElem?_getD, List.getElem?_append_right (by rw [hl]; exact h1), hl, List.getElem?_append_left (by omega), List.getElem?_take, if_pos (by rw [List.length_take] at h2; omega)]
theorem wrD_keep (F N : Nat) (rs : List (List UInt8)) (r e : Nat) : ∀ (f : Nat) (d : DM) (p : Nat) (b : List UInt8), GA F N d r e rs → (joinB rs).length ≤ p → 128 + p + b.length ≤ N * 64 → GA F N (wrD F f d (128 + p) b).2 r e rs
  | 0, d, p, b, h, _, _ => h
  | f + 1, d, p, b, h, hp, hr => by
    rw [wrD]
    split
    · exact h
    · rename_i hb
      split
      · rename_i hon
        have hbl : 0 < b.length := List.length_pos_iff.2 hb
        have hfit := h.fit
        obtain ⟨K, hK⟩ : ∃ K, K = F + (128 + p) / 64 := ⟨_, rfl⟩
        have hKl : K < d.S.length := by omega
        have hsl : (lastB (d.S.getD K [])).length = 64 := (h.len K hKl).2 _ (lastB_mem (h.len K hKl).1)
        obtain ⟨n, hn⟩ : ∃ n, n = (b.take (64 - (128 + p) % 64)).length := ⟨_, rfl⟩
        have hnb : n ≤ b.length := by rw [hn, List.length_take]; omega
        rw [← hK, ← hn, Nat.add_assoc]
        have hst := h.write K (putB (lastB (d.S.getD K [])) b ((128 + p) % 64)) hKl (putB_len _ _ _ hsl (Nat.mod_lt _ (by omega))) (.inr (by omega)) (fun i hi hik => by
          rw [putB_lo _ _ _ _ hsl (Nat.mod_lt _ (by omega)) (by omega)]
          have := h.all i hi (lastB (sec d (F + 2 + i / 64))) (lastB_mem (h.len _ (by omega)).1)
          rw [hik] at this
          exact this)
        exact wrD_keep F N rs r e f _ (p + n) (b.drop n) hst (by omega) (by rw [List.length_drop]; omega)
      · exact h
theorem wrD_last (F N : Nat) (rs : List (List UInt8)) (r e : Nat) : ∀ (f : Nat) (d : DM) (l b : List UInt8), GA F N d r e rs → LastOk d F l → (joinB rs).length ≤ l.length → 128 + l.length + b.length ≤ N * 64 → b.length ≤ f → (wrD F f d (128 + l.length) b).1 = 0 → LastOk (wrD F f d (128 + l.length) b).2 F (l ++ b)
  | 0, d, l, b, h, hl, _, _, hf, _ => by
    have : b = [] := List.eq_nil_of_length_eq_zero (by omega)
    rw [this, List.append_nil]
    exact hl
  | f + 1, d, l, b, h, hl, hp, hr, hf, h0 => by
    rw [wrD] at h0 ⊢
    by_cases hb : b = []
    · rw [if_pos hb] at h0 ⊢
      rw [hb, List.append_nil]
      exact hl
    · rw [if_neg hb] at h0 ⊢
      by_cases hon : d.on = true
      · rw [if_pos hon] at h0 ⊢
        have hbl : 0 < b.length := List.length_pos_iff.2 hb
        have hfit := h.fit
        obtain ⟨K, hK⟩ : ∃ K, K = F + (128 + l.length) / 64 := ⟨_, rfl⟩
        have hKl : K < d.S.length := by omega
        have hsl : (lastB (d.S.getD K [])).length = 64 := (h.len K hKl).2 _ (lastB_mem (h.len K hKl).1)
        obtain ⟨o, ho⟩ : ∃ o, o = (128 + l.length) % 64 := ⟨_, rfl⟩
        have ho64 : o < 64 := by omega
        obtain ⟨n, hn⟩ : ∃ n, n = (b.take (64 - o)).length := ⟨_, rfl⟩
        have hnb : n ≤ b.length := by rw [hn, List.length_take]; omega
        have hno : o + n ≤ 64 := by rw [hn, List.length_take]; omega
        have hn0 : 0 < n := by rw [hn, List.length_take]; omega
        rw [← hK, ← ho, ← hn] at h0 ⊢
        obtain ⟨nb, hnbb⟩ : ∃ nb, nb = putB (lastB (d.S.getD K [])) b o := ⟨_, rfl⟩
        rw [← hnbb] at h0 ⊢
        have hnl : nb.length = 64 := by rw [hnbb]; exact putB_len _ _ _ hsl ho64
        have hst : GA F N (d.write K nb) r e rs := h.write K nb hKl hnl (.inr (by omega)) (fun i hi hik => by
          rw [hnbb, putB_lo _ _ _ _ hsl ho64 (by omega)]
          have := h.all i hi (lastB (sec d (F + 2 + i / 64))) (lastB_mem (h.len _ (by omega)).1)
          rw [hik] at this
          exact this)
        have hll : (l ++ b.take n).length = l.length + n := by rw [List.length_append, List.length_take]; omega
        have hlast : LastOk (d.write K nb) F (l ++ b.take n) := by
          intro i hi
          rw [hll] at hi
          rw [sec_write d K nb _ hKl]
          by_cases hil : i < l.length
          · rw [List.getElem_append_left hil]
            by_cases e1 : K = F + 2 + i / 64
            · rw [if_pos e1]
              have : lastB (sec d (F + 2 + i / 64) ++ [nb]) = nb := by unfold lastB; simp
              rw [this, hnbb, putB_lo _ _ _ _ hsl ho64 (by omega)]
              have := hl i hil
              rw [← e1] at this
              exact this
            · rw [if_neg e1]; exact hl i hil
          · have e1 : K = F + 2 + i / 64 := by omega
            rw [if_pos e1]
            have : lastB (sec d (F + 2 + i / 64) ++ [nb]) = nb := by unfold lastB; simp
            rw [this, hnbb, putB_hi _ _ _ _ hsl ho64 (by omega) (by omega), List.getElem_append_right (by omega), List.getElem_take, List.getD_eq_getElem?_getD, show i % 64 - o = i - l.length by omega, List.getElem?_eq_getElem (by omega), Option.getD_some]
        have := wrD_last F N rs r e f (d.write K nb) (l ++ b.take n) (b.drop n) hst hlast (by rw [hll]; omega) (by rw [hll, List.length_drop]; omega) (by rw [List.length_drop]; omega) (by rw [hll, ← Nat.add_assoc]; exact h0)
        rw [hll, ← Nat.add_assoc, List.append_assoc, List.take_append_drop] at this
        exact this
      · rw [if_neg hon] at h0
        simp at h0
theorem wrD_on (F : Nat) : ∀ (f : Nat) (d : DM) (a : Nat) (b : List UInt8), (wrD F f d a b).1 = 10 → (wrD F f d a b).2.on = false
  | 0, d, a, b, h => by simp [wrD] at h
  | f + 1, d, a, b, h => by
    rw [wrD] at h ⊢
    by_cases hb : b = []
    · rw [if_pos hb] at h; simp at h
    · rw [if_neg hb] at h ⊢
      by_cases hon : d.on = true
      · rw [if_pos hon] at h ⊢; exact wrD_on F f _ _ _ h
      · rw [if_neg hon]; simpa using hon
theorem wrD_ok (F : Nat) : ∀ (f : Nat) (d : DM) (M a : Nat) (b : List UInt8), d.Ok M → (∀ k, F + a / 64 ≤ k → k < F + (a + b.length + 63) / 64 → k < d.S.length) → (wrD F f d a b).2.Ok (M + b.length)
  | 0, d, M, a, b, h, _ => h.mono (by omega)
  | f + 1, d, M, a, b, h, hk => by
    rw [wrD]
    split
    · exact h.mono (by omega)
    · rename_i hb
      split
      · have hbl : 0 < b.length := List.length_pos_iff.2 hb
        have hKl : F + a / 64 < d.S.length := hk _ (Nat.le_refl _) (by omega)
        have hm := h.2.2.2 _ (List.getElem_mem hKl)
        have hsl : (lastB (d.S.getD (F + a / 64) [])).length = 64 := by
          rw [List.getD_eq_getElem?_getD, List.getElem?_eq_getElem hKl, Option.getD_some]
          exact hm.2.2 _ (lastB_mem hm.1)
        obtain ⟨n, hn⟩ : ∃ n, n = (b.take (64 - a % 64)).length := ⟨_, rfl⟩
        have hn1 : n ≤ b.length := by rw [hn, List.length_take]; omega
        have hn0 : 0 < n := by rw [hn, List.length_take]; omega
        rw [← hn]
        refine (wrD_ok F f _ (M + 1) _ _ (DM.write_ok h (putB_len _ _ _ hsl (Nat.mod_lt _ (by omega)))) (fun k h1 h2 => by
          rw [write_len]
          rw [List.length_drop] at h2
          exact hk k (by omega) (by omega))).mono ?_
        rw [List.length_drop]
        omega
      · exact h.mono (by omega)
/-- sectors that are not written -/
theorem wrD_other (F : Nat) : ∀ (f : Nat) (d : DM) (a : Nat) (b : List UInt8) (k : Nat), F + (a + b.length) / 64 ≤ d.S.length → (k < F + a / 64 ∨ F + (a + b.length + 63) / 64 ≤ k) → F + (a + b.length + 63) / 64 ≤ d.S.length → sec (wrD F f d a b).2 k = sec d k
  | 0, d, a, b, k, _, _, _ => rfl
  | f + 1, d, a, b, k, h1, h2, h3 => by
    rw [wrD]
    split
    · rfl
    · rename_i hb
      split
      · have hbl : 0 < b.length := List.length_pos_iff.2 hb
        obtain ⟨n, hn⟩ : ∃ n, n = (b.take (64 - a % 64)).length := ⟨_, rfl⟩
        have hn1 : n ≤ b.length := by rw [hn, List.length_take]; omega
        rw [← hn]
        rw [wrD_other F f _ (a + n) (b.drop n) k (by rw [write_len, List.length_drop]; omega) (by rw [List.length_drop]; omega) (by rw [write_len, List.length_drop]; omega)]
        rw [sec_write _ _ _ _ (by omega), if_neg (by omega)]
      · rfl
theorem AllOk.last {F N : Nat} {d : DM} {r e : Nat} {rs : List (List UInt8)} (h : GA F N d r e rs) : LastOk d F (joinB rs) := by
  intro i hi
  have hi2 := hi
  rw [joinB_len] at hi2
  have := h.room
  have := h.en
  have := h.fit
  exact h.all i hi _ (lastB_mem (h.len _ (by omega)).1)
theorem LastOk.flush {d : DM} {F : Nat} {l : List UInt8} (h : LastOk d F l) (hl : F + 2 + (l.length + 63) / 64 ≤ d.S.length) : AllOk d.flush F l := by
  intro i hi x hx
  rw [sec_flush d _ (by omega)] at hx
  rw [List.mem_singleton.1 hx]
  exact h i hi
/-- what is read of it -/
theorem GA.reads {F N : Nat} {d : DM} {r e : Nat} {rs : List (List UInt8)} (h : GA F N d r e rs) (hN : 4 ≤ N) : newOk (lastB (d.S.getD F [])) (lastB (d.S.getD (F + 1) [])) = true ∧ bN (newS (lastB (d.S.getD F [])) (lastB (d.S.getD (F + 1) []))) 0 = r ∧ endF (newS (lastB (d.S.getD F [])) (lastB (d.S.getD (F + 1) []))) = e := by
  obtain ⟨x, x1, x2, x3, x4⟩ := h.new
  obtain ⟨y, y1, y2, y3⟩ := h.old
  have hrb := h.rb
  have hlx : lastB (sec d (F + r % 2)) = x := by rw [x1]; rfl
  have hly : lastB (sec d (F + (r + 1) % 2)) = y := by rw [y1]; rfl
  have hr : r % 2 = 0 ∨ r % 2 = 1 := by omega
  have hlast : bN x 63 = r := by
    unfold okS at x2
    have := of_decide_eq_true x2
    omega
  have hy0 : okS y = true → bN y 0 = bN y 63 := by
    intro h
    unfold okS at h
    exact (of_decide_eq_true h).1
  rcases hr with hr | hr
  · have e1 : F + r % 2 = F := by omega
    have e2 : F + (r + 1) % 2 = F + 1 := by omega
    rw [e1] at hlx
    rw [e2] at hly
    unfold sec at hlx hly
    rw [hlx, hly]
    have hf : firstB x y = true := by
      unfold firstB
      rw [x2, Bool.true_and]
      cases ho : okS y with
      | false => rfl
      | true =>
        rcases y2 with y2 | y2
        · rw [ho] at y2; cases y2
        · simp only [Bool.not_true, Bool.false_or, decide_eq_true_eq]
          rw [x3, y2]; omega
    unfold newOk newS
    rw [hf]
    exact ⟨rfl, x3, x4⟩
  · have e1 : F + r % 2 = F + 1 := by omega
    have e2 : F + (r + 1) % 2 = F := by omega
    rw [e1] at hlx
    rw [e2] at hly
    unfold sec at hlx hly
    rw [hlx, hly]
    have hf : firstB y x = false := by
      unfold firstB
      rw [x2]
      cases ho : okS y with
      | false => rfl
      | true =>
        rcases y2 with y2 | y2
        · rw [ho] at y2; cases y2
        · simp only [Bool.true_and, Bool.not_true, Bool.false_or, decide_eq_false_iff_not]
          rw [x3, y2]; omega
    unfold newOk newS
    rw [hf]
    exact ⟨x2, x3, x4⟩
theorem getD_some (l : List UInt8) (i : Nat) (h : i < l.length) : l[i]? = some (l.getD i 0) := by
  rw [List.getD_eq_getElem?_getD, List.getElem?_eq_getElem h, Option.getD_some]
theorem secsB_get (d : DM) (k n : Nat) (h : ∀ i, i < n → (lastB (d.S.getD (k + i) [])).length = 64) (i : Nat) (hi : i < n * 64) : (secsB d k n)[i]? = some ((lastB (d.S.getD (k + i / 64) [])).getD (i % 64) 0) := by
  induction n with
  | zero => omega
  | succ n ih =>
    have hl := secsB_len d k n (fun i hi => h i (by omega))
    rw [secsB_succ]
    by_cases hlt : i < n * 64
    · rw [List.getElem?_append_left (by rw [hl]; exact hlt)]
      exact ih (fun i hi => h i (by omega)) hlt
    · have hn := h n (by omega)
      rw [List.getElem?_append_right (by rw [hl]; omega), hl, show k + i / 64 = k + n by omega, show i % 64 = i - n * 64 by omega]
      exact getD_some _ _ (by rw [hn]; omega)
theorem GA.bytes {F N : Nat} {d : DM} {r e : Nat} {rs : List (List UInt8)} (h : GA F N d r e rs) (cnt : Nat) (hc : lenB rs ≤ cnt * 64 ∧ cnt * 64 < lenB rs + 64) : (secsB d (F + 2) cnt).take (lenB rs) = joinB rs := by
  have hro := h.room
  have hen := h.en
  have hfit := h.fit
  have h64 : ∀ i, i < cnt → (lastB (d.S.getD (F + 2 + i) [])).length = 64 := fun i hi => (h.len _ (by omega)).2 _ (lastB_mem (h.len _ (by omega)).1)
  apply List.ext_getElem?
  intro i
  rw [List.getElem?_take]
  have hjl := joinB_len rs
  by_cases hi : i < lenB rs
  · rw [if_pos hi, secsB_get d _ cnt h64 i (by omega), List.getElem?_eq_getElem (by rw [hjl]; exact hi)]
    congr 1
    exact AllOk.last h i (by rw [hjl]; exact hi)
  · rw [if_neg hi, List.getElem?_eq_none (by rw [hjl]; omega)]
end Go.Proofs.YthffegfcgmhppaaDoor
namespace Go.Proofs.YthffegfcgmhppaaDoor
set_option linter.unusedSimpArgs false
set_option linter.unusedVariables false
theorem lenB_le_takR (rs : List (List UInt8)) : lenB rs ≤ takR rs := by
  induction rs with
  | nil => exact Nat.le_refl _
  | cons r rs ih => simp only [lenB, takR, List.map_cons, List.sum_cons] at ih ⊢; omega
theorem lenB_app (rs qs : List (List UInt8)) : lenB (rs ++ qs) = lenB rs + lenB qs := by simp [lenB]
theorem length_le_takR (rs : List (List UInt8)) : rs.length ≤ takR rs := by
  induction rs with
  | nil => exact Nat.le_refl _
  | cons r rs ih => simp only [takR, List.map_cons, List.sum_cons, List.length_cons] at ih ⊢; omega
/-- a log between two calls, while the power is on -/
structure Fine (m : LM) (d : DM) : Prop where
  n4 : 4 ≤ m.n ∧ m.n ≤ 200
  syn : m.syn ≤ m.recs.length
  tak : m.tak = takR m.recs
  cap : takR m.recs + 128 ≤ 64 * m.n
  small : ∀ r ∈ m.recs, r.length ≤ 4000
  ga : GA m.frm m.n d m.rnd m.en (m.recs.take m.syn)
  ok : d.Ok 0
/-- what a power failure leaves -/
def Cr (m : LM) (d : DM) (rst : Bool) : Prop := ∀ ts, ∃ r e rs, GA m.frm m.n (d.restart ts) r e rs ∧ ((m.syn ≤ rs.length ∧ rs.length ≤ m.recs.length ∧ rs = m.recs.take rs.length) ∨ (rst = true ∧ rs = []))
theorem Fine.cr {m : LM} {d : DM} (h : Fine m d) (rst : Bool) : Cr m d rst := fun ts => by
  have hs := h.syn
  have hl : (m.recs.take m.syn).length = m.syn := by rw [List.length_take]; omega
  exact ⟨_, _, _, h.ga.restart ts, .inl ⟨by rw [hl]; exact Nat.le_refl _, by rw [hl]; exact hs, by rw [hl]⟩⟩
theorem roomZ_le {n t k : Nat} (h : ¬ roomZ n (t : Int) < (k : Int)) (hk : 0 ≤ (k : Int)) : t + k + 12 + 128 ≤ 64 * n := by
  unfold roomZ at h
  omega
theorem append_fine {m : LM} {d : DM} (h : Fine m d) (r : List UInt8) (on : Bool) (h0 : appE m on r.length = 0) : Fine (appM m on r) d ∧ (appM m on r).recs = m.recs ++ [r] ∧ (appM m on r).syn = m.syn ∧ (appM m on r).frm = m.frm ∧ (appM m on r).n = m.n := by
  have hsy := h.syn
  have he : appM m on r = { m with recs := m.recs ++ [r], tak := m.tak + (r.length + 12) } := by unfold appM; rw [if_pos h0]
  rw [he]
  unfold appE at h0
  split at h0
  · simp at h0
  · rename_i a1
    split at h0
    · simp at h0
    · rename_i a2
      have hr := roomZ_le a2 (by omega)
      have htk := h.tak
      refine ⟨⟨h.n4, by show m.syn ≤ (m.recs ++ [r]).length; rw [List.length_append]; omega, by show m.tak + _ = takR _; rw [takR_snoc, htk], by show takR (m.recs ++ [r]) + 128 ≤ _; rw [takR_snoc, ← htk]; omega, fun q hq => ?_, ?_, h.ok⟩, rfl, rfl, rfl, rfl⟩
      · rcases List.mem_append.1 hq with hq | hq
        · exact h.small q hq
        · rw [List.mem_singleton.1 hq]; omega
      · show GA m.frm m.n d m.rnd m.en ((m.recs ++ [r]).take m.syn)
        rw [List.take_append_of_le_length hsy]
        exact h.ga
theorem appE_on (m : LM) (n : Nat) : appE m true n = rappE m.n m.recs n ∨ m.tak ≠ takR m.recs := by
  by_cases h : m.tak = takR m.recs
  · left
    unfold appE rappE
    rw [h]
    simp
  · exact .inr h
section
variable {m : LM} {d : DM}
theorem Fine.addLen (h : Fine m d) : m.en + (addB m).length = 128 + lenB m.recs := by
  have h1 := h.ga.en
  unfold addB
  rw [joinB_len, h1]
  have : lenB m.recs = lenB (m.recs.take m.syn) + lenB (m.recs.drop m.syn) := by rw [← lenB_app, List.take_append_drop]
  omega
theorem Fine.bounds (h : Fine m d) : lenB m.recs + 128 ≤ 64 * m.n ∧ lenB m.recs ≤ 12800 ∧ m.en ≤ 12800 ∧ m.tak ≤ 12800 ∧ m.recs.length ≤ 12800 := by
  have h1 := lenB_le_takR m.recs
  have h2 := h.cap
  have h3 := h.n4
  have h4 := h.addLen
  have h5 := h.tak
  have h6 := length_le_takR m.recs
  omega
/-- the disk when Sync has written the records -/
theorem Fine.wr (h : Fine m d) : GA m.frm m.n (wrR m d).2 m.rnd m.en (m.recs.take m.syn) ∧ ((wrR m d).1 = 0 → AllOk (wrR m d).2.flush m.frm (joinB m.recs)) ∧ (wrR m d).2.Ok 20000 ∧ (wrR m d).2.S.length = d.S.length ∧ ((wrR m d).1 = 0 ∨ (wrR m d).1 = 10 ∧ (wrR m d).2.on = false) := by
  have hen := h.ga.en
  have hadd := h.addLen
  have hbd := h.bounds
  have hfit := h.ga.fit
  have hn4 := h.n4
  have hj : (joinB (m.recs.take m.syn)).length = lenB (m.recs.take m.syn) := joinB_len _
  have e1 : m.en = 128 + (joinB (m.recs.take m.syn)).length := by rw [hj]; exact hen
  have hlen : (wrR m d).2.S.length = d.S.length := wrD_len _ _ _ _ _
  have hk := wrD_keep m.frm m.n (m.recs.take m.syn) m.rnd m.en (addB m).length d (joinB (m.recs.take m.syn)).length (addB m) h.ga (Nat.le_refl _) (by omega)
  rw [← e1] at hk
  refine ⟨hk, fun h0 => ?_, ?_, hlen, ?_⟩
  · have hl := wrD_last m.frm m.n (m.recs.take m.syn) m.rnd m.en (addB m).length d (joinB (m.recs.take m.syn)) (addB m) h.ga (AllOk.last h.ga) (Nat.le_refl _) (by omega) (Nat.le_refl _) (by rw [← e1]; exact h0)
    rw [← e1] at hl
    have e2 : joinB (m.recs.take m.syn) ++ addB m = joinB m.recs := by unfold addB; rw [← joinB_app, List.take_append_drop]
    rw [e2] at hl
    refine LastOk.flush hl ?_
    rw [joinB_len]
    show _ ≤ (wrR m d).2.S.length
    omega
  · refine (wrD_ok m.frm (addB m).length d 0 m.en (addB m) h.ok (fun k h1 h2 => by omega)).mono ?_
    omega
  · rcases wrD_err m.frm (addB m).length d m.en (addB m) with e | e
    · exact .inl e
    · exact .inr ⟨e, wrD_on _ _ _ _ _ e⟩
theorem des_fine {F N : Nat} {d : DM} {r e : Nat} {rs : List (List UInt8)} (hm : m.frm = F ∧ m.n = N ∧ m.rnd = r) (hga : GA F N d r e rs) (hok : d.Ok 0) (e' : Nat) (qs : List (List UInt8)) (hN : 4 ≤ N) (he : e' = 128 + lenB qs) (hroom : e' ≤ N * 64) (hb : e' < 16777216) (hall : AllOk d F (joinB qs)) :
    ((desR m d e').1 = 0 → GA F N (desR m d e').2.2 ((r + 1) % 256) e' qs ∧ (desR m d e').2.2.Ok 0) ∧
    ((desR m d e').1 ≠ 0 → (desR m d e').2.2.on = false ∧ ∀ ts, GA F N ((desR m d e').2.2.restart ts) r e rs ∨ GA F N ((desR m d e').2.2.restart ts) ((r + 1) % 256) e' qs) := by
  obtain ⟨rfl, rfl, rfl⟩ := hm
  obtain ⟨k1, k2⟩ := hga.des e' qs hN he hroom hb hall
  have hfit := hga.fit
  unfold desR
  by_cases ho : d.on = true
  · rw [if_pos ho]
    by_cases ho1 : (d.write (m.frm + (m.rnd + 1) % 256 % 2) (desB ((m.rnd + 1) % 256) e')).on = true
    · rw [if_pos ho1]
      exact ⟨fun _ => ⟨k2, DM.flush_ok (DM.write_ok hok (desB_len _ _))⟩, fun h => absurd rfl h⟩
    · rw [if_neg ho1]
      exact ⟨fun h => by simp at h, fun _ => ⟨by simpa using ho1, k1⟩⟩
  · rw [if_neg ho]
    exact ⟨fun h => by simp at h, fun _ => ⟨by simpa using ho, fun ts => .inl (hga.restart ts)⟩⟩
theorem desR_m (m : LM) (d : DM) (e : Nat) : (desR m d e).2.1.frm = m.frm ∧ (desR m d e).2.1.n = m.n ∧ (desR m d e).2.1.recs = m.recs ∧ (desR m d e).2.1.syn = m.syn ∧ (desR m d e).2.1.tak = m.tak := by
  unfold desR
  split
  · split
    · exact ⟨rfl, rfl, rfl, rfl, rfl⟩
    · exact ⟨rfl, rfl, rfl, rfl, rfl⟩
  · exact ⟨rfl, rfl, rfl, rfl, rfl⟩
theorem sync_fine (h : Fine m d) : (syncR m d).2.2.S.length = d.S.length ∧ (((syncR m d).1 = 0 ∧ Fine (syncR m d).2.1 (syncR m d).2.2 ∧ (syncR m d).2.1.recs = m.recs ∧ (syncR m d).2.1.syn = m.recs.length ∧ (syncR m d).2.1.frm = m.frm ∧ (syncR m d).2.1.n = m.n) ∨
    ((syncR m d).1 = 10 ∧ (syncR m d).2.1 = m ∧ (syncR m d).2.2.on = false ∧ ∀ rst, Cr m (syncR m d).2.2 rst)) := by
  obtain ⟨w1, w2, w3, w4, w5⟩ := h.wr
  have hsy := h.syn
  have hl : (m.recs.take m.syn).length = m.syn := by rw [List.length_take]; omega
  have hold : ∀ (d' : DM), (∀ ts, GA m.frm m.n (d'.restart ts) m.rnd m.en (m.recs.take m.syn)) → ∀ rst, Cr m d' rst := fun d' hd rst ts => ⟨_, _, _, hd ts, .inl ⟨by rw [hl]; exact Nat.le_refl _, by rw [hl]; exact hsy, by rw [hl]⟩⟩
  obtain ⟨W, hW⟩ : ∃ W, W = wrR m d := ⟨_, rfl⟩
  unfold syncR
  rw [← hW] at w1 w2 w3 w4 w5 ⊢
  rcases w5 with w5 | ⟨w5, w6⟩
  · rw [if_pos w5]
    by_cases ho : W.2.on = true
    · rw [if_pos ho]
      have hbd := h.bounds
      have hadd := h.addLen
      have hn4 := h.n4
      have hok : W.2.flush.Ok 0 := DM.flush_ok w3
      have hall := w2 w5
      obtain ⟨q1, q2⟩ := des_fine (m := m) (F := m.frm) (N := m.n) ⟨rfl, rfl, rfl⟩ w1.flush hok (m.en + (addB m).length) m.recs hn4.1 hadd (by omega) (by omega) hall
      have qe := desR_err m W.2.flush (m.en + (addB m).length)
      have ql := desR_len m W.2.flush (m.en + (addB m).length)
      have qm := desR_m m W.2.flush (m.en + (addB m).length)
      have qo := desR_ok m W.2.flush (m.en + (addB m).length)
      obtain ⟨Q, hQ⟩ : ∃ Q, Q = desR m W.2.flush (m.en + (addB m).length) := ⟨_, rfl⟩
      rw [← hQ] at q1 q2 qe ql qm qo ⊢
      refine ⟨by show Q.2.2.S.length = _; rw [ql, flush_len, w4], ?_⟩
      rcases qe with qe | qe
      · left
        obtain ⟨g1, g2⟩ := q1 qe
        have qo2 := qo qe
        simp only [qe, if_true]
        refine ⟨trivial, ⟨by rw [qm.2.1]; exact hn4, by show m.recs.length ≤ Q.2.1.recs.length; rw [qm.2.2.1]; exact Nat.le_refl _, by show Q.2.1.tak = takR Q.2.1.recs; rw [qm.2.2.1, qm.2.2.2.2]; exact h.tak, by show takR Q.2.1.recs + 128 ≤ 64 * Q.2.1.n; rw [qm.2.2.1, qm.2.1]; exact h.cap, by show ∀ r ∈ Q.2.1.recs, _; rw [qm.2.2.1]; exact h.small, ?_, g2⟩, qm.2.2.1, trivial, qm.1, qm.2.1⟩
        show GA Q.2.1.frm Q.2.1.n Q.2.2 Q.2.1.rnd Q.2.1.en (Q.2.1.recs.take m.recs.length)
        rw [qo2]
        show GA m.frm m.n Q.2.2 ((m.rnd + 1) % 256) (m.en + (addB m).length) (m.recs.take m.recs.length)
        rw [List.take_of_length_le (Nat.le_refl _)]
        exact g1
      · right
        have hne : ¬ Q.1 = 0 := by rw [qe]; omega
        obtain ⟨g1, g2⟩ := q2 hne
        simp only [qe, show ¬ ((10 : Int) = 0) by omega, if_false]
        refine ⟨trivial, trivial, g1, fun rst ts => ?_⟩
        rcases g2 ts with g | g
        · exact ⟨_, _, _, g, .inl ⟨by rw [hl]; exact Nat.le_refl _, by rw [hl]; exact hsy, by rw [hl]⟩⟩
        · exact ⟨_, _, _, g, .inl ⟨hsy, Nat.le_refl _, (List.take_of_length_le (Nat.le_refl _)).symm⟩⟩
    · rw [if_neg ho]
      exact ⟨w4, .inr ⟨rfl, rfl, by simpa using ho, hold _ (fun ts => w1.restart ts)⟩⟩
  · rw [if_neg (by rw [w5]; omega)]
    exact ⟨w4, .inr ⟨rfl, rfl, w6, hold _ (fun ts => w1.restart ts)⟩⟩
theorem reset_fine (h : Fine m d) : (resetR m d).2.2.S.length = d.S.length ∧ (((resetR m d).1 = 0 ∧ Fine (resetR m d).2.1 (resetR m d).2.2 ∧ (resetR m d).2.1.recs = [] ∧ (resetR m d).2.1.syn = 0 ∧ (resetR m d).2.1.frm = m.frm ∧ (resetR m d).2.1.n = m.n) ∨
    ((resetR m d).1 = 10 ∧ (resetR m d).2.1 = m ∧ (resetR m d).2.2.on = false ∧ Cr m (resetR m d).2.2 true)) := by
  have hsy := h.syn
  have hl : (m.recs.take m.syn).length = m.syn := by rw [List.length_take]; omega
  have hn4 := h.n4
  obtain ⟨q1, q2⟩ := des_fine (m := m) (F := m.frm) (N := m.n) ⟨rfl, rfl, rfl⟩ h.ga h.ok 128 [] hn4.1 (by simp [lenB]) (by omega) (by omega) (fun i hi => by simp [joinB] at hi)
  have qe := desR_err m d 128
  have ql := desR_len m d 128
  have qm := desR_m m d 128
  have qo := desR_ok m d 128
  unfold resetR
  obtain ⟨Q, hQ⟩ : ∃ Q, Q = desR m d 128 := ⟨_, rfl⟩
  rw [← hQ] at q1 q2 qe ql qm qo ⊢
  refine ⟨ql, ?_⟩
  rcases qe with qe | qe
  · left
    obtain ⟨g1, g2⟩ := q1 qe
    have qo2 := qo qe
    simp only [qe, if_true]
    refine ⟨trivial, ⟨by rw [qm.2.1]; exact hn4, Nat.le_refl _, rfl, ?_, (fun r hr => by cases hr), ?_, g2⟩, trivial, trivial, qm.1, qm.2.1⟩
    · show takR [] + 128 ≤ 64 * Q.2.1.n
      rw [qm.2.1]
      simp [takR]
      omega
    · show GA Q.2.1.frm Q.2.1.n Q.2.2 Q.2.1.rnd Q.2.1.en ([].take 0)
      rw [qo2]
      exact g1
  · right
    have hne : ¬ Q.1 = 0 := by rw [qe]; omega
    obtain ⟨g1, g2⟩ := q2 hne
    simp only [qe, show ¬ ((10 : Int) = 0) by omega, if_false]
    refine ⟨trivial, trivial, g1, fun ts => ?_⟩
    rcases g2 ts with g | g
    · exact ⟨_, _, _, g, .inl ⟨by rw [hl]; exact Nat.le_refl _, by rw [hl]; exact hsy, by rw [hl]⟩⟩
    · exact ⟨_, _, _, g, .inr ⟨rfl, rfl⟩⟩
end
end Go.Proofs.YthffegfcgmhppaaDoor
namespace Go.Proofs.YthffegfcgmhppaaDoor
open Go.RowKit
set_option linter.unusedSimpArgs false
set_option linter.unusedVariables false
theorem lastB_snoc (s : List (List UInt8)) (l : List UInt8) : lastB (s ++ [l]) = l := by simp [lastB]
theorem sec_len0 {d : DM} {M : Nat} (h : d.Ok M) (k : Nat) (l : List UInt8) (hl : l.length = 64) : (d.write k l).S.length = d.S.length := write_len _ _ _
/-- the disk that Format leaves -/
theorem fmt_ga (f n : Nat) (d : DM) (hfit : f + n ≤ d.S.length) (h4 : 4 ≤ n) (hok : d.Ok 0) : GA f n (((d.write (f + 1) (desB 1 128)).flush.write f (desB 2 128)).flush) 2 128 [] := by
  have o1 : (d.write (f + 1) (desB 1 128)).flush.Ok 0 := DM.flush_ok (DM.write_ok hok (desB_len _ _))
  have o2 : ((d.write (f + 1) (desB 1 128)).flush.write f (desB 2 128)).flush.Ok 0 := DM.flush_ok (DM.write_ok o1 (desB_len _ _))
  have l1 : (d.write (f + 1) (desB 1 128)).S.length = d.S.length := write_len _ _ _
  have l2 : (d.write (f + 1) (desB 1 128)).flush.S.length = d.S.length := by rw [flush_len, l1]
  have l3 : ((d.write (f + 1) (desB 1 128)).flush.write f (desB 2 128)).S.length = d.S.length := by rw [write_len, l2]
  have l4 : ((d.write (f + 1) (desB 1 128)).flush.write f (desB 2 128)).flush.S.length = d.S.length := by rw [flush_len, l3]
  obtain ⟨a0, a1, a2, a3⟩ := desB_get 1 128 0 (by omega) (by omega)
  obtain ⟨b0, b1, b2, b3⟩ := desB_get 2 128 0 (by omega) (by omega)
  have s1 : sec ((d.write (f + 1) (desB 1 128)).flush) (f + 1) = [desB 1 128] := by
    rw [sec_flush _ _ (by omega), sec_write _ _ _ _ (by omega), if_pos rfl, lastB_snoc]
  refine ⟨by rw [l4]; exact hfit, len_of_ok o2, by omega, ⟨desB 2 128, ?_, okS_des 2 128 (by omega) (by omega) (by omega), b0, b2⟩, ⟨desB 1 128, ?_, .inr a0, by rw [a1]; omega⟩, rfl, fun i hi => by simp [joinB] at hi, by omega⟩
  · show sec _ f = _
    rw [sec_flush _ _ (by omega), sec_write _ _ _ _ (by omega), if_pos rfl, lastB_snoc]
  · show sec _ (f + 1) = _
    rw [sec_flush _ _ (by omega), sec_write _ _ _ _ (by omega), if_neg (by omega), s1]
    rfl
def mFresh (f n : Nat) : LM := ⟨f, n, 2, 128, [], 0, 0⟩
theorem fmt_fine (f n : Nat) (d : DM) (hon : d.on = true) (hf : d.fuse = 0) (hfit : f + n ≤ d.S.length) (h4 : 4 ≤ n) (h5 : n ≤ 200) (hok : d.Ok 0) : (fmtR f n d).1 = 0 ∧ (fmtR f n d).2.1 = mFresh f n ∧ Fine (mFresh f n) (fmtR f n d).2.2 ∧ (fmtR f n d).2.2.on = true ∧ (fmtR f n d).2.2.fuse = 0 ∧ (fmtR f n d).2.2.S.length = d.S.length := by
  obtain ⟨e1, e2, e3, e4, e5⟩ := fmtR_on f n d hon hf
  refine ⟨e1, e2, ⟨⟨h4, h5⟩, Nat.le_refl _, rfl, by show takR [] + 128 ≤ 64 * n; simp [takR]; omega, (fun r hr => by cases hr), ?_, ?_⟩, e4, e5, ?_⟩
  · rw [e3]; exact fmt_ga f n d hfit h4 hok
  · rw [e3]; exact DM.flush_ok (DM.write_ok (DM.flush_ok (DM.write_ok hok (desB_len _ _))) (desB_len _ _))
  · rw [e3, flush_len, write_len, flush_len, write_len]
/-- the block of a past -/
def pastO (gp g gl n : Nat) (v : Value) (s : Nat) (r : Bool) : Obj := ⟨fun B w => w.heap[gp]? = some (.cells #[.pointer (some ⟨g, 0, none⟩), .pointer (some ⟨gl, 0, none⟩), .int .i64 (n : Int), v, .int .i64 (s : Int), .bool r] 30 (0, 0)) ∧ B gp, fun {B S w w'} h hk hs => ⟨hk.heap h.1 (hs gp (Array.getElem?_eq_some_iff.1 h.1).1 h.2), h.2⟩⟩
theorem Lv.pastF {w0 w : World} {L : List Obj} {i gp g gl n s : Nat} {v : Value} {r : Bool} (h : Lv w0 w L) (hi : L[i]? = some (pastO gp g gl n v s r)) : gp < w.heap.size ∧ w.cell? ⟨gp, 0, none⟩ = some (.pointer (some ⟨g, 0, none⟩)) ∧ w.cell? ⟨gp, 1, none⟩ = some (.pointer (some ⟨gl, 0, none⟩)) ∧ w.cell? ⟨gp, 2, none⟩ = some (.int .i64 (n : Int)) ∧ w.cell? ⟨gp, 3, none⟩ = some v ∧ w.cell? ⟨gp, 4, none⟩ = some (.int .i64 (s : Int)) ∧ w.cell? ⟨gp, 5, none⟩ = some (.bool r) := by
  obtain ⟨_, h1, -, -, -⟩ := h.get hi
  exact ⟨(Array.getElem?_eq_some_iff.1 h1.1).1, cell_of_row w gp 0 _ _ _ h1.1, cell_of_row w gp 1 _ _ _ h1.1, cell_of_row w gp 2 _ _ _ h1.1, cell_of_row w gp 3 _ _ _ h1.1, cell_of_row w gp 4 _ _ _ h1.1, cell_of_row w gp 5 _ _ _ h1.1⟩
theorem run_buildP (g gl : Nat) (n : Int) (W : World) : (Instr.build 30 #[(0, .pointer (some ⟨g, 0, none⟩)), (1, .pointer (some ⟨gl, 0, none⟩)), (2, .int .i64 n)]).run Tryd.prog W = .ok (.agg #[.pointer (some ⟨g, 0, none⟩), .pointer (some ⟨gl, 0, none⟩), .int .i64 n, .slice none 0 0, .int .i64 0, .bool false]) W := by kernel_rfl
theorem dnew_ok (n : Nat) (h1 : 1 ≤ n) (h2 : n ≤ 4096) : (DM.new n).Ok 0 := DM.new_ok h1 h2
/-- what begin makes of a number -/
def bgN (s : Int) : Nat := 4 + (around s 12).toNat
theorem bgN_bd (s : Int) : 4 ≤ bgN s ∧ bgN s ≤ 15 := by
  have := around_bd s 12 (by omega)
  unfold bgN
  omega
def bgD (n : Nat) : DM := (fmtR 1 n (DM.new (n + 2))).2.2
theorem bg_fine (n : Nat) (h1 : 4 ≤ n) (h2 : n ≤ 15) : (fmtR 1 n (DM.new (n + 2))).1 = 0 ∧ (fmtR 1 n (DM.new (n + 2))).2.1 = mFresh 1 n ∧ Fine (mFresh 1 n) (bgD n) ∧ (bgD n).on = true ∧ (bgD n).fuse = 0 ∧ (bgD n).S.length = n + 2 := by
  have hs : (DM.new (n + 2)).S.length = n + 2 := by simp [DM.new]
  obtain ⟨a, b, c, d, e, f⟩ := fmt_fine 1 n (DM.new (n + 2)) rfl rfl (by rw [hs]; omega) h1 (by omega) (DM.new_ok (by omega) (by omega))
  exact ⟨a, b, c, d, e, f.trans hs⟩
section
variable {w0 w : World} {L : List Obj}
set_option maxRecDepth 100000 in
set_option maxHeartbeats 2000000 in
theorem begin_lv (h : Lv w0 w L) (s : Int) (s1 : -9223372036854775808 ≤ s) (s2 : s ≤ 9223372036854775807) :
    Calls Tryd.prog 4 #[.int .i64 s] w fun e w' => ∃ gp g gl, e = .returned (.pointer (some ⟨gp, 0, none⟩)) ∧ Lv w0 w' (pastO gp g gl (bgN s) (.slice none 0 0) 0 false :: logO gl g (mFresh 1 (bgN s)) :: diskO g (bgD (bgN s)) :: L) := by
  have hA := around_any s 12 w s1 s2 (by omega) (by omega)
  obtain ⟨a, ha, ha2⟩ := around_nat s 12 (by omega)
  rw [ha] at hA
  obtain ⟨n, hn⟩ : ∃ n, n = bgN s := ⟨_, rfl⟩
  have hna : (n : Int) = 4 + (a : Int) := by rw [hn]; unfold bgN; rw [ha]; omega
  have hnb := bgN_bd s
  rw [← hn] at hnb ⊢
  have hn1 := hnb.1
  have hn2 := hnb.2
  have hw1 : IntKind.i64.wrap (4 + (a : Int)) = (n : Int) := by rw [i64_id _ (by omega) (by omega)]; omega
  have hw2 : IntKind.i64.wrap ((n : Int) + 2) = ((n + 2 : Nat) : Int) := by rw [i64_id _ (by omega) (by omega)]; omega
  obtain ⟨f1, f2, f3, f4, f5, f6⟩ := bg_fine n hn1 hn2
  have hs : (DM.new (n + 2)).S.length = n + 2 := by simp [DM.new]
  have hv : validB (DM.new (n + 2)).S.length ((1 : Nat) : Int) (n : Int) = true := by unfold validB; rw [hs]; apply decide_eq_true; omega
  have HA := Lib.hid hA
  have HF : Hid (∀ u g, Lv w0 u (diskO g (DM.new (n + 2)) :: L) → Calls Tryd.prog 23 #[.pointer (some ⟨g, 0, none⟩), .int .i64 1, .int .i64 (n : Int)] u fun x w' => ∃ gl, x = .returned (.tuple #[.pointer (some ⟨gl, 0, none⟩), .int .i64 0]) ∧ Lv w0 w' (logO gl g (mFresh 1 n) :: diskO g (bgD n) :: L)) := Lib.hid (fun u g hl => by
    refine (format_ok hl (j := 0) rfl 1 n (by omega) (by omega) hv ((DM.new_ok (by omega) (by omega)).mono (by omega))).mono ?_
    rintro x w' (⟨-, gl, hx, hl2⟩ | ⟨he, -⟩)
    · rw [f2] at hl2; exact ⟨gl, hx, hl2⟩
    · rw [f1] at he; exact absurd he (by omega))
  have HL0 := Lib.hid h
  have hb1 := run_buildP
  obtain ⟨N2, hN2⟩ : ∃ N2, N2 = n + 2 := ⟨_, rfl⟩
  rw [← hN2] at hw2 HF
  have HN2 : Hid (1 ≤ N2 ∧ N2 ≤ 4096) := Lib.hid (by omega)
  clear h hA hn ha ha2 hna hnb f1 f2 f3 f4 f5 f6 hs hv hN2
  go_enter Tryd.func4, Tryd.ntmps4
  go_upto_region 8 with (first
    | (go_at_call 6; refine HA.out.mono ?_; rintro e w1 ⟨rfl, rfl⟩)
    | (have x1 := HL0.out; go_at_call 22; refine (made4_lv x1 N2 HN2.out.1 HN2.out.2).mono ?_; rintro e w1 ⟨g, rfl, hl⟩; have HL1 := Lib.hid hl; clear hl x1 HL0)
    | (have x1 := HL1.out; go_at_call 23; refine (HF.out _ _ x1).mono ?_; rintro e w2 ⟨gl, rfl, hl⟩; have HL2 := Lib.hid hl; clear hl x1 HL1))
  go_wp2_with fail
  go_ret
  refine ⟨_, g, gl, rfl, HL2.out.cons ((Below.refl _ _).alloc (Nat.le_refl _) _) (B := fun x => x = w2.heap.size) ⟨heap_new rfl, rfl⟩ (fun x hx => by subst hx; exact ⟨Nat.le_refl _, by rw [size_alloc1]; omega⟩)⟩
end
end Go.Proofs.YthffegfcgmhppaaDoor
namespace Go.Proofs.YthffegfcgmhppaaDoor
open Go.RowKit
set_option linter.unusedSimpArgs false
set_option linter.unusedVariables false
theorem lenB_facts (rs : List (List UInt8)) : (∀ r ∈ rs, r.length + 2 ≤ lenB rs) ∧ rs.length * 2 ≤ lenB rs ∧ takR rs = lenB rs + 10 * rs.length := by
  induction rs with
  | nil => exact ⟨(fun r hr => by cases hr), Nat.le_refl _, rfl⟩
  | cons q rs ih =>
    obtain ⟨i1, i2, i3⟩ := ih
    have e1 : lenB (q :: rs) = q.length + 2 + lenB rs := by simp [lenB]
    have e2 : takR (q :: rs) = q.length + 12 + takR rs := by simp [takR]
    refine ⟨fun r hr => ?_, by rw [e1, List.length_cons]; omega, by rw [e1, e2, List.length_cons, i3]; omega⟩
    rw [e1]
    rcases List.mem_cons.1 hr with rfl | hr
    · omega
    · have := i1 r hr; omega
theorem wrD_nf (F : Nat) : ∀ (f : Nat) (d : DM) (a : Nat) (b : List UInt8), d.on = true → d.fuse = 0 → (wrD F f d a b).1 = 0 ∧ (wrD F f d a b).2.on = true ∧ (wrD F f d a b).2.fuse = 0
  | 0, d, a, b, h1, h2 => ⟨rfl, h1, h2⟩
  | f + 1, d, a, b, h1, h2 => by
    rw [wrD]
    split
    · exact ⟨rfl, h1, h2⟩
    · exact wrD_nf F f _ _ _ ((nf_write h2).1.trans h1) (nf_write h2).2
theorem sync_nf (m : LM) (d : DM) (h1 : d.on = true) (h2 : d.fuse = 0) : (syncR m d).1 = 0 ∧ (syncR m d).2.2.on = true ∧ (syncR m d).2.2.fuse = 0 := by
  obtain ⟨a, b, c⟩ := wrD_nf m.frm (addB m).length d m.en (addB m) h1 h2
  have a' : (wrR m d).1 = 0 := a
  have b' : (wrR m d).2.on = true := b
  have c' : (wrR m d).2.fuse = 0 := c
  obtain ⟨x1, x2, x3, x4, x5⟩ := desR_nf m (wrR m d).2.flush (m.en + (addB m).length) ((nf_flush c').1.trans b') (nf_flush c').2
  unfold syncR
  rw [if_pos a', if_pos b']
  exact ⟨x1, x4, x5⟩
theorem reset_nf (m : LM) (d : DM) (h1 : d.on = true) (h2 : d.fuse = 0) : (resetR m d).1 = 0 ∧ (resetR m d).2.2.on = true ∧ (resetR m d).2.2.fuse = 0 := by
  obtain ⟨x1, x2, x3, x4, x5⟩ := desR_nf m d 128 h1 h2
  exact ⟨x1, x4, x5⟩
section
variable {w0 w : World} {L : List Obj}
theorem Lv.recsR (h : Lv w0 w L) {i : Nat} {v : Value} {rs : List (List UInt8)} (hi : L[i]? = some (recsO v rs)) : ∃ D a c, v = .slice a rs.length c ∧ RdR D w a rs.length c rs := by
  obtain ⟨B, ⟨k, Bf, h1, h2, h3⟩, -, -, -⟩ := h.get hi
  obtain ⟨a, c, rfl, -, -⟩ := h1.shape
  exact ⟨B, a, c, rfl, h1.rd (D := B) (fun x hx => (h2 x hx).1) h3⟩
def mOpen (F n r : Nat) (rs : List (List UInt8)) : LM := ⟨F, n, r, 128 + lenB rs, rs, rs.length, takR rs⟩
theorem open_ga (h : Lv w0 w L) {g j : Nat} {d : DM} (hj : L[j]? = some (diskO g d)) {F n r e : Nat} {rs : List (List UInt8)} (hga : GA F n d r e rs) (hF : F ≤ 4096) (h4 : 4 ≤ n) (h5 : n ≤ 200) (ho : d.on = true) :
    Calls Tryd.prog 15 #[.pointer (some ⟨g, 0, none⟩), .int .i64 (F : Int), .int .i64 (n : Int)] w fun x w' => ∃ gl, x = .returned (.tuple #[.pointer (some ⟨gl, 0, none⟩), .int .i64 0]) ∧ Lv w0 w' (logO gl g (mOpen F n r rs) :: L) := by
  obtain ⟨g1, g2, g3⟩ := hga.reads h4
  obtain ⟨b1, b2, b3⟩ := lenB_facts rs
  have hfit := hga.fit
  have hen := hga.en
  have hroom := hga.room
  have hv : validB d.S.length (F : Int) (n : Int) = true := by unfold validB; apply decide_eq_true; omega
  have hcn : lenB rs ≤ (lenB rs + 63) / 64 * 64 ∧ (lenB rs + 63) / 64 * 64 < lenB rs + 64 := by omega
  have hb := hga.bytes ((lenB rs + 63) / 64) hcn
  have := open_ok h hj F n hF (by omega) hv ho rs ((lenB rs + 63) / 64) ⟨g1, by rw [g3, hen]⟩ (by omega) hcn hb (fun q hq => by have := b1 q hq; omega) (by omega) (by omega)
  rw [g2] at this
  exact this
theorem open_fine {d : DM} {F n r e : Nat} {rs : List (List UInt8)} (hga : GA F n d r e rs) (h4 : 4 ≤ n) (h5 : n ≤ 200) (hok : d.Ok 0) (hcap : takR rs + 128 ≤ 64 * n) (hsm : ∀ q ∈ rs, q.length ≤ 4000) : Fine (mOpen F n r rs) d := by
  refine ⟨⟨h4, h5⟩, Nat.le_refl _, rfl, hcap, hsm, ?_, hok⟩
  show GA F n d r (128 + lenB rs) (rs.take rs.length)
  rw [List.take_of_length_le (Nat.le_refl _), ← hga.en]
  exact hga
end
end Go.Proofs.YthffegfcgmhppaaDoor
namespace Go.Proofs.YthffegfcgmhppaaDoor
open Go.RowKit
set_option linter.unusedSimpArgs false
set_option linter.unusedVariables false
section
variable {w0 w : World} {L : List Obj} {i gp g gl n s : Nat} {v : Value} {r : Bool}
theorem Lv.pastFz (h : Lv w0 w L) (hi : L[i]? = some (pastO gp g gl n v s r)) (j : Nat) : w.frozen? ⟨gp, j, none⟩ = false := by
  obtain ⟨_, h1, -, -, -⟩ := h.get hi
  exact frozen_of_row w gp j _ _ h1.1
theorem Lv.pastPut (h : Lv w0 w L) (hi : L[i]? = some (pastO gp g gl n v s r)) (j : Nat) (u : Value) (o : Obj)
    (ho : ∀ w', w'.heap[gp]? = some (.cells ((#[.pointer (some ⟨g, 0, none⟩), .pointer (some ⟨gl, 0, none⟩), .int .i64 (n : Int), v, .int .i64 (s : Int), .bool r] : Array Value).setIfInBounds j u) 30 (0, 0)) → o.at' (fun x => x = gp) w') :
    Lv w0 (w.setCell ⟨gp, j, none⟩ u) (L.set i o) := by
  obtain ⟨B, h1, hlt, -, hset⟩ := h.get hi
  have hg := (Array.getElem?_eq_some_iff.1 h1.1).1
  refine hset _ o (fun x => x = gp) (ho _ (heap_setCell_same w gp j _ _ u h1.1)) ((Kept.refl B w).setCell (p := ⟨gp, j, none⟩) (fun _ => h1.2) u) (fun x hx => .inl (by rw [hx]; exact h1.2)) (fun x hx => ?_)
  rw [hx]
  exact Nat.lt_of_lt_of_le hg ((Kept.refl (fun _ => True) w).setCell (p := ⟨gp, j, none⟩) (fun _ => trivial) u).size
theorem Lv.pastAll (h : Lv w0 w L) (hi : L[i]? = some (pastO gp g gl n v s r)) (u : Value) : Lv w0 (w.setCell ⟨gp, 3, none⟩ u) (L.set i (pastO gp g gl n u s r)) :=
  h.pastPut hi 3 u _ (fun w' hw => ⟨hw, rfl⟩)
theorem Lv.pastSyn (h : Lv w0 w L) (hi : L[i]? = some (pastO gp g gl n v s r)) (u : Nat) : Lv w0 (w.setCell ⟨gp, 4, none⟩ (.int .i64 (u : Int))) (L.set i (pastO gp g gl n v u r)) :=
  h.pastPut hi 4 _ _ (fun w' hw => ⟨hw, rfl⟩)
theorem Lv.pastRst (h : Lv w0 w L) (hi : L[i]? = some (pastO gp g gl n v s r)) (u : Bool) : Lv w0 (w.setCell ⟨gp, 5, none⟩ (.bool u)) (L.set i (pastO gp g gl n v s u)) :=
  h.pastPut hi 5 _ _ (fun w' hw => ⟨hw, rfl⟩)
theorem Lv.pastLog (h : Lv w0 w L) (hi : L[i]? = some (pastO gp g gl n v s r)) (u : Nat) : Lv w0 (w.setCell ⟨gp, 1, none⟩ (.pointer (some ⟨u, 0, none⟩))) (L.set i (pastO gp g u n v s r)) :=
  h.pastPut hi 1 _ _ (fun w' hw => ⟨hw, rfl⟩)
end
/-- what happens to the sectors outside of a region: nothing, or they are flushed; all sectors stay sectors -/
structure Moved (F n : Nat) (d d' : DM) : Prop where
  len : d'.S.length = d.S.length
  out : ∀ k, k < F ∨ F + n ≤ k → sec d' k = sec d k ∨ sec d' k = [lastB (sec d k)]
  ok : ∀ k, k < d'.S.length → sec d' k ≠ [] ∧ ∀ b ∈ sec d' k, b.length = 64
theorem Moved.refl {F n M : Nat} {d : DM} (h : d.Ok M) : Moved F n d d := ⟨rfl, fun _ _ => .inl rfl, len_of_ok h⟩
theorem Moved.trans {F n : Nat} {d d' d'' : DM} (h : Moved F n d d') (h2 : Moved F n d' d'') : Moved F n d d'' := by
  refine ⟨h2.len.trans h.len, fun k hk => ?_, h2.ok⟩
  rcases h.out k hk with a | a <;> rcases h2.out k hk with b | b
  · exact .inl (b.trans a)
  · exact .inr (by rw [b, a])
  · exact .inr (b.trans a)
  · exact .inr (by rw [b, a]; rfl)
theorem lens_write {d : DM} (h : ∀ k, k < d.S.length → sec d k ≠ [] ∧ ∀ b ∈ sec d k, b.length = 64) (k : Nat) (l : List UInt8) (hk : k < d.S.length) (hl : l.length = 64) : ∀ j, j < (d.write k l).S.length → sec (d.write k l) j ≠ [] ∧ ∀ b ∈ sec (d.write k l) j, b.length = 64 := by
  intro j hj
  rw [write_len] at hj
  rw [sec_write d k l j hk]
  obtain ⟨a1, a2⟩ := h j hj
  split
  · refine ⟨by simp, fun b hb => ?_⟩
    rcases List.mem_append.1 hb with hb | hb
    · exact a2 b hb
    · rw [List.mem_singleton.1 hb]; exact hl
  · exact ⟨a1, a2⟩
theorem lens_flush {d : DM} (h : ∀ k, k < d.S.length → sec d k ≠ [] ∧ ∀ b ∈ sec d k, b.length = 64) : ∀ j, j < d.flush.S.length → sec d.flush j ≠ [] ∧ ∀ b ∈ sec d.flush j, b.length = 64 := by
  intro j hj
  rw [flush_len] at hj
  rw [sec_flush d j hj]
  obtain ⟨a1, a2⟩ := h j hj
  exact ⟨by simp, fun b hb => by rw [List.mem_singleton.1 hb]; exact a2 _ (lastB_mem a1)⟩
theorem Moved.write {F n : Nat} {d d' : DM} (h : Moved F n d d') (k : Nat) (l : List UInt8) (hk : k < d'.S.length) (hl : l.length = 64) (h1 : F ≤ k ∧ k < F + n) : Moved F n d (d'.write k l) :=
  h.trans ⟨write_len _ _ _, fun j hj => .inl (by rw [sec_write d' k l j hk, if_neg (by omega)]), lens_write h.ok k l hk hl⟩
theorem Moved.flush {F n : Nat} {d d' : DM} (h : Moved F n d d') : Moved F n d d'.flush := by
  refine h.trans ⟨flush_len _, fun j hj => ?_, lens_flush h.ok⟩
  by_cases hl : j < d'.S.length
  · exact .inr (sec_flush d' j hl)
  · exact .inl (by rw [sec_out (by rw [flush_len]; omega), sec_out (by omega)])
theorem des_moved {F n : Nat} {d d' : DM} {m : LM} (h : Moved F n d d') (hm : m.frm = F) (hfit : F + n ≤ d.S.length) (h4 : 4 ≤ n) (e : Nat) : Moved F n d (desR m d' e).2.2 := by
  subst hm
  unfold desR
  have hl := h.len
  have hw := h.write (m.frm + (m.rnd + 1) % 256 % 2) (desB ((m.rnd + 1) % 256) e) (by omega) (desB_len _ _) (by omega)
  split
  · split
    · exact hw.flush
    · exact hw
  · exact h
theorem reset_moved {m : LM} {d : DM} (h : Fine m d) : Moved m.frm m.n d (resetR m d).2.2 := by
  have hd := des_moved (Moved.refl (F := m.frm) (n := m.n) h.ok) rfl h.ga.fit h.n4.1 128
  unfold resetR
  split <;> exact hd
theorem wr_moved {m : LM} {d : DM} (h : Fine m d) : Moved m.frm m.n d (wrR m d).2 := by
  obtain ⟨w1, w2, w3, w4, w5⟩ := h.wr
  have hadd := h.addLen
  have hen := h.ga.en
  have hbd := h.bounds
  have hfit := h.ga.fit
  have hn4 := h.n4
  refine ⟨w4, fun k hk => .inl ?_, len_of_ok w3⟩
  exact wrD_other m.frm (addB m).length d m.en (addB m) k (by omega) (by omega) (by omega)
theorem sync_moved {m : LM} {d : DM} (h : Fine m d) : Moved m.frm m.n d (syncR m d).2.2 := by
  have hw := wr_moved h
  have hf := hw.flush
  have hd := des_moved hf rfl h.ga.fit h.n4.1 (m.en + (addB m).length)
  unfold syncR
  split
  · split
    · exact hd
    · exact hw
  · exact hw
theorem GA.moved {F n F2 n2 : Nat} {d d' : DM} {r e : Nat} {rs : List (List UInt8)} (h : GA F n d r e rs) (hn : 4 ≤ n) (hm : Moved F2 n2 d d') (ha : F + n ≤ F2 ∨ F2 + n2 ≤ F) : GA F n d' r e rs := by
  obtain ⟨x, x1, x2⟩ := h.new
  obtain ⟨y, y1, y2⟩ := h.old
  have hro := h.room
  have hen := h.en
  have hfit := h.fit
  refine ⟨by rw [hm.len]; exact hfit, hm.ok, h.rb, ⟨x, ?_, x2⟩, ⟨y, ?_, y2⟩, hen, fun i hi b hb => ?_, hro⟩
  · rcases hm.out (F + r % 2) (by omega) with a | a
    · rw [a, x1]
    · rw [a, x1]; rfl
  · rcases hm.out (F + (r + 1) % 2) (by omega) with a | a
    · rw [a, y1]
    · rw [a, y1]; rfl
  · have hi2 := hi
    rw [joinB_len] at hi2
    rcases hm.out (F + 2 + i / 64) (by omega) with a | a
    · rw [a] at hb; exact h.all i hi b hb
    · rw [a] at hb
      rw [List.mem_singleton.1 hb]
      exact h.all i hi _ (lastB_mem (h.len _ (by omega)).1)
/-- a past between two acts: the power may be off -/
structure Past (FR DS n : Nat) (m : LM) (d : DM) (rst : Bool) : Prop where
  frm : m.frm = FR
  n_ : m.n = n
  len : d.S.length = DS
  fit : FR + n ≤ DS ∧ DS ≤ 4096
  n4 : 4 ≤ n ∧ n ≤ 15
  live : d.on = true → Fine m d
  cr : Cr m d rst
  cap : takR m.recs + 128 ≤ 64 * n
  small : ∀ q ∈ m.recs, q.length ≤ 4000
  syn : m.syn ≤ m.recs.length
theorem Fine.past {FR DS n : Nat} {m : LM} {d : DM} (h : Fine m d) (h1 : m.frm = FR) (h2 : m.n = n) (h3 : d.S.length = DS) (hft : FR + n ≤ DS ∧ DS ≤ 4096) (h4 : 4 ≤ n ∧ n ≤ 15) (rst : Bool) : Past FR DS n m d rst :=
  ⟨h1, h2, h3, hft, h4, fun _ => h, h.cr rst, by rw [← h2]; exact h.cap, h.small, h.syn⟩
theorem Past.append {FR DS n : Nat} {m : LM} {d : DM} {rst : Bool} (h : Past FR DS n m d rst) (hon : d.on = true) (r : List UInt8) (h0 : appE m true r.length = 0) : Past FR DS n (appM m true r) d rst ∧ (appM m true r).recs = m.recs ++ [r] ∧ (appM m true r).syn = m.syn := by
  obtain ⟨a, b, c, e, f⟩ := append_fine (h.live hon) r true h0
  exact ⟨a.past (e.trans h.frm) (f.trans h.n_) h.len h.fit h.n4 rst, b, c⟩
theorem Past.off {FR DS n : Nat} {m : LM} {d d' : DM} {rst rst' : Bool} (h : Past FR DS n m d rst) (hl : d'.S.length = d.S.length) (ho : d'.on = false) (hc : Cr m d' rst') : Past FR DS n m d' rst' :=
  ⟨h.frm, h.n_, hl.trans h.len, h.fit, h.n4, (fun e => by rw [ho] at e; cases e), hc, h.cap, h.small, h.syn⟩
theorem Past.sync {FR DS n : Nat} {m : LM} {d : DM} {rst : Bool} (h : Past FR DS n m d rst) (hon : d.on = true) :
    ((syncR m d).1 = 0 ∧ Past FR DS n (syncR m d).2.1 (syncR m d).2.2 rst ∧ (syncR m d).2.1.recs = m.recs ∧ (syncR m d).2.1.syn = m.recs.length) ∨
    ((syncR m d).1 = 10 ∧ (syncR m d).2.1 = m ∧ (syncR m d).2.2.on = false ∧ Past FR DS n m (syncR m d).2.2 rst) := by
  obtain ⟨z1, ⟨a, b, c, e, f, k⟩ | ⟨a, b, c, e⟩⟩ := sync_fine (h.live hon)
  · exact .inl ⟨a, b.past (f.trans h.frm) (k.trans h.n_) (z1.trans h.len) h.fit h.n4 rst, c, e⟩
  · exact .inr ⟨a, b, c, h.off z1 c (e rst)⟩
theorem Past.reset {FR DS n : Nat} {m : LM} {d : DM} {rst : Bool} (h : Past FR DS n m d rst) (hon : d.on = true) :
    ((resetR m d).1 = 0 ∧ Past FR DS n (resetR m d).2.1 (resetR m d).2.2 false ∧ (resetR m d).2.1.recs = [] ∧ (resetR m d).2.1.syn = 0) ∨
    ((resetR m d).1 = 10 ∧ (resetR m d).2.1 = m ∧ (resetR m d).2.2.on = false ∧ Past FR DS n m (resetR m d).2.2 true) := by
  obtain ⟨z1, ⟨a, b, c, e, f, k⟩ | ⟨a, b, c, e⟩⟩ := reset_fine (h.live hon)
  · exact .inl ⟨a, b.past (f.trans h.frm) (k.trans h.n_) (z1.trans h.len) h.fit h.n4 false, c, e⟩
  · exact .inr ⟨a, b, c, h.off z1 c e⟩
theorem Past.sync_moved {FR DS n : Nat} {m : LM} {d : DM} {rst : Bool} (h : Past FR DS n m d rst) (hon : d.on = true) : Moved FR n d (syncR m d).2.2 := by
  have := _root_.Go.Proofs.YthffegfcgmhppaaDoor.sync_moved (h.live hon)
  rw [h.frm, h.n_] at this
  exact this
theorem Past.reset_moved {FR DS n : Nat} {m : LM} {d : DM} {rst : Bool} (h : Past FR DS n m d rst) (hon : d.on = true) : Moved FR n d (resetR m d).2.2 := by
  have := _root_.Go.Proofs.YthffegfcgmhppaaDoor.reset_moved (h.live hon)
  rw [h.frm, h.n_] at this
  exact this
section
variable {w0 w : World} {L : List Obj} {FR DS gl g i j n : Nat} {m : LM} {d : DM} {rst : Bool}
theorem Past.sync_lv (hc : Past FR DS n m d rst) (hon : d.on = true) (h : Lv w0 w L) (hi : L[i]? = some (logO gl g m)) (hj : L[j]? = some (diskO g d)) (hij : i ≠ j) :
    Calls Tryd.prog 12 #[.pointer (some ⟨gl, 0, none⟩)] w fun x w' => x = .returned (.int .i64 (syncR m d).1) ∧ Lv w0 w' ((L.set j (diskO g (syncR m d).2.2)).set i (logO gl g (syncR m d).2.1)) := by
  have hf := hc.live hon
  have hb := hf.bounds
  have h0 := hc.n4
  have h1 := hc.frm
  have h2 := hc.n_
  have h3 := hc.len
  have h9 := hc.fit
  have h4 := hf.addLen
  obtain ⟨b1, b2, b3⟩ := lenB_facts m.recs
  exact Go.Proofs.YthffegfcgmhppaaDoor.sync_lv h hi hj hij hf.ga.rb (by rw [h3, h1]; omega) (hf.ok.mono (by omega)) hf.syn (fun r hr => by have := b1 r hr; omega) (by omega) (by omega) (by rw [h3, h1]; omega)
theorem Past.bd (h : Past FR DS n m d rst) : m.recs.length ≤ 100000 ∧ (∀ q ∈ m.recs, q.length ≤ 1000000) ∧ takR m.recs ≤ 1000000 := by
  have h1 := h.cap
  have h2 := h.n4
  have h3 := length_le_takR m.recs
  exact ⟨by omega, fun q hq => by have := h.small q hq; omega, by omega⟩
end
end Go.Proofs.YthffegfcgmhppaaDoor
namespace Go.Proofs.YthffegfcgmhppaaDoor
open Go.RowKit
set_option linter.unusedSimpArgs false
set_option linter.unusedVariables false
/-- the states of Bytes -/
def stB (s : Int) : Nat → Int
  | 0 => bits BinOp.or IntKind.u32 (s % 4294967296) 1
  | i + 1 => (stB s i * 1664525 + 1013904223) % 4294967296
def bytesB (n : Nat) (s : Int) : List UInt8 := (List.range n).map fun i => UInt8.ofNat (stB s (i + 1) / 16777216).toNat
theorem bytesB_len (n : Nat) (s : Int) : (bytesB n s).length = n := by simp [bytesB]
theorem bytesB_succ (n : Nat) (s : Int) : bytesB (n + 1) s = bytesB n s ++ [UInt8.ofNat (stB s (n + 1) / 16777216).toNat] := by simp [bytesB, List.range_succ]
end Go.Proofs.YthffegfcgmhppaaDoor
namespace Go.Proofs.YthffegfcgmhppaaDoor
open Go.RowKit
set_option linter.unusedSimpArgs false
set_option linter.unusedVariables false
theorem run_mkB (n : Nat) (hn : n ≤ 1000000) (W : World) :
    (Instr.makeSlice 34 (.int .i64 (n : Int)) (.int .i64 (n : Int))).run Tryd.prog W = .ok (.slice (some ⟨W.heap.size, 0, none⟩) n n) (W.alloc (.cells (madeCells #[.int .u8 0] n) 5)) := by
  obtain ⟨i0, hi, hz0, hz1, hz2⟩ := info_parts info5
  have h := run_make (P := Tryd.prog) W 34 5 i0 (.int .u8 0) Tryd.underlying34 hi hz0 .i64 .i64 (n : Int) (n : Int) (by omega) (Int.le_refl _) (by rw [hz2]; omega) (by omega)
  rw [h, hz1]
  simp [Value.cells]
theorem madeB_vals (n : Nat) : madeCells #[.int .u8 0] n = (vals (List.replicate n 0)).toArray := by
  apply Array.ext
  · rw [size_madeCells, List.size_toArray, vals_len, List.length_replicate]
  · intro i h1 h2
    simp [madeCells, vals, Nat.mod_one]
theorem Bs.made {w : World} (n : Nat) (hn : n ≤ 1000000) : Bs (fun b => b = w.heap.size) (w.alloc (.cells (madeCells #[.int .u8 0] n) 5)) (some ⟨w.heap.size, 0, none⟩) n n (List.replicate n 0) := by
  have h := bs_block (w := w.alloc (.cells (madeCells #[.int .u8 0] n) 5)) (g := w.heap.size) (l := List.replicate n 0) (t := 5) (by rw [← madeB_vals]; exact heap_new rfl) (by rw [List.length_replicate]; unfold maxLen; omega)
  rwa [List.length_replicate] at h
def lf0 : DM := DM.new 104
def lf1 : DM := (fmtR 0 4 lf0).2.2
def lf2 : DM := (fmtR 4 100 lf1).2.2
theorem lf1_e : (fmtR 0 4 lf0).1 = 0 := by kernel_rfl
theorem lf1_m : (fmtR 0 4 lf0).2.1 = ⟨0, 4, 2, 128, [], 0, 0⟩ := by kernel_rfl
theorem lf1_on : lf1.on = true := by kernel_rfl
theorem lf1_len : lf1.S.length = 104 := by kernel_rfl
theorem lf2_e : (fmtR 4 100 lf1).1 = 0 := by kernel_rfl
theorem lf2_m : (fmtR 4 100 lf1).2.1 = ⟨4, 100, 2, 128, [], 0, 0⟩ := by kernel_rfl
theorem lf2_on : lf2.on = true := by kernel_rfl
theorem lf1_bad : newOk (lastB (lf1.S.getD 4 [])) (lastB (lf1.S.getD 5 [])) = false := by kernel_rfl
theorem lf2_len : lf2.S.length = 104 := by kernel_rfl
theorem fmtR_ok (f n : Nat) (d : DM) (h : d.Ok 0) (he : (fmtR f n d).1 = 0) : (fmtR f n d).2.2.Ok 0 := by
  have key : ∀ (m : LM) (d : DM) (e : Nat), d.Ok 0 → (desR m d e).1 = 0 → (desR m d e).2.2.Ok 0 := by
    intro m d e hd h0
    unfold desR at *
    split at h0
    · split at h0
      · rename_i a b; rw [if_pos a, if_pos b]; exact DM.flush_ok (DM.write_ok hd (desB_len _ _))
      · simp at h0
    · simp at h0
  unfold fmtR at *
  split at he
  · rename_i a
    rw [if_pos a]
    exact key _ _ _ (key _ _ _ h a) he
  · rename_i a; exact absurd he a
theorem lf1_ok : lf1.Ok 0 := fmtR_ok _ _ _ (DM.new_ok (by omega) (by omega)) lf1_e
theorem room1 : roomZ 4 ((0 : Nat) : Int) = 116 := by decide
theorem room2 : roomZ 100 ((0 : Nat) : Int) = 4000 := by decide
theorem room3 : roomZ 4 ((112 : Nat) : Int) = 4 := by decide
theorem room4 : roomZ 4 ((128 : Nat) : Int) = -1 := by decide
def lr1 : List UInt8 := List.replicate 100 0
def lr2 : List UInt8 := List.replicate 4 0
def lm0 : LM := ⟨0, 4, 2, 128, [], 0, 0⟩
def lm1 : LM := ⟨0, 4, 2, 128, [lr1], 0, 112⟩
def lm2 : LM := ⟨0, 4, 2, 128, [lr1, lr2], 0, 128⟩
def ln0 : LM := ⟨4, 100, 2, 128, [], 0, 0⟩
theorem lm2_small : ∀ r ∈ lm2.recs, r.length ≤ 1000000 := by
  intro r hr
  have hr : r = lr1 ∨ r = lr2 := by simpa [lm2] using hr
  rcases hr with rfl | rfl <;> simp [lr1, lr2]
theorem lap1 : appE lm0 true 100 = 0 ∧ appM lm0 true lr1 = lm1 := ⟨by decide, by kernel_rfl⟩
theorem lap2 : appE lm1 true 4 = 0 ∧ appM lm1 true lr2 = lm2 := ⟨by decide, by kernel_rfl⟩
theorem lap3 : appE lm2 true 0 = 9 ∧ appM lm2 true [] = lm2 := ⟨by decide, by kernel_rfl⟩
set_option maxRecDepth 100000 in
set_option maxHeartbeats 8000000 in
theorem lives4_any (w : World) : Calls Tryd.prog 21 #[] w fun e w' => e = .returned (.bool true) ∧ Below w.heap.size w w' := by
  have HL0 := Lib.hid (Lv.refl w)
  have hm1 : ∀ W : World, (Instr.makeSlice 34 (.int .i64 100) (.int .i64 100)).run Tryd.prog W = .ok (.slice (some ⟨W.heap.size, 0, none⟩) 100 100) (W.alloc (.cells (madeCells #[.int .u8 0] 100) 5)) := run_mkB 100 (by omega)
  have hm2 : ∀ W : World, (Instr.makeSlice 34 (.int .i64 4) (.int .i64 4)).run Tryd.prog W = .ok (.slice (some ⟨W.heap.size, 0, none⟩) 4 4) (W.alloc (.cells (madeCells #[.int .u8 0] 4) 5)) := run_mkB 4 (by omega)
  have hv1 : validB lf0.S.length ((0 : Nat) : Int) ((4 : Nat) : Int) = true := by decide
  have hv2 : validB lf1.S.length ((4 : Nat) : Int) ((100 : Nat) : Int) = true := by rw [lf1_len]; decide
  have hv3 : validB lf2.S.length ((0 : Nat) : Int) ((3 : Nat) : Int) = false := by rw [lf2_len]; decide
  have HF1 : Hid (∀ u g, Lv w u [diskO g lf0] → Calls Tryd.prog 23 #[.pointer (some ⟨g, 0, none⟩), .int .i64 0, .int .i64 4] u fun x w' => ∃ gl, x = .returned (.tuple #[.pointer (some ⟨gl, 0, none⟩), .int .i64 0]) ∧ Lv w w' [logO gl g lm0, diskO g lf1]) := Lib.hid (fun u g hl => by
    refine (format_ok hl (j := 0) rfl 0 4 (by omega) (by omega) hv1 ((DM.new_ok (by omega) (by omega)).mono (by omega))).mono ?_
    rintro x w' (⟨-, gl, hx, hl2⟩ | ⟨he, -⟩)
    · rw [lf1_m] at hl2; exact ⟨gl, hx, hl2⟩
    · rw [lf1_e] at he; exact absurd he (by omega))
  have HO1 : Hid (∀ u g gl, Lv w u [logO gl g lm0, diskO g lf1] → Calls Tryd.prog 15 #[.pointer (some ⟨g, 0, none⟩), .int .i64 4, .int .i64 100] u fun x w' => x = .returned (.tuple #[.pointer none, .int .i64 7]) ∧ Lv w w' [logO gl g lm0, diskO g lf1]) := Lib.hid (fun u g gl hl => open_form hl (j := 1) rfl 4 100 (by omega) (by omega) hv2 lf1_on (.inl lf1_bad))
  have HF2 : Hid (∀ u g gl, Lv w u [logO gl g lm0, diskO g lf1] → Calls Tryd.prog 23 #[.pointer (some ⟨g, 0, none⟩), .int .i64 4, .int .i64 100] u fun x w' => ∃ gn, x = .returned (.tuple #[.pointer (some ⟨gn, 0, none⟩), .int .i64 0]) ∧ Lv w w' [logO gn g ln0, logO gl g lm0, diskO g lf2]) := Lib.hid (fun u g gl hl => by
    refine (format_ok hl (j := 1) rfl 4 100 (by omega) (by omega) hv2 (lf1_ok.mono (by omega))).mono ?_
    rintro x w' (⟨-, gn, hx, hl2⟩ | ⟨he, -⟩)
    · rw [lf2_m] at hl2; exact ⟨gn, hx, hl2⟩
    · rw [lf2_e] at he; exact absurd he (by omega))
  have HF3 : Hid (∀ u g gl gn, Lv w u [logO gn g ln0, logO gl g lm0, diskO g lf2] → Calls Tryd.prog 23 #[.pointer (some ⟨g, 0, none⟩), .int .i64 0, .int .i64 3] u fun x w' => x = .returned (.tuple #[.pointer none, .int .i64 5]) ∧ u = w') := Lib.hid (fun u g gl gn hl => format_bad hl (j := 2) rfl 0 3 (by omega) (by omega) (by omega) (by omega) hv3)
  clear hv1 hv2 hv3
  go_enter Tryd.func21, Tryd.ntmps21
  go_upto_region 10 with (first
    | (have x1 := HL0.out; go_at_call 22; refine (made4_lv x1 104 (by omega) (by omega)).mono ?_; rintro e w1 ⟨g, rfl, hl⟩; have HL1 := Lib.hid hl; clear hl x1 HL0)
    | (have x1 := HL1.out; go_at_call 23; refine (HF1.out _ _ x1).mono ?_; rintro e w2 ⟨gl, rfl, hl⟩; have HL2 := Lib.hid hl; clear hl x1 HL1)
    | (have x1 := HL2.out; go_at_call 15; refine (HO1.out _ _ _ x1).mono ?_; rintro e w3 ⟨rfl, hl⟩; have HL3 := Lib.hid hl; clear hl x1 HL2)
    | (have x1 := HL3.out; go_at_call 23; refine (HF2.out _ _ _ x1).mono ?_; rintro e w4 ⟨gn, rfl, hl⟩; have HL4 := Lib.hid hl; have HG4 : Hid True := Lib.hid trivial; clear hl x1 HL3)
    | (have x1 := HG4; go_at_call 23; refine (HF3.out _ _ _ _ HL4.out).mono ?_; rintro e w5 ⟨rfl, rfl⟩; clear x1 HG4))
  clear HF1 HO1 HF2 HF3
  have HG1 : Hid True := Lib.hid trivial
  go_upto_region 11 with (first
    | (have x1 := HG1; go_at_call 9; refine (room_lv HL4.out (i := 1) (m := lm0) rfl (show 4 ≤ 4096 by omega) (show 0 ≤ 1000000 by omega)).mono ?_; rintro e w6 ⟨rfl, hb⟩; rw [show roomZ lm0.n lm0.tak = 116 from room1]; have HL5 := Lib.hid (HL4.out.below hb); clear hb x1 HG1)
    | (have x1 := HL5.out; go_at_call 9; refine (room_lv x1 (i := 0) (m := ln0) rfl (show 100 ≤ 4096 by omega) (show 0 ≤ 1000000 by omega)).mono ?_; rintro e w7 ⟨rfl, hb⟩; rw [show roomZ ln0.n ln0.tak = 4000 from room2]; have HL6 := Lib.hid (x1.below hb); clear hb x1 HL5))
  have HL7 : Hid (Lv w (w7.alloc (.cells (madeCells #[.int .u8 0] 100) 5)) [logO gn g ln0, logO gl g lm0, diskO g lf2]) := Lib.hid (HL6.out.below ((Below.refl _ _).alloc (Nat.le_refl _) _))
  have HG2 : Hid True := Lib.hid trivial
  have HG3 : Hid True := Lib.hid trivial
  clear HL6 HL4
  go_upto_region 12 with (first
    | (have x1 := HG2; go_at_call 11; refine (append_lv HL7.out (i := 1) (j := 2) (m := lm0) (d := lf2) (r := lr1) rfl rfl (Bs.made 100 (by omega)) (show 4 ≤ 4096 by omega) (show 0 ≤ 1000000 by omega) (by omega) (show 0 ≤ 100000 by omega)).mono ?_; rintro e w8 ⟨rfl, hl⟩; rw [lf2_on] at hl ⊢; rw [lap1.2] at hl; rw [lap1.1]; have HL8 := Lib.hid hl; clear hl x1 HG2 HL7)
    | (have x1 := HL8.out; go_at_call 9; refine (room_lv x1 (i := 1) (m := lm1) rfl (show 4 ≤ 4096 by omega) (show 112 ≤ 1000000 by omega)).mono ?_; rintro e w9 ⟨rfl, hb⟩; rw [show roomZ lm1.n lm1.tak = 4 from room3]; have HL9 := Lib.hid ((HL8.out.below hb).below ((Below.refl _ _).alloc (Nat.le_refl _) (.cells (madeCells #[.int .u8 0] 4) 5))); clear hb x1 HL8)
    | (have x1 := HG3; go_at_call 11; refine (append_lv HL9.out (i := 1) (j := 2) (m := lm1) (d := lf2) (r := lr2) rfl rfl (Bs.made 4 (by omega)) (show 4 ≤ 4096 by omega) (show 112 ≤ 1000000 by omega) (by omega) (show 1 ≤ 100000 by omega)).mono ?_; rintro e w10 ⟨rfl, hl⟩; rw [lf2_on] at hl ⊢; rw [lap2.2] at hl; rw [lap2.1]; have HL10 := Lib.hid hl; clear hl x1 HG3 HL9)
    | (have x1 := HL10.out; go_at_call 9; refine (room_lv x1 (i := 1) (m := lm2) rfl (show 4 ≤ 4096 by omega) (show 128 ≤ 1000000 by omega)).mono ?_; rintro e w11 ⟨rfl, hb⟩; rw [show roomZ lm2.n lm2.tak = -1 from room4]; have HL11 := Lib.hid (x1.below hb); clear hb x1 HL10))
  go_wp2_with (first
    | (have x1 := HL11.out; go_at_call 11; refine (append_lv x1 (i := 1) (j := 2) (m := lm2) (d := lf2) (r := []) rfl rfl (Bs.empty (fun _ => False) _ none 0 (by unfold maxLen; omega) (fun _ => rfl)) (show 4 ≤ 4096 by omega) (show 128 ≤ 1000000 by omega) (by omega) (show 2 ≤ 100000 by omega)).mono ?_; rintro e w12 ⟨rfl, hl⟩; rw [lf2_on] at hl ⊢; rw [lap3.2] at hl; rw [lap3.1]; have HL12 := Lib.hid hl; clear hl x1 HL11)
    | (have x1 := HL12.out; go_at_call 16; refine (records_lv x1 (ii := 1) (m := lm2) rfl (show 2 ≤ 100000 by omega) lm2_small).mono ?_; rintro e w13 ⟨ra, rc, rfl, hl⟩; rw [show lm2.recs.length = 2 from rfl]; have HL13 := Lib.hid hl; clear hl x1 HL12)
    | (have x1 := HL13.out; go_at_call 43; refine (synced_lv x1 (i := 2) (m := lm2) rfl).mono ?_; rintro e w14 ⟨rfl, rfl⟩; rw [show ((lm2.syn : Nat) : Int) = 0 from rfl]; clear x1))
  go_ret
  exact ⟨rfl, HL13.out.args⟩
end Go.Proofs.YthffegfcgmhppaaDoor
namespace Go.Proofs.YthffegfcgmhppaaDoor
open Go.RowKit
set_option linter.unusedSimpArgs false
set_option linter.unusedVariables false
def Dof24 : List (Option Tmp) := [some 100, some 101, some 102, some 103, some 104, some 105, some 106, some 107, some 108, some 99, some 109, some 110, some 12, some 13]
def Lof24 : List (List Nat) := [[], [0], [1], [2], [], [4], [5], [6], [3, 7], [8], [9], [9], [10], [11]]
theorem GA.congr {F N : Nat} {d d' : DM} {r e : Nat} {rs : List (List UInt8)} (h : GA F N d r e rs) (hS : d'.S = d.S) : GA F N d' r e rs := by
  have hs : ∀ k, sec d' k = sec d k := fun k => by unfold sec; rw [hS]
  obtain ⟨a, b, c, x, y, u, v, z⟩ := h
  refine ⟨by rw [hS]; exact a, fun k hk => ?_, c, ?_, ?_, u, fun i hi t ht => v i hi t (by rw [hs] at ht; exact ht), z⟩
  · rw [hs]; exact b k (by rw [hS] at hk; exact hk)
  · rw [hs]; exact x
  · rw [hs]; exact y
/-- the disk that the power leaves -/
def cutD (d : DM) (ts : List TM) : DM := (d.setFuse 0).restart ts
theorem cutD_ga {F N : Nat} {d : DM} {r e : Nat} {rs : List (List UInt8)} (h : GA F N d r e rs) (ts : List TM) : GA F N (cutD d ts) r e rs := (h.congr (setFuse_S d 0)).restart ts
theorem cutD_on (d : DM) (ts : List TM) : (cutD d ts).on = true := rfl
theorem cutD_len (d : DM) (ts : List TM) : (cutD d ts).S.length = d.S.length := by
  unfold cutD
  rw [restart_len, setFuse_S]
theorem Ts.nil0 (w : World) : Ts (fun _ => False) w none 0 0 [] := ⟨rfl, Sl.empty _ _ _ _ _ (Nat.zero_le _) (fun _ => rfl), fun _ h => by cases h⟩
theorem appE_ok (m : LM) (n : Nat) (R : Nat) (hR : roomZ m.n m.tak = (R : Int)) (h : n ≤ R) (hn : R ≤ 4000) : appE m true n = 0 := by
  unfold appE
  rw [if_neg (by omega), if_neg (by rw [hR]; omega)]
  rfl
theorem appE_full (m : LM) (n : Nat) (R : Nat) (hR : roomZ m.n m.tak = (R : Int)) (h : R < n) (hn : n ≤ 4000) : appE m true n = 9 := by
  unfold appE
  rw [if_neg (by omega), if_pos (by rw [hR]; omega)]
theorem roomZ_bd (n : Nat) (t : Int) : -1 ≤ roomZ n t ∧ roomZ n t ≤ 4000 := by unfold roomZ; omega
end Go.Proofs.YthffegfcgmhppaaDoor
namespace Go.Proofs.YthffegfcgmhppaaDoor
open Go.ChangeShapes Go.WideShapes Go.ChangeAt Go.RowKit
set_option linter.unusedSimpArgs false
set_option linter.unusedVariables false
theorem cells3a : Tryd.prog.cellsOf 141 = 3 := by kernel_rfl
/-- an act of the laws -/
structure AM where
  kind : Int
  n : Int
  ba : Option Addr
  bn : Nat
  bc : Nat
  b : List UInt8
def AM.cells (m : AM) : List Value := [.int .i64 m.kind, .int .i64 m.n, .slice m.ba m.bn m.bc]
theorem AM.cells_len (m : AM) : m.cells.length = 3 := rfl
def AOk (D : Nat → Prop) (w : World) (m : AM) : Prop := (-9223372036854775808 ≤ m.kind ∧ m.kind ≤ 9223372036854775807) ∧ (-9223372036854775808 ≤ m.n ∧ m.n ≤ 9223372036854775807) ∧ Bs D w m.ba m.bn m.bc m.b
def acells (ms : List AM) : List Value := ms.flatMap AM.cells
theorem acells_len (ms : List AM) : (acells ms).length = ms.length * 3 := by
  unfold acells
  induction ms with
  | nil => rfl
  | cons m r ih => rw [List.flatMap_cons, List.length_append, AM.cells_len, ih, List.length_cons]; omega
theorem acells_get (ms : List AM) (i j : Nat) (hi : i < ms.length) (hj : j < 3) : (acells ms)[i * 3 + j]? = ms[i].cells[j]? := by
  unfold acells
  induction ms generalizing i with
  | nil => simp at hi
  | cons m r ih =>
    rw [List.flatMap_cons]
    cases i with
    | zero =>
      rw [List.getElem?_append_left (by rw [AM.cells_len]; omega), Nat.zero_mul, Nat.zero_add]
      rfl
    | succ i =>
      rw [List.getElem?_append_right (by rw [AM.cells_len]; omega), show (i + 1) * 3 + j - m.cells.length = i * 3 + j by rw [AM.cells_len]; omega, ih i (by simpa using hi)]
      rfl
/-- a slice of acts -/
def Acts (D : Nat → Prop) (w : World) (a : Option Addr) (n c : Nat) (ms : List AM) : Prop := ms.length = n ∧ Sl D w a n c (acells ms) 3 ∧ ∀ m ∈ ms, AOk D w m
section
variable {H : Type} {enc : TypeId × Value → H} {W : World} {base : Nat} {held : Bool}
set_option maxRecDepth 100000 in
theorem act_of_trod {fuel : Nat} {cs : List Value} {x : DataW H × List MemPlace} (h : DataW.trod enc Tryd.prog W base (fun _ => true) held fuel 141 cs = some x) : ∃ m : AM, cs = m.cells ∧ AOk (Old W) W m := by
  obtain ⟨ys, n, _, _, hlen, hyl, hf⟩ := DataW.trod_struct Tryd.underlying141 h
  rw [cells3a] at hlen
  match cs, hlen with
  | [c0, c1, c2], _ =>
    match ys, hyl with
    | [y0, y1, y2], _ =>
      have h0 : DataW.trod enc Tryd.prog W base (fun _ => true) held n 3 [c0] = some y0 := hf 0 _ rfl
      have h1 : DataW.trod enc Tryd.prog W base (fun _ => true) held n 3 [c1] = some y1 := hf 1 _ rfl
      have h2 : DataW.trod enc Tryd.prog W base (fun _ => true) held n 34 [c2] = some y2 := hf 2 _ rfl
      obtain ⟨i0, e0, _, w0⟩ := DataW.trod_int Tryd.underlying3 h0
      obtain ⟨i1, e1, _, w1⟩ := DataW.trod_int Tryd.underlying3 h1
      obtain ⟨ba, bn, bc, b, e2, hB⟩ := bytes_of_trod h2
      cases e0; cases e1; cases e2
      exact ⟨⟨i0, i1, ba, bn, bc, b⟩, rfl, bounds_i64 w0, bounds_i64 w1, hB⟩
end
theorem Acts.kept {D S : Nat → Prop} {w w' : World} {a : Option Addr} {n c : Nat} {ms : List AM} (h : Acts D w a n c ms) (hk : Kept S w w') (hd : ∀ b, b < w.heap.size → D b → ¬ S b) : Acts D w' a n c ms :=
  ⟨h.1, h.2.1.kept (by decide) hk hd, fun m hm => ⟨(h.2.2 m hm).1, (h.2.2 m hm).2.1, (h.2.2 m hm).2.2.kept hk hd⟩⟩
theorem Acts.at {D : Nat → Prop} {w : World} {a : Option Addr} {n c : Nat} {ms : List AM} (h : Acts D w a n c ms) (hp : 0 < n) : ∃ b off, D b ∧ b < w.heap.size ∧ a = some ⟨b, off, none⟩ ∧ ∀ (i : Nat) (hi : i < ms.length), w.rangeAt b (off + i * 3) ms[i].cells := by
  obtain ⟨h1, ⟨h2, h3, h4, h5, h6⟩, h7⟩ := h
  obtain ⟨b, off, hD, ha, hr⟩ := h6 hp
  refine ⟨b, off, hD, range_lt hr (by omega), ha, fun i hi j v hv => ?_⟩
  have hj : j < 3 := (List.getElem?_eq_some_iff.1 hv).1
  rw [Nat.add_assoc]
  exact hr (i * 3 + j) v (by rw [acells_get ms i j hi hj]; exact hv)

end Go.Proofs.YthffegfcgmhppaaDoor
namespace Go.Proofs.YthffegfcgmhppaaDoor
open Go.RowKit
set_option linter.unusedSimpArgs false
set_option linter.unusedVariables false
def loadActA (v : Value) : Sem Next := do pure (.value (← Instr.loadAt 141 v))
theorem exec_loadAct (ρ : Operand → Value) (d : Option Tmp) (x : Operand) (ty : TypeId) (pos : String) (af : Array Edge) (gd : Option (Nat × Bool)) :
    execOp ρ { dst := d, op := .load 141 x, type := ty, pos := pos, after := af, guard := gd } = loadActA (ρ x) := rfl
theorem exec_at_zero' {ρ : Operand → Value} {o : Oper} {l : List Oper} {h : 0 < (o :: l).toArray.size} : execOp ρ ((o :: l).toArray[0]'h) = execOp ρ o := rfl
theorem exec_at_succ' {ρ : Operand → Value} {o : Oper} {l : List Oper} {n : Nat} {h : n + 1 < (o :: l).toArray.size} : execOp ρ ((o :: l).toArray[n + 1]'h) = execOp ρ (l.toArray[n]'(by simpa using h)) := rfl
theorem run_loadAct {w : World} {b o : Nat} {m : AM} (h : w.rangeAt b o m.cells) : (loadActA (.pointer (some ⟨b, o, none⟩))).run Tryd.prog w = .ok (.value (.agg #[.int .i64 m.kind, .int .i64 m.n, .slice m.ba m.bn m.bc])) w := by
  unfold loadActA
  simp only [Sem.run_bind, Sem.run_pure, Result.andThen_ok, run_loadAt_mid w b o 141 m.cells _ h Tryd.underlying141 rfl (by rw [AM.cells_len]; kernel_rfl)]
  rfl
theorem Lv.pick {w0 w : World} {L : List Obj} (h : Lv w0 w L) (L' : List Obj) (σ : Nat → Nat) (hi : ∀ i j, i < L'.length → j < L'.length → σ i = σ j → i = j) (hg : ∀ i, i < L'.length → L'[i]? = L[σ i]?) : Lv w0 w L' := by
  obtain ⟨h1, Bs, h2, h3, h4⟩ := h
  have hb : ∀ i, i < L'.length → ∃ B, Bs[σ i]? = some B := fun i hl => by
    have e := hg i hl
    rw [List.getElem?_eq_getElem hl] at e
    have hs := (List.getElem?_eq_some_iff.1 e.symm).1
    exact ⟨_, List.getElem?_eq_getElem (by omega)⟩
  have hm : ∀ i B, ((List.range L'.length).map fun i => Bs.getD (σ i) (fun _ => False))[i]? = some B → i < L'.length ∧ Bs[σ i]? = some B := fun i B hB => by
    rw [List.getElem?_map] at hB
    by_cases hl : i < L'.length
    · rw [List.getElem?_range hl] at hB
      obtain ⟨B2, hB2⟩ := hb i hl
      simp only [Option.map_some, List.getD_eq_getElem?_getD, hB2, Option.getD_some, Option.some.injEq] at hB
      exact ⟨hl, hB2.trans (congrArg some hB)⟩
    · rw [List.getElem?_eq_none (by simp; omega)] at hB
      cases hB
  refine ⟨h1, (List.range L'.length).map fun i => Bs.getD (σ i) (fun _ => False), by rw [List.length_map, List.length_range], fun i o B ho hB => ?_, fun i j A B hij hA hB => ?_⟩
  · obtain ⟨hl, hB2⟩ := hm i B hB
    exact h3 (σ i) o B (by rw [← hg i hl]; exact ho) hB2
  · obtain ⟨hl, hA2⟩ := hm i A hA
    obtain ⟨hl2, hB2⟩ := hm j B hB
    exact h4 (σ i) (σ j) A B (fun e => hij (hi i j hl hl2 e)) hA2 hB2
/-- the third of four objects is forgotten, the first two change places -/
theorem Lv.third {w0 w : World} {a b c d : Obj} (h : Lv w0 w [a, b, c, d]) : Lv w0 w [b, a, d] :=
  h.pick [b, a, d] (fun i => if i = 0 then 1 else if i = 1 then 0 else 3) (fun i j hi hj => by
    have hi : i < 3 := hi
    have hj : j < 3 := hj
    intro e
    have hi3 : i = 0 ∨ i = 1 ∨ i = 2 := by omega
    have hj3 : j = 0 ∨ j = 1 ∨ j = 2 := by omega
    rcases hi3 with rfl | rfl | rfl <;> rcases hj3 with rfl | rfl | rfl <;> simp at e ⊢) (fun i hi => by
    have hi : i < 3 := hi
    have hi3 : i = 0 ∨ i = 1 ∨ i = 2 := by omega
    rcases hi3 with rfl | rfl | rfl <;> rfl)
end Go.Proofs.YthffegfcgmhppaaDoor
namespace Go.Proofs.YthffegfcgmhppaaDoor
open Go.RowKit
set_option linter.unusedSimpArgs false
set_option linter.unusedVariables false
theorem cutD_S (d : DM) (ts : List TM) : (cutD d ts).S = (d.restart ts).S := by
  unfold cutD DM.restart
  simp only [setFuse_S]
theorem Past.crash {FR DS n : Nat} {m : LM} {d : DM} {rst : Bool} (h : Past FR DS n m d rst) (ts : List TM) : ∃ r e rs, GA FR n (cutD d ts) r e rs ∧ ((m.syn ≤ rs.length ∧ rs.length ≤ m.recs.length ∧ rs = m.recs.take rs.length) ∨ (rst = true ∧ rs = [])) := by
  obtain ⟨r, e, rs, hga, hc⟩ := h.cr ts
  rw [h.frm, h.n_] at hga
  exact ⟨r, e, rs, hga.congr (cutD_S d ts), hc⟩
theorem setFuse_okQ {N : Nat} {d : DM} (h : d.Ok N) (n : Int) (h2 : n ≤ 9223372036854775807) : (d.setFuse n).Ok N := by
  unfold DM.setFuse
  split
  · exact ⟨h.1, h.2.1, by show n.toNat ≤ _; omega, h.2.2.2⟩
  · exact h
theorem Fine.setFuse {m : LM} {d : DM} (h : Fine m d) (k : Int) (hk : k ≤ 9223372036854775807) : Fine m (d.setFuse k) :=
  ⟨h.n4, h.syn, h.tak, h.cap, h.small, h.ga.congr (setFuse_S d k), setFuse_okQ h.ok k hk⟩
theorem begin_past (n : Nat) (h1 : 4 ≤ n) (h2 : n ≤ 15) : Past 1 (n + 2) n (mFresh 1 n) (bgD n) false := by
  obtain ⟨-, -, a, b, c, e⟩ := bg_fine n h1 h2
  exact a.past (FR := 1) (DS := n + 2) (n := n) rfl rfl e ⟨by omega, by omega⟩ ⟨h1, h2⟩ false
theorem Past.fused {FR DS n : Nat} {m : LM} {d : DM} {rst : Bool} (h : Past FR DS n m d rst) (hF : Fine m d) (k : Int) (hk : k ≤ 9223372036854775807) (r2 : Bool) : Past FR DS n m (d.setFuse k) r2 :=
  (hF.setFuse k hk).past h.frm h.n_ (by rw [setFuse_S]; exact h.len) h.fit h.n4 r2
/-- what the objects of a past are between two acts -/
def PL (gp g gl n : Nat) (v : Value) (m : LM) (d : DM) (r : Bool) (OT : List Obj) : List Obj := pastO gp g gl n v m.syn r :: recsO v m.recs :: logO gl g m :: diskO g d :: OT
theorem Lv.swap01 {w0 w : World} {a b c d : Obj} (h : Lv w0 w [b, a, c, d]) : Lv w0 w [a, b, c, d] :=
  h.pick [a, b, c, d] (fun i => if i = 0 then 1 else if i = 1 then 0 else i) (fun i j hi hj => by
    have hi : i < 4 := hi
    have hj : j < 4 := hj
    intro e
    split at e <;> split at e <;> (try split at e) <;> (try split at e) <;> omega) (fun i hi => by
    have hi : i < 4 := hi
    have hi3 : i = 0 ∨ i = 1 ∨ i = 2 ∨ i = 3 := by omega
    rcases hi3 with rfl | rfl | rfl | rfl <;> rfl)
end Go.Proofs.YthffegfcgmhppaaDoor

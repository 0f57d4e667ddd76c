/-
  Texts LF, L3, L4, L8, one behind the other.
-/
import Derived.WalkKit
import Derived.WalkSpells
import Derived.WalkLawsBesides
import Derived.Laws.AppendOwn
import Derived.Laws.OwnMore
import Derived.Deep.AppendSrc
import Derived.Deep.MidRow
import Derived.Lib.Hide
import Derived.Deep.QuietTactic
import Derived.BigQuiet
import GoSem.Claim
import Derived.Orders
import Derived.Tactics
import Derived.Maps.RangeRun
import Derived.Maps.Range
import Derived.Maps.OwnOps
import Derived.Maps.RangeWalk
import Derived.Deep.Cut
import Derived.Deep.RegionWith
import Derived.Deep.DrawnRows
import Derived.StillTailTactics
import Derived.Carry
import Derived.Laws.CopyOwn
import Derived.Lib.AppendZerosOnto
import Derived.Laws.BytesString
import Derived.Laws.AppendOwnNone
import Derived.ProofKit
import Derived.OpenShut
import Derived.Deep.Slices
import Derived.Deep.Fields
import Derived.JoinedCond
import Derived.Laws.ShiftsVarLaws
import Derived.Laws.BitsAllLaws
import Derived.Laws.ResultCell
import Derived.Test.YthffegfcgmhppaaDoorRows
import Derived.Test.YthffegfcgmhppaaDoorZV504
namespace Go.Proofs.YthffegfcgmhppaaDoor
open Go.RowKit
set_option linter.unusedSimpArgs false
set_option linter.unusedVariables false
/-- a log as it is made -/
def LM.new (f n : Nat) : LM := ⟨f, n, 0, 0, [], 0, 0⟩
theorem run_buildL (g : Nat) (f n : Int) (W : World) : (Instr.build 62 #[(0, .pointer (some ⟨g, 0, none⟩)), (1, .int .i64 f), (2, .int .i64 n)]).run Tryd.prog W = .ok (.agg #[.pointer (some ⟨g, 0, none⟩), .int .i64 f, .int .i64 n, .int .u8 0, .int .i64 0, .slice none 0 0, .int .i64 0, .int .i64 0]) W := by kernel_rfl
theorem Lv.logNew {w0 w : World} {L : List Obj} (h : Lv w0 w L) (g f n : Nat) : Lv w0 (w.alloc (.cells #[.pointer (some ⟨g, 0, none⟩), .int .i64 (f : Int), .int .i64 (n : Int), .int .u8 0, .int .i64 0, .slice none 0 0, .int .i64 0, .int .i64 0] 62)) (logO w.heap.size g (LM.new f n) :: L) := by
  refine h.cons ((Below.refl _ _).alloc (Nat.le_refl _) _) (B := fun x => x = w.heap.size) ⟨none, fun _ => False, .slice none 0 0, ⟨heap_new rfl, Recs.nil _, ⟨(fun h => by cases h), (fun h => h), (fun _ h => by cases h)⟩, fun _ h => h.elim⟩, ?_⟩ (fun x hx => by subst hx; exact ⟨Nat.le_refl _, by rw [size_alloc1]; omega⟩)
  rintro x (hx | hx | hx)
  · exact hx
  · cases hx
  · exact hx.elim
/-- the two descriptions of Format -/
def fmt1 (f n : Nat) (d : DM) : Int × LM × DM := desR (LM.new f n) d 128
def fmtR (f n : Nat) (d : DM) : Int × LM × DM := if (fmt1 f n d).1 = 0 then desR (fmt1 f n d).2.1 (fmt1 f n d).2.2 128 else fmt1 f n d
theorem desR_len (m : LM) (d : DM) (e : Nat) : (desR m d e).2.2.S.length = d.S.length := by
  unfold desR
  split
  · split
    · rw [flush_len, write_len]
    · rw [write_len]
  · rfl
theorem desR_frm (m : LM) (d : DM) (e : Nat) : (desR m d e).2.1.frm = m.frm ∧ (m.rnd < 256 → (desR m d e).2.1.rnd < 256) := by
  unfold desR
  split
  · split
    · exact ⟨rfl, fun _ => Nat.mod_lt _ (by omega)⟩
    · exact ⟨rfl, id⟩
  · exact ⟨rfl, id⟩
theorem desR_okF (m : LM) (d : DM) (e : Nat) (h : d.Ok 40000) : (desR m d e).2.2.Ok 40001 := by
  unfold desR
  split
  · split
    · exact (DM.flush_ok (DM.write_ok h (desB_len _ _))).mono (by omega)
    · exact DM.write_ok h (desB_len _ _)
  · exact h.mono (by omega)
section
variable {w0 w : World} {L : List Obj} {g j : Nat} {d : DM}
set_option maxRecDepth 100000 in
set_option maxHeartbeats 2000000 in
theorem format_bad (h : Lv w0 w L) (hj : L[j]? = some (diskO g d)) (f n : Int) (f1 : -9223372036854775808 ≤ f) (f2 : f ≤ 9223372036854775807) (n1 : -9223372036854775808 ≤ n) (n2 : n ≤ 9223372036854775807) (hv : validB d.S.length f n = false) :
    Calls Tryd.prog 23 #[.pointer (some ⟨g, 0, none⟩), .int .i64 f, .int .i64 n] w fun x w' => x = .returned (.tuple #[.pointer none, .int .i64 5]) ∧ w = w' := by
  have HC := Lib.hid (valid_lv h hj f n f1 f2 n1 n2)
  rw [hv] at HC
  clear h hj hv
  go_enter Tryd.func23, Tryd.ntmps23
  go_wp2_with (go_at_call 32; refine HC.out.mono ?_; rintro e w2 ⟨rfl, rfl⟩)
  go_ret2
  exact ⟨rfl, rfl⟩
set_option maxRecDepth 100000 in
set_option maxHeartbeats 4000000 in
theorem format_ok (h : Lv w0 w L) (hj : L[j]? = some (diskO g d)) (f n : Nat) (hf : f ≤ 4096) (hn : n ≤ 4096) (hv : validB d.S.length f n = true) (hN : d.Ok 40000) :
    Calls Tryd.prog 23 #[.pointer (some ⟨g, 0, none⟩), .int .i64 (f : Int), .int .i64 (n : Int)] w fun x w' =>
      ((fmtR f n d).1 = 0 ∧ ∃ gl, x = .returned (.tuple #[.pointer (some ⟨gl, 0, none⟩), .int .i64 0]) ∧ Lv w0 w' (logO gl g (fmtR f n d).2.1 :: L.set j (diskO g (fmtR f n d).2.2))) ∨
      ((fmtR f n d).1 = 10 ∧ x = .returned (.tuple #[.pointer none, .int .i64 10]) ∧ Lv w0 w' (L.set j (diskO g (fmtR f n d).2.2))) := by
  have hd1 : 4 ≤ (n : Int) ∧ 0 ≤ (f : Int) ∧ (n : Int) ≤ (d.S.length : Int) - (f : Int) := by unfold validB at hv; exact of_decide_eq_true hv
  have HC := Lib.hid (valid_lv h hj f n (by omega) (by omega) (by omega) (by omega))
  rw [hv] at HC
  obtain ⟨w1, hw1⟩ : ∃ w1, w1 = w.alloc (.cells #[.pointer (some ⟨g, 0, none⟩), .int .i64 (f : Int), .int .i64 (n : Int), .int .u8 0, .int .i64 0, .slice none 0 0, .int .i64 0, .int .i64 0] 62) := ⟨_, rfl⟩
  obtain ⟨gl, hgl⟩ : ∃ gl, gl = w.heap.size := ⟨_, rfl⟩
  have HL1 : Hid (Lv w0 w1 (logO gl g (LM.new f n) :: L)) := Lib.hid (by rw [hw1, hgl]; exact h.logNew g f n)
  have hjl := (List.getElem?_eq_some_iff.1 hj).1
  have HJL := Lib.hid hjl
  have HSelf := Lib.hid (set_self_of hj)
  have hb := run_buildL g f n
  have HW1 := Lib.hid hw1
  have HGL := Lib.hid hgl
  have HFD : Hid (f + 1 < d.S.length) := Lib.hid (by omega)
  have HN := Lib.hid hN
  have he1 := desR_err (LM.new f n) d 128
  obtain ⟨Q1, hQ1⟩ : ∃ Q1, Q1 = fmt1 f n d := ⟨_, rfl⟩
  have hQ1' : Q1 = desR (LM.new f n) d 128 := hQ1
  have hlen1 : Q1.2.2.S.length = d.S.length := by rw [hQ1']; exact desR_len _ _ _
  have hfr1 : Q1.2.1.frm = f ∧ Q1.2.1.rnd < 256 := by rw [hQ1']; exact ⟨(desR_frm _ _ _).1, (desR_frm _ _ _).2 (show (0 : Nat) < 256 by omega)⟩
  have hok1 : Q1.2.2.Ok 40001 := by rw [hQ1']; exact desR_okF _ _ _ hN
  obtain ⟨Q2, hQ2⟩ : ∃ Q2, Q2 = desR Q1.2.1 Q1.2.2 128 := ⟨_, rfl⟩
  have he2 : Q2.1 = 0 ∨ Q2.1 = 10 := by rw [hQ2]; exact desR_err _ _ _
  obtain ⟨F, hF⟩ : ∃ F, F = fmtR f n d := ⟨_, rfl⟩
  have hF1 : Q1.1 = 0 → F = Q2 := fun e => by rw [hF, hQ2, hQ1]; unfold fmtR; rw [if_pos (by rw [← hQ1]; exact e)]
  have hF2 : Q1.1 ≠ 0 → F = Q1 := fun e => by rw [hF, hQ1]; unfold fmtR; rw [if_neg (by rw [← hQ1]; exact e)]
  rw [← hF]
  rw [← hQ1'] at he1
  have HD1 : Hid (∀ wr, Lv w0 wr (logO gl g (LM.new f n) :: L) → Calls Tryd.prog 30 #[.pointer (some ⟨gl, 0, none⟩), .int .i64 ((128 : Nat) : Int)] wr fun x w' => x = .returned (.int .i64 Q1.1) ∧ Lv w0 w' (logO gl g Q1.2.1 :: L.set j (diskO g Q1.2.2))) := Lib.hid (fun wr hL => by
    have := describe_lv hL (i := 0) (j := j + 1) rfl (by simpa using hj) (by omega) 128 (by omega) (show (0 : Nat) < 256 by omega) HFD.out (HN.out.mono (by omega))
    rw [← hQ1'] at this
    exact this)
  have HD2 : Hid (∀ wr, Lv w0 wr (logO gl g Q1.2.1 :: L.set j (diskO g Q1.2.2)) → Calls Tryd.prog 30 #[.pointer (some ⟨gl, 0, none⟩), .int .i64 ((128 : Nat) : Int)] wr fun x w' => x = .returned (.int .i64 Q2.1) ∧ Lv w0 w' (logO gl g Q2.2.1 :: L.set j (diskO g Q2.2.2))) := Lib.hid (fun wr hL => by
    have := describe_lv hL (i := 0) (j := j + 1) rfl (by rw [List.getElem?_cons_succ, List.getElem?_set_self hjl]) (by omega) 128 (by omega) hfr1.2 (by rw [hfr1.1, hlen1]; exact HFD.out) (hok1.mono (by omega))
    rw [← hQ2] at this
    refine this.mono (fun x w' hh => ⟨hh.1, ?_⟩)
    have h2 := hh.2
    simpa [List.set_set] using h2)
  have HF1 := Lib.hid hF1
  have HF2 := Lib.hid hF2
  clear h hj hv hw1 hgl hjl hN hQ1 hQ1' hlen1 hfr1 hok1 hQ2 hF hF1 hF2
  go_enter Tryd.func23, Tryd.ntmps23
  go_upto_region 4 with (go_at_call 32; refine HC.out.mono ?_; rintro e w2 ⟨rfl, rfl⟩; clear HC)
  rw [← HW1.out, ← HGL.out]
  go_wp2_with fail
  go_loopw [20] (fun t wr => ∃ i : Nat, t = .int .i64 (i : Int) ∧ ((i = 0 ∧ Lv w0 wr (logO gl g (LM.new f n) :: L)) ∨ (i = 1 ∧ Q1.1 = 0 ∧ Lv w0 wr (logO gl g Q1.2.1 :: L.set j (diskO g Q1.2.2))) ∨ (i = 2 ∧ Q1.1 = 0 ∧ Q2.1 = 0 ∧ Lv w0 wr (logO gl g Q2.2.1 :: L.set j (diskO g Q2.2.2))))) (fun t _ => 2 - (intOf t).toNat)
  case atStart => exact ⟨0, rfl, .inl ⟨rfl, HL1.out⟩⟩
  case round =>
    obtain ⟨i, rfl, ⟨rfl, hL⟩ | ⟨rfl, hq1, hL⟩ | ⟨rfl, hq1, hq2, hL⟩⟩ := hrel
    · have HL := Lib.hid hL
      clear hL
      rcases he1 with he1 | he1
      · rw [he1] at HD1
        have HE := Lib.hid he1
        clear he1 he2
        go_wp2_with (go_at_call 30; refine (HD1.out _ HL.out).mono ?_; rintro x w2 ⟨rfl, hl⟩; have HL2 := Lib.hid hl; clear hl)
        go_roundw
        case rel => exact ⟨1, by go_num, .inr (.inl ⟨rfl, HE.out, HL2.out⟩)⟩
        case measure => simp [intOf]
      · rw [he1] at HD1
        have HE := Lib.hid he1
        have HFF := Lib.hid (HF2.out (by rw [he1]; omega))
        clear he1 he2
        go_wp2_with (go_at_call 30; refine (HD1.out _ HL.out).mono ?_; rintro x w2 ⟨rfl, hl⟩; have HL2 := Lib.hid hl; clear hl)
        go_ret2
        exact .inr ⟨by rw [HFF.out]; exact HE.out, rfl, by rw [HFF.out]; exact HL2.out.tail⟩
    · have HL := Lib.hid hL
      have HE1 := Lib.hid hq1
      have HFF := Lib.hid (HF1.out hq1)
      clear hL hq1 he1
      rcases he2 with he2 | he2
      · rw [he2] at HD2
        have HE := Lib.hid he2
        clear he2
        go_wp2_with (go_at_call 30; refine (HD2.out _ HL.out).mono ?_; rintro x w2 ⟨rfl, hl⟩; have HL2 := Lib.hid hl; clear hl)
        go_roundw
        case rel => exact ⟨2, by go_num, .inr (.inr ⟨rfl, HE1.out, HE.out, HL2.out⟩)⟩
        case measure => simp [intOf]
      · rw [he2] at HD2
        have HE := Lib.hid he2
        clear he2
        go_wp2_with (go_at_call 30; refine (HD2.out _ HL.out).mono ?_; rintro x w2 ⟨rfl, hl⟩; have HL2 := Lib.hid hl; clear hl)
        go_ret2
        exact .inr ⟨by rw [HFF.out]; exact HE.out, rfl, by rw [HFF.out]; exact HL2.out.tail⟩
    · have HL := Lib.hid hL
      have HE := Lib.hid hq2
      have HFF := Lib.hid (HF1.out hq1)
      clear hL hq1 hq2 he1 he2
      go_wp2_with fail
      go_ret2
      exact .inl ⟨by rw [HFF.out]; exact HE.out, gl, rfl, by rw [HFF.out]; exact HL.out⟩
end
end Go.Proofs.YthffegfcgmhppaaDoor
namespace Go.Proofs.YthffegfcgmhppaaDoor
open Go.RowKit
set_option linter.unusedSimpArgs false
set_option linter.unusedVariables false
def Dds4g : List (Option Tmp) := [some 40, some 41, some 42, some 43, some 44, some 45, some 46, some 47, some 48, none, some 3]
def Lds4g : List (List Nat) := [[], [], [], [1, 2], [3], [4], [5, 4], [6, 4], [4, 7], [0], [8]]
def Dds4e : List (Option Tmp) := [some 40, some 41, some 42, some 43, some 44, some 45, some 46, some 47, some 48, none, some 3]
def Lds4e : List (List Nat) := [[], [], [], [1, 2], [3], [4], [5, 4], [6, 4], [4, 7], [0], [8]]
def Dds4 : List (Option Tmp) := [some 40, some 41, some 42, some 43, some 44, some 45, some 46, some 47, some 48, none, some 3]
def Lds4 : List (List Nat) := [[], [], [], [1, 2], [3], [4], [5, 4], [6, 4], [4, 7], [0], [8]]
def Dds3 : List (Option Tmp) := [some 20, some 21, some 22, some 23, some 24, some 25, some 26, some 27, some 28, some 29, some 30, some 31, some 32, some 33, some 34, some 35, some 36, some 37, some 38, some 39, some 6, none]
def Lds3 : List (List Nat) := [[], [], [0, 1], [2], [], [], [5], [4, 6], [7], [], [], [10], [9, 11], [12], [], [], [15], [14, 16], [17], [3, 8, 13, 18], [], [20, 19]]
def Dds2 : List (Option Tmp) := [some 7, some 8, some 9, some 10, some 11, some 12, some 13, some 14, some 15, some 16, some 17, some 18, some 19, some 5, none]
def Lds2 : List (List Nat) := [[], [0], [1], [], [3], [4], [], [6], [7], [], [9], [10], [2, 5, 8, 11], [], [13, 12]]
/-- a struct of one block and a word are returned -/
theorem results_two (tmps : Array Value) (w : World) (g : Nat) (x y : Value) (b : Bool) (hp : tmps.getD 2 undef = .pointer (some ⟨g, 0, none⟩)) (hb : tmps.getD 3 undef = .bool b) (hg : w.heap[g]? = some (.cells #[x, y] 60 (0, 0))) :
    (results Tryd.f53 tmps).run Tryd.prog w = .ok (.tuple #[.agg #[x, y], .bool b]) w := by
  rw [results_cell_tmp (p := 2) (u := 3) (ty := 60) rfl, hp, hb]
  simp only [asAddr, Sem.run_pure, Result.andThen_ok]
  rw [run_loadVar_row w g 60 60 #[x, y] (0, 0) _ hg Tryd.underlying60 rfl (sizeS _ _)]
  rfl
/-- what a sector describes: round and end, and whether it is complete -/
def bN (s : List UInt8) (i : Nat) : Nat := (s.getD i 0).toNat
def endF (s : List UInt8) : Nat := bN s 1 * 65536 + bN s 2 * 256 + bN s 3
def endB (s : List UInt8) : Nat := bN s 62 * 65536 + bN s 61 * 256 + bN s 60
def okS (s : List UInt8) : Bool := decide (bN s 0 = bN s 63 ∧ endF s = endB s ∧ 128 ≤ endF s)
theorem bN_lt (s : List UInt8) (i : Nat) : bN s i < 256 := UInt8.toNat_lt _
set_option maxRecDepth 100000 in
set_option maxHeartbeats 4000000 in
theorem described_any (Z : Nat → Prop) (a : Option Addr) (c : Nat) (s : List UInt8) (w : World) (h : Bs Z w a 64 c s) :
    Calls Tryd.prog 53 #[.slice a 64 c] w fun e w' => e = .returned (.tuple #[.agg #[.int .u8 (bN s 0 : Int), .int .i64 (endF s : Int)], .bool (okS s)]) ∧ Below w.heap.size w w' := by
  have hsl : s.length = 64 := h.1
  have hc64 : 64 ≤ c := h.2.2.1
  obtain ⟨b, off, _, hb, rfl, hcell⟩ := h.cells (by omega)
  have hcl : ∀ i, i < 64 → w.cell? ⟨b, off + i, none⟩ = some (.int .u8 (bN s i : Int)) := by
    intro i hi
    rw [hcell i (by omega)]
    unfold bN
    rw [List.getD_eq_getElem?_getD, List.getElem?_eq_getElem (by omega), Option.getD_some]
  unfold okS endF endB
  have l0 := bN_lt s 0; have l1 := bN_lt s 1; have l2 := bN_lt s 2; have l3 := bN_lt s 3
  have m0 := bN_lt s 63; have m1 := bN_lt s 62; have m2 := bN_lt s 61; have m3 := bN_lt s 60
  obtain ⟨q, hq⟩ : ∃ q, q = w.alloc (.cells #[.int .u8 0, .int .i64 0] 60) := ⟨_, rfl⟩
  have hbw : Below w.heap.size w q := by rw [hq]; exact (Below.refl _ _).alloc (Nat.le_refl _) _
  have HZ0 : Hid (q.heap[w.heap.size]? = some (.cells #[.int .u8 0, .int .i64 0] 60 (0, 0))) := Lib.hid (by rw [hq]; exact heap_new rfl)
  have HBW := Lib.hid hbw
  have HBQ : Hid (b < q.heap.size) := Lib.hid (Nat.lt_of_lt_of_le hb hbw.size)
  have C0 : Hid (q.cell? ⟨b, off, none⟩ = some (.int .u8 (bN s 0 : Int))) := Lib.hid ((hbw.cell (p := ⟨b, off + 0, none⟩) hb).trans (hcl 0 (by omega)))
  have C1 := Lib.hid ((hbw.cell (p := ⟨b, off + 1, none⟩) hb).trans (hcl 1 (by omega)))
  have C2 := Lib.hid ((hbw.cell (p := ⟨b, off + 2, none⟩) hb).trans (hcl 2 (by omega)))
  have C3 := Lib.hid ((hbw.cell (p := ⟨b, off + 3, none⟩) hb).trans (hcl 3 (by omega)))
  have C60 := Lib.hid ((hbw.cell (p := ⟨b, off + 60, none⟩) hb).trans (hcl 60 (by omega)))
  have C61 := Lib.hid ((hbw.cell (p := ⟨b, off + 61, none⟩) hb).trans (hcl 61 (by omega)))
  have C62 := Lib.hid ((hbw.cell (p := ⟨b, off + 62, none⟩) hb).trans (hcl 62 (by omega)))
  have C63 := Lib.hid ((hbw.cell (p := ⟨b, off + 63, none⟩) hb).trans (hcl 63 (by omega)))
  generalize bN s 0 = x0 at *; generalize bN s 1 = x1 at *; generalize bN s 2 = x2 at *; generalize bN s 3 = x3 at *
  generalize bN s 63 = y0 at *; generalize bN s 62 = y1 at *; generalize bN s 61 = y2 at *; generalize bN s 60 = y3 at *
  obtain ⟨E1, hE1⟩ : ∃ E1, E1 = x1 * 65536 + x2 * 256 + x3 := ⟨_, rfl⟩
  obtain ⟨E2, hE2⟩ : ∃ E2, E2 = y1 * 65536 + y2 * 256 + y3 := ⟨_, rfl⟩
  rw [← hE1, ← hE2]
  have HE1 := Lib.hid hE1
  have HE2 := Lib.hid hE2
  obtain ⟨g2, hg2⟩ : ∃ g2, g2 = w.heap.size := ⟨_, rfl⟩
  have HZ : Hid (q.heap[g2]? = some (.cells #[.int .u8 0, .int .i64 0] 60 (0, 0))) := Lib.hid (by rw [hg2]; exact HZ0.out)
  have HG2 : Hid (w.heap.size ≤ g2) := Lib.hid (by omega)
  have hgs := Lib.hid hg2
  clear h hcl hcell hb hbw hE1 hE2 hg2 HZ0
  go_enter Tryd.func53, Tryd.ntmps53
  go_wp2_with (first | (refine wpList_alloc_z rfl 60 rfl _ 60 run_allocS ?_))
  rw [← hq, ← hgs.out]
  refine Roll.region_f 14 49 Dds2 Lds2 [(0, .slice (some ⟨b, off, none⟩) 64 c)] (fun p => Below q.heap.size q p) (fun p p2 => Below p.heap.size p p2) [fun vv p => vv = .slice (some ⟨b, off, none⟩) 64 c, fun vv p => vv = .pointer (some ⟨b, off, none⟩), fun vv p => vv = .int .u8 (x0 : Int), fun vv p => vv = .slice (some ⟨b, off, none⟩) 64 c, fun vv p => vv = .pointer (some ⟨b, off + 1, none⟩), fun vv p => vv = .int .u8 (x1 : Int), fun vv p => vv = .slice (some ⟨b, off, none⟩) 64 c, fun vv p => vv = .pointer (some ⟨b, off + 2, none⟩), fun vv p => vv = .int .u8 (x2 : Int), fun vv p => vv = .slice (some ⟨b, off, none⟩) 64 c, fun vv p => vv = .pointer (some ⟨b, off + 3, none⟩), fun vv p => vv = .int .u8 (x3 : Int), fun vv p => vv = .agg #[.int .u8 (x0 : Int), .int .i64 (E1 : Int)], fun vv p => ∃ r, vv = .pointer (some ⟨r, 0, none⟩) ∧ q.heap.size ≤ r ∧ p.heap[r]? = some (.cells #[.int .u8 0, .int .i64 0] 60 (0, 0))] (by kernel_rfl) (by kernel_rfl) rfl ⟨rfl, trivial⟩ ((Below.refl _ _).drew) ?_ ?_ ?_
  · exact ⟨fun _ _ _ _ h => h, fun _ _ _ _ h => h, fun _ _ _ _ h => h, fun _ _ _ _ h => h, fun _ _ _ _ h => h, fun _ _ _ _ h => h, fun _ _ _ _ h => h, fun _ _ _ _ h => h, fun _ _ _ _ h => h, fun _ _ _ _ h => h, fun _ _ _ _ h => h, fun _ _ _ _ h => h, fun _ _ _ _ h => h, fun _ _ _ hs h => by obtain ⟨r, e1, e2, e3⟩ := h; exact ⟨r, e1, e2, (Kept.of_below (fun _ => False) hs).heap e3 (fun h => h)⟩, trivial⟩
  · intro b0 hN hlv
    refine ⟨?_, ?_, ?_, ?_, ?_, ?_, ?_, ?_, ?_, ?_, ?_, ?_, ?_, ?_, trivial⟩
    · intro vs p hI hp
      have e0 : (Roll.putD Dds2 vs [] b0).eval (.tmp 0) = .slice (some ⟨b, off, none⟩) 64 c := (Roll.eval_old rfl).trans (hlv.at 0 (0, .slice (some ⟨b, off, none⟩) 64 c) rfl)
      clear hp hlv hN
      unfold Roll.Goes
      simp only [Lds2, List.getD_cons_zero, List.getD_cons_succ]
      generalize Roll.putD Dds2 vs [] b0 = a1 at *
      refine Roll.goes_val (w' := p) (.slice (some ⟨b, off, none⟩) 64 c) rfl ?_ ⟨hI, Below.refl _ _, rfl⟩
      (have ec : ∀ x, a1.eval (.const x) = x := fun _ => rfl); (have ef : ∀ x, a1.eval (.func x) = .func (.func x) #[] #[] := fun _ => rfl); generalize a1.eval = ρ at *
      skip
      go_simp <;> (intros; first | (exfalso; omega) | rfl)
    · intro vs p hI hp
      have h0 : (vs 0) = .slice (some ⟨b, off, none⟩) 64 c := hp 0 (by simp [Lds2])
      have e7 : (Roll.putD Dds2 vs [0] b0).eval (.tmp 7) = .slice (some ⟨b, off, none⟩) 64 c := (Roll.eval_new 0 rfl (by decide) (by decide) (by omega)).trans h0
      clear hp hlv hN
      unfold Roll.Goes
      simp only [Lds2, List.getD_cons_zero, List.getD_cons_succ]
      generalize Roll.putD Dds2 vs [0] b0 = a1 at *
      refine Roll.goes_val (w' := p) (.pointer (some ⟨b, off, none⟩)) rfl ?_ ⟨hI, Below.refl _ _, rfl⟩
      (have ec : ∀ x, a1.eval (.const x) = x := fun _ => rfl); (have ef : ∀ x, a1.eval (.func x) = .func (.func x) #[] #[] := fun _ => rfl); generalize a1.eval = ρ at *
      clear h0
      go_simp <;> (intros; first | (exfalso; omega) | rfl)
    · intro vs p hI hp
      have h1 : (vs 1) = .pointer (some ⟨b, off, none⟩) := hp 1 (by simp [Lds2])
      have e8 : (Roll.putD Dds2 vs [1] b0).eval (.tmp 8) = .pointer (some ⟨b, off, none⟩) := (Roll.eval_new 1 rfl (by decide) (by decide) (by omega)).trans h1
      clear hp hlv hN
      unfold Roll.Goes
      simp only [Lds2, List.getD_cons_zero, List.getD_cons_succ]
      generalize Roll.putD Dds2 vs [1] b0 = a1 at *
      have cf : p.cell? ⟨b, off, none⟩ = some (.int .u8 (x0 : Int)) := (hI.cell (p := ⟨b, off, none⟩) HBQ.out).trans C0.out
      refine Roll.goes_val (w' := p) (.int .u8 (x0 : Int)) rfl ?_ ⟨hI, Below.refl _ _, rfl⟩
      (have ec : ∀ x, a1.eval (.const x) = x := fun _ => rfl); (have ef : ∀ x, a1.eval (.func x) = .func (.func x) #[] #[] := fun _ => rfl); generalize a1.eval = ρ at *
      clear h1
      go_simp <;> (intros; first | (exfalso; omega) | rfl)
    · intro vs p hI hp
      have e0 : (Roll.putD Dds2 vs [] b0).eval (.tmp 0) = .slice (some ⟨b, off, none⟩) 64 c := (Roll.eval_old rfl).trans (hlv.at 0 (0, .slice (some ⟨b, off, none⟩) 64 c) rfl)
      clear hp hlv hN
      unfold Roll.Goes
      simp only [Lds2, List.getD_cons_zero, List.getD_cons_succ]
      generalize Roll.putD Dds2 vs [] b0 = a1 at *
      refine Roll.goes_val (w' := p) (.slice (some ⟨b, off, none⟩) 64 c) rfl ?_ ⟨hI, Below.refl _ _, rfl⟩
      (have ec : ∀ x, a1.eval (.const x) = x := fun _ => rfl); (have ef : ∀ x, a1.eval (.func x) = .func (.func x) #[] #[] := fun _ => rfl); generalize a1.eval = ρ at *
      skip
      go_simp <;> (intros; first | (exfalso; omega) | rfl)
    · intro vs p hI hp
      have h3 : (vs 3) = .slice (some ⟨b, off, none⟩) 64 c := hp 3 (by simp [Lds2])
      have e10 : (Roll.putD Dds2 vs [3] b0).eval (.tmp 10) = .slice (some ⟨b, off, none⟩) 64 c := (Roll.eval_new 3 rfl (by decide) (by decide) (by omega)).trans h3
      clear hp hlv hN
      unfold Roll.Goes
      simp only [Lds2, List.getD_cons_zero, List.getD_cons_succ]
      generalize Roll.putD Dds2 vs [3] b0 = a1 at *
      refine Roll.goes_val (w' := p) (.pointer (some ⟨b, off + 1, none⟩)) rfl ?_ ⟨hI, Below.refl _ _, rfl⟩
      (have ec : ∀ x, a1.eval (.const x) = x := fun _ => rfl); (have ef : ∀ x, a1.eval (.func x) = .func (.func x) #[] #[] := fun _ => rfl); generalize a1.eval = ρ at *
      clear h3
      go_simp <;> (intros; first | (exfalso; omega) | rfl)
    · intro vs p hI hp
      have h4 : (vs 4) = .pointer (some ⟨b, off + 1, none⟩) := hp 4 (by simp [Lds2])
      have e11 : (Roll.putD Dds2 vs [4] b0).eval (.tmp 11) = .pointer (some ⟨b, off + 1, none⟩) := (Roll.eval_new 4 rfl (by decide) (by decide) (by omega)).trans h4
      clear hp hlv hN
      unfold Roll.Goes
      simp only [Lds2, List.getD_cons_zero, List.getD_cons_succ]
      generalize Roll.putD Dds2 vs [4] b0 = a1 at *
      have cf : p.cell? ⟨b, off + 1, none⟩ = some (.int .u8 (x1 : Int)) := (hI.cell (p := ⟨b, off + 1, none⟩) HBQ.out).trans C1.out
      refine Roll.goes_val (w' := p) (.int .u8 (x1 : Int)) rfl ?_ ⟨hI, Below.refl _ _, rfl⟩
      (have ec : ∀ x, a1.eval (.const x) = x := fun _ => rfl); (have ef : ∀ x, a1.eval (.func x) = .func (.func x) #[] #[] := fun _ => rfl); generalize a1.eval = ρ at *
      clear h4
      go_simp <;> (intros; first | (exfalso; omega) | rfl)
    · intro vs p hI hp
      have e0 : (Roll.putD Dds2 vs [] b0).eval (.tmp 0) = .slice (some ⟨b, off, none⟩) 64 c := (Roll.eval_old rfl).trans (hlv.at 0 (0, .slice (some ⟨b, off, none⟩) 64 c) rfl)
      clear hp hlv hN
      unfold Roll.Goes
      simp only [Lds2, List.getD_cons_zero, List.getD_cons_succ]
      generalize Roll.putD Dds2 vs [] b0 = a1 at *
      refine Roll.goes_val (w' := p) (.slice (some ⟨b, off, none⟩) 64 c) rfl ?_ ⟨hI, Below.refl _ _, rfl⟩
      (have ec : ∀ x, a1.eval (.const x) = x := fun _ => rfl); (have ef : ∀ x, a1.eval (.func x) = .func (.func x) #[] #[] := fun _ => rfl); generalize a1.eval = ρ at *
      skip
      go_simp <;> (intros; first | (exfalso; omega) | rfl)
    · intro vs p hI hp
      have h6 : (vs 6) = .slice (some ⟨b, off, none⟩) 64 c := hp 6 (by simp [Lds2])
      have e13 : (Roll.putD Dds2 vs [6] b0).eval (.tmp 13) = .slice (some ⟨b, off, none⟩) 64 c := (Roll.eval_new 6 rfl (by decide) (by decide) (by omega)).trans h6
      clear hp hlv hN
      unfold Roll.Goes
      simp only [Lds2, List.getD_cons_zero, List.getD_cons_succ]
      generalize Roll.putD Dds2 vs [6] b0 = a1 at *
      refine Roll.goes_val (w' := p) (.pointer (some ⟨b, off + 2, none⟩)) rfl ?_ ⟨hI, Below.refl _ _, rfl⟩
      (have ec : ∀ x, a1.eval (.const x) = x := fun _ => rfl); (have ef : ∀ x, a1.eval (.func x) = .func (.func x) #[] #[] := fun _ => rfl); generalize a1.eval = ρ at *
      clear h6
      go_simp <;> (intros; first | (exfalso; omega) | rfl)
    · intro vs p hI hp
      have h7 : (vs 7) = .pointer (some ⟨b, off + 2, none⟩) := hp 7 (by simp [Lds2])
      have e14 : (Roll.putD Dds2 vs [7] b0).eval (.tmp 14) = .pointer (some ⟨b, off + 2, none⟩) := (Roll.eval_new 7 rfl (by decide) (by decide) (by omega)).trans h7
      clear hp hlv hN
      unfold Roll.Goes
      simp only [Lds2, List.getD_cons_zero, List.getD_cons_succ]
      generalize Roll.putD Dds2 vs [7] b0 = a1 at *
      have cf : p.cell? ⟨b, off + 2, none⟩ = some (.int .u8 (x2 : Int)) := (hI.cell (p := ⟨b, off + 2, none⟩) HBQ.out).trans C2.out
      refine Roll.goes_val (w' := p) (.int .u8 (x2 : Int)) rfl ?_ ⟨hI, Below.refl _ _, rfl⟩
      (have ec : ∀ x, a1.eval (.const x) = x := fun _ => rfl); (have ef : ∀ x, a1.eval (.func x) = .func (.func x) #[] #[] := fun _ => rfl); generalize a1.eval = ρ at *
      clear h7
      go_simp <;> (intros; first | (exfalso; omega) | rfl)
    · intro vs p hI hp
      have e0 : (Roll.putD Dds2 vs [] b0).eval (.tmp 0) = .slice (some ⟨b, off, none⟩) 64 c := (Roll.eval_old rfl).trans (hlv.at 0 (0, .slice (some ⟨b, off, none⟩) 64 c) rfl)
      clear hp hlv hN
      unfold Roll.Goes
      simp only [Lds2, List.getD_cons_zero, List.getD_cons_succ]
      generalize Roll.putD Dds2 vs [] b0 = a1 at *
      refine Roll.goes_val (w' := p) (.slice (some ⟨b, off, none⟩) 64 c) rfl ?_ ⟨hI, Below.refl _ _, rfl⟩
      (have ec : ∀ x, a1.eval (.const x) = x := fun _ => rfl); (have ef : ∀ x, a1.eval (.func x) = .func (.func x) #[] #[] := fun _ => rfl); generalize a1.eval = ρ at *
      skip
      go_simp <;> (intros; first | (exfalso; omega) | rfl)
    · intro vs p hI hp
      have h9 : (vs 9) = .slice (some ⟨b, off, none⟩) 64 c := hp 9 (by simp [Lds2])
      have e16 : (Roll.putD Dds2 vs [9] b0).eval (.tmp 16) = .slice (some ⟨b, off, none⟩) 64 c := (Roll.eval_new 9 rfl (by decide) (by decide) (by omega)).trans h9
      clear hp hlv hN
      unfold Roll.Goes
      simp only [Lds2, List.getD_cons_zero, List.getD_cons_succ]
      generalize Roll.putD Dds2 vs [9] b0 = a1 at *
      refine Roll.goes_val (w' := p) (.pointer (some ⟨b, off + 3, none⟩)) rfl ?_ ⟨hI, Below.refl _ _, rfl⟩
      (have ec : ∀ x, a1.eval (.const x) = x := fun _ => rfl); (have ef : ∀ x, a1.eval (.func x) = .func (.func x) #[] #[] := fun _ => rfl); generalize a1.eval = ρ at *
      clear h9
      go_simp <;> (intros; first | (exfalso; omega) | rfl)
    · intro vs p hI hp
      have h10 : (vs 10) = .pointer (some ⟨b, off + 3, none⟩) := hp 10 (by simp [Lds2])
      have e17 : (Roll.putD Dds2 vs [10] b0).eval (.tmp 17) = .pointer (some ⟨b, off + 3, none⟩) := (Roll.eval_new 10 rfl (by decide) (by decide) (by omega)).trans h10
      clear hp hlv hN
      unfold Roll.Goes
      simp only [Lds2, List.getD_cons_zero, List.getD_cons_succ]
      generalize Roll.putD Dds2 vs [10] b0 = a1 at *
      have cf : p.cell? ⟨b, off + 3, none⟩ = some (.int .u8 (x3 : Int)) := (hI.cell (p := ⟨b, off + 3, none⟩) HBQ.out).trans C3.out
      refine Roll.goes_val (w' := p) (.int .u8 (x3 : Int)) rfl ?_ ⟨hI, Below.refl _ _, rfl⟩
      (have ec : ∀ x, a1.eval (.const x) = x := fun _ => rfl); (have ef : ∀ x, a1.eval (.func x) = .func (.func x) #[] #[] := fun _ => rfl); generalize a1.eval = ρ at *
      clear h10
      go_simp <;> (intros; first | (exfalso; omega) | rfl)
    · intro vs p hI hp
      have h2 : (vs 2) = .int .u8 (x0 : Int) := hp 2 (by simp [Lds2])
      have h5 : (vs 5) = .int .u8 (x1 : Int) := hp 5 (by simp [Lds2])
      have h8 : (vs 8) = .int .u8 (x2 : Int) := hp 8 (by simp [Lds2])
      have h11 : (vs 11) = .int .u8 (x3 : Int) := hp 11 (by simp [Lds2])
      have e9 : (Roll.putD Dds2 vs [2, 5, 8, 11] b0).eval (.tmp 9) = .int .u8 (x0 : Int) := (Roll.eval_new 2 rfl (by decide) (by decide) (by omega)).trans h2
      have e12 : (Roll.putD Dds2 vs [2, 5, 8, 11] b0).eval (.tmp 12) = .int .u8 (x1 : Int) := (Roll.eval_new 5 rfl (by decide) (by decide) (by omega)).trans h5
      have e15 : (Roll.putD Dds2 vs [2, 5, 8, 11] b0).eval (.tmp 15) = .int .u8 (x2 : Int) := (Roll.eval_new 8 rfl (by decide) (by decide) (by omega)).trans h8
      have e18 : (Roll.putD Dds2 vs [2, 5, 8, 11] b0).eval (.tmp 18) = .int .u8 (x3 : Int) := (Roll.eval_new 11 rfl (by decide) (by decide) (by omega)).trans h11
      clear hp hlv hN
      unfold Roll.Goes
      simp only [Lds2, List.getD_cons_zero, List.getD_cons_succ]
      generalize Roll.putD Dds2 vs [2, 5, 8, 11] b0 = a1 at *
      refine Roll.goes_call 62 #[.int .u8 (x0 : Int), .int .u8 (x1 : Int), .int .u8 (x2 : Int), .int .u8 (x3 : Int)] p rfl (by have ec : ∀ x, a1.eval (.const x) = x := fun _ => rfl; have ef : ∀ x, a1.eval (.func x) = .func (.func x) #[] #[] := fun _ => rfl; generalize a1.eval = ρ at *; go_simp) ?_
      refine (decode_any x0 x1 x2 x3 (by omega) (by omega) (by omega) (by omega) p).mono ?_
      rintro y p2 ⟨rfl, hbl⟩
      exact ⟨_, rfl, hI.trans (hbl.mono hI.size), hbl, by show Value.agg _ = Value.agg _; rw [HE1.out]⟩
    · intro vs p hI hp
      clear hp hlv hN
      unfold Roll.Goes
      simp only [Lds2, List.getD_cons_zero, List.getD_cons_succ]
      generalize Roll.putD Dds2 vs [] b0 = a1 at *
      have hal : Below p.heap.size p (p.alloc (.cells #[.int .u8 0, .int .i64 0] 60)) := (Below.refl _ _).alloc (Nat.le_refl _) _
      refine Roll.goes_val (w' := p.alloc (.cells #[.int .u8 0, .int .i64 0] 60)) (.pointer (some ⟨p.heap.size, 0, none⟩)) rfl (by have ec : ∀ x, a1.eval (.const x) = x := fun _ => rfl; have ef : ∀ x, a1.eval (.func x) = .func (.func x) #[] #[] := fun _ => rfl; have hbs := run_allocS; generalize a1.eval = ρ at *; go_simp <;> (intros; first | (exfalso; omega) | rfl)) ⟨hI.trans (hal.mono hI.size), hal, p.heap.size, rfl, hI.size, heap_new rfl⟩
  · intro vs p hI hR
    have h0 : (vs 0) = .slice (some ⟨b, off, none⟩) 64 c := hR 0 (by omega)
    have h1 : (vs 1) = .pointer (some ⟨b, off, none⟩) := hR 1 (by omega)
    have h2 : (vs 2) = .int .u8 (x0 : Int) := hR 2 (by omega)
    have h3 : (vs 3) = .slice (some ⟨b, off, none⟩) 64 c := hR 3 (by omega)
    have h4 : (vs 4) = .pointer (some ⟨b, off + 1, none⟩) := hR 4 (by omega)
    have h5 : (vs 5) = .int .u8 (x1 : Int) := hR 5 (by omega)
    have h6 : (vs 6) = .slice (some ⟨b, off, none⟩) 64 c := hR 6 (by omega)
    have h7 : (vs 7) = .pointer (some ⟨b, off + 2, none⟩) := hR 7 (by omega)
    have h8 : (vs 8) = .int .u8 (x2 : Int) := hR 8 (by omega)
    have h9 : (vs 9) = .slice (some ⟨b, off, none⟩) 64 c := hR 9 (by omega)
    have h10 : (vs 10) = .pointer (some ⟨b, off + 3, none⟩) := hR 10 (by omega)
    have h11 : (vs 11) = .int .u8 (x3 : Int) := hR 11 (by omega)
    have h12 : (vs 12) = .agg #[.int .u8 (x0 : Int), .int .i64 (E1 : Int)] := hR 12 (by omega)
    have h13 : ∃ r, (vs 13) = .pointer (some ⟨r, 0, none⟩) ∧ q.heap.size ≤ r ∧ p.heap[r]? = some (.cells #[.int .u8 0, .int .i64 0] 60 (0, 0)) := hR 13 (by omega)
    clear hR
    simp only [List.range_succ, List.range_zero, List.nil_append, List.cons_append, Roll.putD, Act.put, List.getD_cons_zero, List.getD_cons_succ, List.setIfInBounds_toArray, List.set_cons_zero, List.set_cons_succ, List.drop_succ_cons, List.drop_zero, Dds2]
    simp only [h0, h1, h2, h3, h4, h5, h6, h7, h8, h9, h10, h11, h12]
    clear h0 h1 h2 h3 h4 h5 h6 h7 h8 h9 h10 h11 h12
    generalize vs 13 = v13 at *
    obtain ⟨r1, rfl, hr1, hh1⟩ := h13
    have HI := Lib.hid hI
    have HR1 := Lib.hid hr1
    have HH1 := Lib.hid hh1
    clear hI hr1 hh1
    go_wp2_with (first | (refine wpList_store_row rfl 60 (.tmp 5) (.tmp 19) rfl r1 _ rfl rfl 60 _ HH1.out (sizeS _ _) rfl (oneS _ _) ?_))
    obtain ⟨q2, hq2⟩ : ∃ q2, q2 = p.setRow r1 #[.int .u8 (x0 : Int), .int .i64 (E1 : Int)] := ⟨_, rfl⟩
    rw [← hq2]
    have HBq : Hid (Below q.heap.size q q2) := Lib.hid (by rw [hq2]; exact below_setRow HI.out HR1.out _)
    have HH2 : Hid (q2.heap[r1]? = some (.cells #[.int .u8 (x0 : Int), .int .i64 (E1 : Int)] 60 (0, 0))) := Lib.hid (by rw [hq2]; exact setRow_heap _ _ _ _ _ _ HH1.out)
    have HR1q : Hid (r1 < q2.heap.size) := Lib.hid (Array.getElem?_eq_some_iff.1 HH2.out).1
    clear HH1 HI hq2
    have HBR : Hid (b < q2.heap.size) := Lib.hid (Nat.lt_of_lt_of_le HBQ.out HBq.out.size)
    have D60 := Lib.hid ((HBq.out.cell (p := ⟨b, off + 60, none⟩) HBQ.out).trans C60.out)
    have D61 := Lib.hid ((HBq.out.cell (p := ⟨b, off + 61, none⟩) HBQ.out).trans C61.out)
    have D62 := Lib.hid ((HBq.out.cell (p := ⟨b, off + 62, none⟩) HBQ.out).trans C62.out)
    have D63 := Lib.hid ((HBq.out.cell (p := ⟨b, off + 63, none⟩) HBQ.out).trans C63.out)
    clear C60 C61 C62 C63 C0 C1 C2 C3
    refine Roll.region_f 21 49 Dds3 Lds3 [(0, .slice (some ⟨b, off, none⟩) 64 c), (4, .int .i64 63)] (fun p => Below q2.heap.size q2 p) (fun p p2 => Below p.heap.size p p2) [fun vv p => vv = .slice (some ⟨b, off, none⟩) 64 c, fun vv p => vv = .int .i64 63, fun vv p => vv = .pointer (some ⟨b, off + 63, none⟩), fun vv p => vv = .int .u8 (y0 : Int), fun vv p => vv = .slice (some ⟨b, off, none⟩) 64 c, fun vv p => vv = .int .i64 63, fun vv p => vv = .int .i64 62, fun vv p => vv = .pointer (some ⟨b, off + 62, none⟩), fun vv p => vv = .int .u8 (y1 : Int), fun vv p => vv = .slice (some ⟨b, off, none⟩) 64 c, fun vv p => vv = .int .i64 63, fun vv p => vv = .int .i64 61, fun vv p => vv = .pointer (some ⟨b, off + 61, none⟩), fun vv p => vv = .int .u8 (y2 : Int), fun vv p => vv = .slice (some ⟨b, off, none⟩) 64 c, fun vv p => vv = .int .i64 63, fun vv p => vv = .int .i64 60, fun vv p => vv = .pointer (some ⟨b, off + 60, none⟩), fun vv p => vv = .int .u8 (y3 : Int), fun vv p => vv = .agg #[.int .u8 (y0 : Int), .int .i64 (E2 : Int)], fun vv p => ∃ r, vv = .pointer (some ⟨r, 0, none⟩) ∧ q2.heap.size ≤ r ∧ p.heap[r]? = some (.cells #[.int .u8 0, .int .i64 0] 60 (0, 0))] (by kernel_rfl) (by kernel_rfl) rfl ⟨rfl, rfl, trivial⟩ ((Below.refl _ _).drew) ?_ ?_ ?_
    · exact ⟨fun _ _ _ _ h => h, fun _ _ _ _ h => h, fun _ _ _ _ h => h, fun _ _ _ _ h => h, fun _ _ _ _ h => h, fun _ _ _ _ h => h, fun _ _ _ _ h => h, fun _ _ _ _ h => h, fun _ _ _ _ h => h, fun _ _ _ _ h => h, fun _ _ _ _ h => h, fun _ _ _ _ h => h, fun _ _ _ _ h => h, fun _ _ _ _ h => h, fun _ _ _ _ h => h, fun _ _ _ _ h => h, fun _ _ _ _ h => h, fun _ _ _ _ h => h, fun _ _ _ _ h => h, fun _ _ _ _ h => h, fun _ _ _ hs h => by obtain ⟨r, e1, e2, e3⟩ := h; exact ⟨r, e1, e2, (Kept.of_below (fun _ => False) hs).heap e3 (fun h => h)⟩, trivial⟩
    · intro b0 hN hlv
      refine ⟨?_, ?_, ?_, ?_, ?_, ?_, ?_, ?_, ?_, ?_, ?_, ?_, ?_, ?_, ?_, ?_, ?_, ?_, ?_, ?_, ?_, trivial⟩
      · intro vs p hI hp
        have e0 : (Roll.putD Dds3 vs [] b0).eval (.tmp 0) = .slice (some ⟨b, off, none⟩) 64 c := (Roll.eval_old rfl).trans (hlv.at 0 (0, .slice (some ⟨b, off, none⟩) 64 c) rfl)
        clear hp hlv hN
        unfold Roll.Goes
        simp only [Lds3, List.getD_cons_zero, List.getD_cons_succ]
        generalize Roll.putD Dds3 vs [] b0 = a1 at *
        refine Roll.goes_val (w' := p) (.slice (some ⟨b, off, none⟩) 64 c) rfl ?_ ⟨hI, Below.refl _ _, rfl⟩
        (have ec : ∀ x, a1.eval (.const x) = x := fun _ => rfl); (have ef : ∀ x, a1.eval (.func x) = .func (.func x) #[] #[] := fun _ => rfl); generalize a1.eval = ρ at *
        skip
        go_simp <;> (intros; first | (exfalso; omega) | rfl)
      · intro vs p hI hp
        have e4 : (Roll.putD Dds3 vs [] b0).eval (.tmp 4) = .int .i64 63 := (Roll.eval_old rfl).trans (hlv.at 1 (4, .int .i64 63) rfl)
        clear hp hlv hN
        unfold Roll.Goes
        simp only [Lds3, List.getD_cons_zero, List.getD_cons_succ]
        generalize Roll.putD Dds3 vs [] b0 = a1 at *
        refine Roll.goes_val (w' := p) (.int .i64 63) rfl ?_ ⟨hI, Below.refl _ _, rfl⟩
        (have ec : ∀ x, a1.eval (.const x) = x := fun _ => rfl); (have ef : ∀ x, a1.eval (.func x) = .func (.func x) #[] #[] := fun _ => rfl); generalize a1.eval = ρ at *
        skip
        go_simp <;> (intros; first | (exfalso; omega) | rfl)
      · intro vs p hI hp
        have h0 : (vs 0) = .slice (some ⟨b, off, none⟩) 64 c := hp 0 (by simp [Lds3])
        have h1 : (vs 1) = .int .i64 63 := hp 1 (by simp [Lds3])
        have e20 : (Roll.putD Dds3 vs [0, 1] b0).eval (.tmp 20) = .slice (some ⟨b, off, none⟩) 64 c := (Roll.eval_new 0 rfl (by decide) (by decide) (by omega)).trans h0
        have e21 : (Roll.putD Dds3 vs [0, 1] b0).eval (.tmp 21) = .int .i64 63 := (Roll.eval_new 1 rfl (by decide) (by decide) (by omega)).trans h1
        clear hp hlv hN
        unfold Roll.Goes
        simp only [Lds3, List.getD_cons_zero, List.getD_cons_succ]
        generalize Roll.putD Dds3 vs [0, 1] b0 = a1 at *
        refine Roll.goes_val (w' := p) (.pointer (some ⟨b, off + 63, none⟩)) rfl ?_ ⟨hI, Below.refl _ _, rfl⟩
        (have ec : ∀ x, a1.eval (.const x) = x := fun _ => rfl); (have ef : ∀ x, a1.eval (.func x) = .func (.func x) #[] #[] := fun _ => rfl); generalize a1.eval = ρ at *
        clear h0 h1
        go_simp <;> (intros; first | (exfalso; omega) | rfl)
      · intro vs p hI hp
        have h2 : (vs 2) = .pointer (some ⟨b, off + 63, none⟩) := hp 2 (by simp [Lds3])
        have e22 : (Roll.putD Dds3 vs [2] b0).eval (.tmp 22) = .pointer (some ⟨b, off + 63, none⟩) := (Roll.eval_new 2 rfl (by decide) (by decide) (by omega)).trans h2
        clear hp hlv hN
        unfold Roll.Goes
        simp only [Lds3, List.getD_cons_zero, List.getD_cons_succ]
        generalize Roll.putD Dds3 vs [2] b0 = a1 at *
        have cf : p.cell? ⟨b, off + 63, none⟩ = some (.int .u8 (y0 : Int)) := (hI.cell (p := ⟨b, off + 63, none⟩) HBR.out).trans D63.out
        refine Roll.goes_val (w' := p) (.int .u8 (y0 : Int)) rfl ?_ ⟨hI, Below.refl _ _, rfl⟩
        (have ec : ∀ x, a1.eval (.const x) = x := fun _ => rfl); (have ef : ∀ x, a1.eval (.func x) = .func (.func x) #[] #[] := fun _ => rfl); generalize a1.eval = ρ at *
        clear h2
        go_simp <;> (intros; first | (exfalso; omega) | rfl)
      · intro vs p hI hp
        have e0 : (Roll.putD Dds3 vs [] b0).eval (.tmp 0) = .slice (some ⟨b, off, none⟩) 64 c := (Roll.eval_old rfl).trans (hlv.at 0 (0, .slice (some ⟨b, off, none⟩) 64 c) rfl)
        clear hp hlv hN
        unfold Roll.Goes
        simp only [Lds3, List.getD_cons_zero, List.getD_cons_succ]
        generalize Roll.putD Dds3 vs [] b0 = a1 at *
        refine Roll.goes_val (w' := p) (.slice (some ⟨b, off, none⟩) 64 c) rfl ?_ ⟨hI, Below.refl _ _, rfl⟩
        (have ec : ∀ x, a1.eval (.const x) = x := fun _ => rfl); (have ef : ∀ x, a1.eval (.func x) = .func (.func x) #[] #[] := fun _ => rfl); generalize a1.eval = ρ at *
        skip
        go_simp <;> (intros; first | (exfalso; omega) | rfl)
      · intro vs p hI hp
        have e4 : (Roll.putD Dds3 vs [] b0).eval (.tmp 4) = .int .i64 63 := (Roll.eval_old rfl).trans (hlv.at 1 (4, .int .i64 63) rfl)
        clear hp hlv hN
        unfold Roll.Goes
        simp only [Lds3, List.getD_cons_zero, List.getD_cons_succ]
        generalize Roll.putD Dds3 vs [] b0 = a1 at *
        refine Roll.goes_val (w' := p) (.int .i64 63) rfl ?_ ⟨hI, Below.refl _ _, rfl⟩
        (have ec : ∀ x, a1.eval (.const x) = x := fun _ => rfl); (have ef : ∀ x, a1.eval (.func x) = .func (.func x) #[] #[] := fun _ => rfl); generalize a1.eval = ρ at *
        skip
        go_simp <;> (intros; first | (exfalso; omega) | rfl)
      · intro vs p hI hp
        have h5 : (vs 5) = .int .i64 63 := hp 5 (by simp [Lds3])
        have e25 : (Roll.putD Dds3 vs [5] b0).eval (.tmp 25) = .int .i64 63 := (Roll.eval_new 5 rfl (by decide) (by decide) (by omega)).trans h5
        clear hp hlv hN
        unfold Roll.Goes
        simp only [Lds3, List.getD_cons_zero, List.getD_cons_succ]
        generalize Roll.putD Dds3 vs [5] b0 = a1 at *
        refine Roll.goes_val (w' := p) (.int .i64 62) rfl ?_ ⟨hI, Below.refl _ _, rfl⟩
        (have ec : ∀ x, a1.eval (.const x) = x := fun _ => rfl); (have ef : ∀ x, a1.eval (.func x) = .func (.func x) #[] #[] := fun _ => rfl); generalize a1.eval = ρ at *
        clear h5
        go_simp <;> (intros; first | (exfalso; omega) | rfl)
      · intro vs p hI hp
        have h4 : (vs 4) = .slice (some ⟨b, off, none⟩) 64 c := hp 4 (by simp [Lds3])
        have h6 : (vs 6) = .int .i64 62 := hp 6 (by simp [Lds3])
        have e24 : (Roll.putD Dds3 vs [4, 6] b0).eval (.tmp 24) = .slice (some ⟨b, off, none⟩) 64 c := (Roll.eval_new 4 rfl (by decide) (by decide) (by omega)).trans h4
        have e26 : (Roll.putD Dds3 vs [4, 6] b0).eval (.tmp 26) = .int .i64 62 := (Roll.eval_new 6 rfl (by decide) (by decide) (by omega)).trans h6
        clear hp hlv hN
        unfold Roll.Goes
        simp only [Lds3, List.getD_cons_zero, List.getD_cons_succ]
        generalize Roll.putD Dds3 vs [4, 6] b0 = a1 at *
        refine Roll.goes_val (w' := p) (.pointer (some ⟨b, off + 62, none⟩)) rfl ?_ ⟨hI, Below.refl _ _, rfl⟩
        (have ec : ∀ x, a1.eval (.const x) = x := fun _ => rfl); (have ef : ∀ x, a1.eval (.func x) = .func (.func x) #[] #[] := fun _ => rfl); generalize a1.eval = ρ at *
        clear h4 h6
        go_simp <;> (intros; first | (exfalso; omega) | rfl)
      · intro vs p hI hp
        have h7 : (vs 7) = .pointer (some ⟨b, off + 62, none⟩) := hp 7 (by simp [Lds3])
        have e27 : (Roll.putD Dds3 vs [7] b0).eval (.tmp 27) = .pointer (some ⟨b, off + 62, none⟩) := (Roll.eval_new 7 rfl (by decide) (by decide) (by omega)).trans h7
        clear hp hlv hN
        unfold Roll.Goes
        simp only [Lds3, List.getD_cons_zero, List.getD_cons_succ]
        generalize Roll.putD Dds3 vs [7] b0 = a1 at *
        have cf : p.cell? ⟨b, off + 62, none⟩ = some (.int .u8 (y1 : Int)) := (hI.cell (p := ⟨b, off + 62, none⟩) HBR.out).trans D62.out
        refine Roll.goes_val (w' := p) (.int .u8 (y1 : Int)) rfl ?_ ⟨hI, Below.refl _ _, rfl⟩
        (have ec : ∀ x, a1.eval (.const x) = x := fun _ => rfl); (have ef : ∀ x, a1.eval (.func x) = .func (.func x) #[] #[] := fun _ => rfl); generalize a1.eval = ρ at *
        clear h7
        go_simp <;> (intros; first | (exfalso; omega) | rfl)
      · intro vs p hI hp
        have e0 : (Roll.putD Dds3 vs [] b0).eval (.tmp 0) = .slice (some ⟨b, off, none⟩) 64 c := (Roll.eval_old rfl).trans (hlv.at 0 (0, .slice (some ⟨b, off, none⟩) 64 c) rfl)
        clear hp hlv hN
        unfold Roll.Goes
        simp only [Lds3, List.getD_cons_zero, List.getD_cons_succ]
        generalize Roll.putD Dds3 vs [] b0 = a1 at *
        refine Roll.goes_val (w' := p) (.slice (some ⟨b, off, none⟩) 64 c) rfl ?_ ⟨hI, Below.refl _ _, rfl⟩
        (have ec : ∀ x, a1.eval (.const x) = x := fun _ => rfl); (have ef : ∀ x, a1.eval (.func x) = .func (.func x) #[] #[] := fun _ => rfl); generalize a1.eval = ρ at *
        skip
        go_simp <;> (intros; first | (exfalso; omega) | rfl)
      · intro vs p hI hp
        have e4 : (Roll.putD Dds3 vs [] b0).eval (.tmp 4) = .int .i64 63 := (Roll.eval_old rfl).trans (hlv.at 1 (4, .int .i64 63) rfl)
        clear hp hlv hN
        unfold Roll.Goes
        simp only [Lds3, List.getD_cons_zero, List.getD_cons_succ]
        generalize Roll.putD Dds3 vs [] b0 = a1 at *
        refine Roll.goes_val (w' := p) (.int .i64 63) rfl ?_ ⟨hI, Below.refl _ _, rfl⟩
        (have ec : ∀ x, a1.eval (.const x) = x := fun _ => rfl); (have ef : ∀ x, a1.eval (.func x) = .func (.func x) #[] #[] := fun _ => rfl); generalize a1.eval = ρ at *
        skip
        go_simp <;> (intros; first | (exfalso; omega) | rfl)
      · intro vs p hI hp
        have h10 : (vs 10) = .int .i64 63 := hp 10 (by simp [Lds3])
        have e30 : (Roll.putD Dds3 vs [10] b0).eval (.tmp 30) = .int .i64 63 := (Roll.eval_new 10 rfl (by decide) (by decide) (by omega)).trans h10
        clear hp hlv hN
        unfold Roll.Goes
        simp only [Lds3, List.getD_cons_zero, List.getD_cons_succ]
        generalize Roll.putD Dds3 vs [10] b0 = a1 at *
        refine Roll.goes_val (w' := p) (.int .i64 61) rfl ?_ ⟨hI, Below.refl _ _, rfl⟩
        (have ec : ∀ x, a1.eval (.const x) = x := fun _ => rfl); (have ef : ∀ x, a1.eval (.func x) = .func (.func x) #[] #[] := fun _ => rfl); generalize a1.eval = ρ at *
        clear h10
        go_simp <;> (intros; first | (exfalso; omega) | rfl)
      · intro vs p hI hp
        have h9 : (vs 9) = .slice (some ⟨b, off, none⟩) 64 c := hp 9 (by simp [Lds3])
        have h11 : (vs 11) = .int .i64 61 := hp 11 (by simp [Lds3])
        have e29 : (Roll.putD Dds3 vs [9, 11] b0).eval (.tmp 29) = .slice (some ⟨b, off, none⟩) 64 c := (Roll.eval_new 9 rfl (by decide) (by decide) (by omega)).trans h9
        have e31 : (Roll.putD Dds3 vs [9, 11] b0).eval (.tmp 31) = .int .i64 61 := (Roll.eval_new 11 rfl (by decide) (by decide) (by omega)).trans h11
        clear hp hlv hN
        unfold Roll.Goes
        simp only [Lds3, List.getD_cons_zero, List.getD_cons_succ]
        generalize Roll.putD Dds3 vs [9, 11] b0 = a1 at *
        refine Roll.goes_val (w' := p) (.pointer (some ⟨b, off + 61, none⟩)) rfl ?_ ⟨hI, Below.refl _ _, rfl⟩
        (have ec : ∀ x, a1.eval (.const x) = x := fun _ => rfl); (have ef : ∀ x, a1.eval (.func x) = .func (.func x) #[] #[] := fun _ => rfl); generalize a1.eval = ρ at *
        clear h9 h11
        go_simp <;> (intros; first | (exfalso; omega) | rfl)
      · intro vs p hI hp
        have h12 : (vs 12) = .pointer (some ⟨b, off + 61, none⟩) := hp 12 (by simp [Lds3])
        have e32 : (Roll.putD Dds3 vs [12] b0).eval (.tmp 32) = .pointer (some ⟨b, off + 61, none⟩) := (Roll.eval_new 12 rfl (by decide) (by decide) (by omega)).trans h12
        clear hp hlv hN
        unfold Roll.Goes
        simp only [Lds3, List.getD_cons_zero, List.getD_cons_succ]
        generalize Roll.putD Dds3 vs [12] b0 = a1 at *
        have cf : p.cell? ⟨b, off + 61, none⟩ = some (.int .u8 (y2 : Int)) := (hI.cell (p := ⟨b, off + 61, none⟩) HBR.out).trans D61.out
        refine Roll.goes_val (w' := p) (.int .u8 (y2 : Int)) rfl ?_ ⟨hI, Below.refl _ _, rfl⟩
        (have ec : ∀ x, a1.eval (.const x) = x := fun _ => rfl); (have ef : ∀ x, a1.eval (.func x) = .func (.func x) #[] #[] := fun _ => rfl); generalize a1.eval = ρ at *
        clear h12
        go_simp <;> (intros; first | (exfalso; omega) | rfl)
      · intro vs p hI hp
        have e0 : (Roll.putD Dds3 vs [] b0).eval (.tmp 0) = .slice (some ⟨b, off, none⟩) 64 c := (Roll.eval_old rfl).trans (hlv.at 0 (0, .slice (some ⟨b, off, none⟩) 64 c) rfl)
        clear hp hlv hN
        unfold Roll.Goes
        simp only [Lds3, List.getD_cons_zero, List.getD_cons_succ]
        generalize Roll.putD Dds3 vs [] b0 = a1 at *
        refine Roll.goes_val (w' := p) (.slice (some ⟨b, off, none⟩) 64 c) rfl ?_ ⟨hI, Below.refl _ _, rfl⟩
        (have ec : ∀ x, a1.eval (.const x) = x := fun _ => rfl); (have ef : ∀ x, a1.eval (.func x) = .func (.func x) #[] #[] := fun _ => rfl); generalize a1.eval = ρ at *
        skip
        go_simp <;> (intros; first | (exfalso; omega) | rfl)
      · intro vs p hI hp
        have e4 : (Roll.putD Dds3 vs [] b0).eval (.tmp 4) = .int .i64 63 := (Roll.eval_old rfl).trans (hlv.at 1 (4, .int .i64 63) rfl)
        clear hp hlv hN
        unfold Roll.Goes
        simp only [Lds3, List.getD_cons_zero, List.getD_cons_succ]
        generalize Roll.putD Dds3 vs [] b0 = a1 at *
        refine Roll.goes_val (w' := p) (.int .i64 63) rfl ?_ ⟨hI, Below.refl _ _, rfl⟩
        (have ec : ∀ x, a1.eval (.const x) = x := fun _ => rfl); (have ef : ∀ x, a1.eval (.func x) = .func (.func x) #[] #[] := fun _ => rfl); generalize a1.eval = ρ at *
        skip
        go_simp <;> (intros; first | (exfalso; omega) | rfl)
      · intro vs p hI hp
        have h15 : (vs 15) = .int .i64 63 := hp 15 (by simp [Lds3])
        have e35 : (Roll.putD Dds3 vs [15] b0).eval (.tmp 35) = .int .i64 63 := (Roll.eval_new 15 rfl (by decide) (by decide) (by omega)).trans h15
        clear hp hlv hN
        unfold Roll.Goes
        simp only [Lds3, List.getD_cons_zero, List.getD_cons_succ]
        generalize Roll.putD Dds3 vs [15] b0 = a1 at *
        refine Roll.goes_val (w' := p) (.int .i64 60) rfl ?_ ⟨hI, Below.refl _ _, rfl⟩
        (have ec : ∀ x, a1.eval (.const x) = x := fun _ => rfl); (have ef : ∀ x, a1.eval (.func x) = .func (.func x) #[] #[] := fun _ => rfl); generalize a1.eval = ρ at *
        clear h15
        go_simp <;> (intros; first | (exfalso; omega) | rfl)
      · intro vs p hI hp
        have h14 : (vs 14) = .slice (some ⟨b, off, none⟩) 64 c := hp 14 (by simp [Lds3])
        have h16 : (vs 16) = .int .i64 60 := hp 16 (by simp [Lds3])
        have e34 : (Roll.putD Dds3 vs [14, 16] b0).eval (.tmp 34) = .slice (some ⟨b, off, none⟩) 64 c := (Roll.eval_new 14 rfl (by decide) (by decide) (by omega)).trans h14
        have e36 : (Roll.putD Dds3 vs [14, 16] b0).eval (.tmp 36) = .int .i64 60 := (Roll.eval_new 16 rfl (by decide) (by decide) (by omega)).trans h16
        clear hp hlv hN
        unfold Roll.Goes
        simp only [Lds3, List.getD_cons_zero, List.getD_cons_succ]
        generalize Roll.putD Dds3 vs [14, 16] b0 = a1 at *
        refine Roll.goes_val (w' := p) (.pointer (some ⟨b, off + 60, none⟩)) rfl ?_ ⟨hI, Below.refl _ _, rfl⟩
        (have ec : ∀ x, a1.eval (.const x) = x := fun _ => rfl); (have ef : ∀ x, a1.eval (.func x) = .func (.func x) #[] #[] := fun _ => rfl); generalize a1.eval = ρ at *
        clear h14 h16
        go_simp <;> (intros; first | (exfalso; omega) | rfl)
      · intro vs p hI hp
        have h17 : (vs 17) = .pointer (some ⟨b, off + 60, none⟩) := hp 17 (by simp [Lds3])
        have e37 : (Roll.putD Dds3 vs [17] b0).eval (.tmp 37) = .pointer (some ⟨b, off + 60, none⟩) := (Roll.eval_new 17 rfl (by decide) (by decide) (by omega)).trans h17
        clear hp hlv hN
        unfold Roll.Goes
        simp only [Lds3, List.getD_cons_zero, List.getD_cons_succ]
        generalize Roll.putD Dds3 vs [17] b0 = a1 at *
        have cf : p.cell? ⟨b, off + 60, none⟩ = some (.int .u8 (y3 : Int)) := (hI.cell (p := ⟨b, off + 60, none⟩) HBR.out).trans D60.out
        refine Roll.goes_val (w' := p) (.int .u8 (y3 : Int)) rfl ?_ ⟨hI, Below.refl _ _, rfl⟩
        (have ec : ∀ x, a1.eval (.const x) = x := fun _ => rfl); (have ef : ∀ x, a1.eval (.func x) = .func (.func x) #[] #[] := fun _ => rfl); generalize a1.eval = ρ at *
        clear h17
        go_simp <;> (intros; first | (exfalso; omega) | rfl)
      · intro vs p hI hp
        have h3 : (vs 3) = .int .u8 (y0 : Int) := hp 3 (by simp [Lds3])
        have h8 : (vs 8) = .int .u8 (y1 : Int) := hp 8 (by simp [Lds3])
        have h13 : (vs 13) = .int .u8 (y2 : Int) := hp 13 (by simp [Lds3])
        have h18 : (vs 18) = .int .u8 (y3 : Int) := hp 18 (by simp [Lds3])
        have e23 : (Roll.putD Dds3 vs [3, 8, 13, 18] b0).eval (.tmp 23) = .int .u8 (y0 : Int) := (Roll.eval_new 3 rfl (by decide) (by decide) (by omega)).trans h3
        have e28 : (Roll.putD Dds3 vs [3, 8, 13, 18] b0).eval (.tmp 28) = .int .u8 (y1 : Int) := (Roll.eval_new 8 rfl (by decide) (by decide) (by omega)).trans h8
        have e33 : (Roll.putD Dds3 vs [3, 8, 13, 18] b0).eval (.tmp 33) = .int .u8 (y2 : Int) := (Roll.eval_new 13 rfl (by decide) (by decide) (by omega)).trans h13
        have e38 : (Roll.putD Dds3 vs [3, 8, 13, 18] b0).eval (.tmp 38) = .int .u8 (y3 : Int) := (Roll.eval_new 18 rfl (by decide) (by decide) (by omega)).trans h18
        clear hp hlv hN
        unfold Roll.Goes
        simp only [Lds3, List.getD_cons_zero, List.getD_cons_succ]
        generalize Roll.putD Dds3 vs [3, 8, 13, 18] b0 = a1 at *
        refine Roll.goes_call 62 #[.int .u8 (y0 : Int), .int .u8 (y1 : Int), .int .u8 (y2 : Int), .int .u8 (y3 : Int)] p rfl (by have ec : ∀ x, a1.eval (.const x) = x := fun _ => rfl; have ef : ∀ x, a1.eval (.func x) = .func (.func x) #[] #[] := fun _ => rfl; generalize a1.eval = ρ at *; go_simp) ?_
        refine (decode_any y0 y1 y2 y3 (by omega) (by omega) (by omega) (by omega) p).mono ?_
        rintro y p2 ⟨rfl, hbl⟩
        exact ⟨_, rfl, hI.trans (hbl.mono hI.size), hbl, by show Value.agg _ = Value.agg _; rw [HE2.out]⟩
      · intro vs p hI hp
        clear hp hlv hN
        unfold Roll.Goes
        simp only [Lds3, List.getD_cons_zero, List.getD_cons_succ]
        generalize Roll.putD Dds3 vs [] b0 = a1 at *
        have hal : Below p.heap.size p (p.alloc (.cells #[.int .u8 0, .int .i64 0] 60)) := (Below.refl _ _).alloc (Nat.le_refl _) _
        refine Roll.goes_val (w' := p.alloc (.cells #[.int .u8 0, .int .i64 0] 60)) (.pointer (some ⟨p.heap.size, 0, none⟩)) rfl (by have ec : ∀ x, a1.eval (.const x) = x := fun _ => rfl; have ef : ∀ x, a1.eval (.func x) = .func (.func x) #[] #[] := fun _ => rfl; have hbs := run_allocS; generalize a1.eval = ρ at *; go_simp <;> (intros; first | (exfalso; omega) | rfl)) ⟨hI.trans (hal.mono hI.size), hal, p.heap.size, rfl, hI.size, heap_new rfl⟩
    · intro vs p hI hR
      have h0 : (vs 0) = .slice (some ⟨b, off, none⟩) 64 c := hR 0 (by omega)
      have h1 : (vs 1) = .int .i64 63 := hR 1 (by omega)
      have h2 : (vs 2) = .pointer (some ⟨b, off + 63, none⟩) := hR 2 (by omega)
      have h3 : (vs 3) = .int .u8 (y0 : Int) := hR 3 (by omega)
      have h4 : (vs 4) = .slice (some ⟨b, off, none⟩) 64 c := hR 4 (by omega)
      have h5 : (vs 5) = .int .i64 63 := hR 5 (by omega)
      have h6 : (vs 6) = .int .i64 62 := hR 6 (by omega)
      have h7 : (vs 7) = .pointer (some ⟨b, off + 62, none⟩) := hR 7 (by omega)
      have h8 : (vs 8) = .int .u8 (y1 : Int) := hR 8 (by omega)
      have h9 : (vs 9) = .slice (some ⟨b, off, none⟩) 64 c := hR 9 (by omega)
      have h10 : (vs 10) = .int .i64 63 := hR 10 (by omega)
      have h11 : (vs 11) = .int .i64 61 := hR 11 (by omega)
      have h12 : (vs 12) = .pointer (some ⟨b, off + 61, none⟩) := hR 12 (by omega)
      have h13 : (vs 13) = .int .u8 (y2 : Int) := hR 13 (by omega)
      have h14 : (vs 14) = .slice (some ⟨b, off, none⟩) 64 c := hR 14 (by omega)
      have h15 : (vs 15) = .int .i64 63 := hR 15 (by omega)
      have h16 : (vs 16) = .int .i64 60 := hR 16 (by omega)
      have h17 : (vs 17) = .pointer (some ⟨b, off + 60, none⟩) := hR 17 (by omega)
      have h18 : (vs 18) = .int .u8 (y3 : Int) := hR 18 (by omega)
      have h19 : (vs 19) = .agg #[.int .u8 (y0 : Int), .int .i64 (E2 : Int)] := hR 19 (by omega)
      have h20 : ∃ r, (vs 20) = .pointer (some ⟨r, 0, none⟩) ∧ q2.heap.size ≤ r ∧ p.heap[r]? = some (.cells #[.int .u8 0, .int .i64 0] 60 (0, 0)) := hR 20 (by omega)
      clear hR
      simp only [List.range_succ, List.range_zero, List.nil_append, List.cons_append, Roll.putD, Act.put, List.getD_cons_zero, List.getD_cons_succ, List.setIfInBounds_toArray, List.set_cons_zero, List.set_cons_succ, List.drop_succ_cons, List.drop_zero, Dds3]
      simp only [h0, h1, h2, h3, h4, h5, h6, h7, h8, h9, h10, h11, h12, h13, h14, h15, h16, h17, h18, h19]
      clear h0 h1 h2 h3 h4 h5 h6 h7 h8 h9 h10 h11 h12 h13 h14 h15 h16 h17 h18 h19
      generalize vs 20 = v20 at *
      obtain ⟨r2, rfl, hr2, hh2⟩ := h20
      have HI := Lib.hid hI
      have HR2 := Lib.hid hr2
      have HH3 := Lib.hid hh2
      clear hI hr2 hh2
      go_wp2_with (first | (refine wpList_store_row rfl 60 (.tmp 6) (.tmp 39) rfl r2 _ rfl rfl 60 _ HH3.out (sizeS _ _) rfl (oneS _ _) ?_))
      obtain ⟨q3, hq3⟩ : ∃ q3, q3 = p.setRow r2 #[.int .u8 (y0 : Int), .int .i64 (E2 : Int)] := ⟨_, rfl⟩
      rw [← hq3]
      have HBq3 : Hid (Below q2.heap.size q2 q3) := Lib.hid (by rw [hq3]; exact below_setRow HI.out HR2.out _)
      have HH2' : Hid (q3.heap[r2]? = some (.cells #[.int .u8 (y0 : Int), .int .i64 (E2 : Int)] 60 (0, 0))) := Lib.hid (by rw [hq3]; exact setRow_heap _ _ _ _ _ _ HH3.out)
      have HZ2 : Hid (q3.heap[g2]? = some (.cells #[.int .u8 0, .int .i64 0] 60 (0, 0))) := Lib.hid ((Kept.of_below (fun _ => False) (HBq.out.trans (HBq3.out.mono HBq.out.size))).heap HZ.out (fun h => h))
      have HBQ2 : Hid (Below w.heap.size w q3) := Lib.hid (HBW.out.trans ((HBq.out.trans (HBq3.out.mono HBq.out.size)).mono HBW.out.size))
      have HG2q : Hid (g2 < q.heap.size) := Lib.hid (Array.getElem?_eq_some_iff.1 HZ.out).1
      have HH1 : Hid (q3.heap[r1]? = some (.cells #[.int .u8 (x0 : Int), .int .i64 (E1 : Int)] 60 (0, 0)) ∧ ¬ r1 = g2) := Lib.hid ⟨(Kept.of_below (fun _ => False) HBq3.out).heap HH2.out (fun h => h), by have := HR1.out; have := HG2q.out; omega⟩
      have HH2x : Hid (q3.heap[r2]? = some (.cells #[.int .u8 (y0 : Int), .int .i64 (E2 : Int)] 60 (0, 0)) ∧ ¬ r2 = g2) := Lib.hid ⟨HH2'.out, by have := HR2.out; have := HG2q.out; have := HBq.out.size; omega⟩
      clear HH2 HH2' HH3 HBQ HBR HBq HBq3 HI hq3 D60 D61 D62 D63 HZ HR1q
      by_cases heq : x0 = y0 ∧ E1 = E2
      · have HEQ := Lib.hid heq
        by_cases hge : 128 ≤ E1
        · have HGE : Hid ((128 : Int) ≤ (E1 : Int)) := Lib.hid (by omega)
          have HB : Hid (decide (x0 = y0 ∧ E1 = E2 ∧ 128 ≤ E1) = true) := Lib.hid (decide_eq_true ⟨heq.1, heq.2, hge⟩)
          clear heq hge
          refine Roll.region_w 11 49 Dds4g Lds4g [(2, .pointer (some ⟨g2, 0, none⟩)), (5, .pointer (some ⟨r1, 0, none⟩)), (6, .pointer (some ⟨r2, 0, none⟩))] 9 [true, true, true, true, true, true, true, true, true, false, true] (fun p => p.heap[g2]? = some (.cells #[.int .u8 0, .int .i64 0] 60 (0, 0)) ∧ Kept (fun x => x = g2) q3 p) (fun vv p => p.heap[g2]? = some (.cells #[.int .u8 (x0 : Int), .int .i64 (E1 : Int)] 60 (0, 0)) ∧ Kept (fun x => x = g2) q3 p) (fun p => Kept (fun x => x = g2) q3 p) (fun p p2 => Kept (fun x => x = g2) p p2) [fun vv p => (vv 0) = .agg #[.int .u8 (x0 : Int), .int .i64 (E1 : Int)], fun vv p => (vv 1) = .agg #[.int .u8 (x0 : Int), .int .i64 (E1 : Int)], fun vv p => (vv 2) = .agg #[.int .u8 (y0 : Int), .int .i64 (E2 : Int)], fun vv p => (vv 3) = .bool true, fun vv p => (vv 4) = .bool true, fun vv p => (vv 5) = .pointer (some ⟨r1, 1, none⟩), fun vv p => (vv 6) = .int .i64 (E1 : Int), fun vv p => (vv 7) = .bool true, fun vv p => (vv 8) = .bool true, fun vv p => True, fun vv p => (vv 10) = .bool true] (by kernel_rfl) (by kernel_rfl) rfl ⟨rfl, rfl, rfl, trivial⟩ (⟨HZ2.out, (Kept.refl _ _).drew⟩) (by decide) (by kernel_rfl) (fun _ h => h.2) (fun _ _ h => h.2) (fun _ => Kept.refl _ _) ?_ ?_ ?_
          · exact ⟨fun _ _ _ _ h => h, fun _ _ _ _ h => h, fun _ _ _ _ h => h, fun _ _ _ _ h => h, fun _ _ _ _ h => h, fun _ _ _ _ h => h, fun _ _ _ _ h => h, fun _ _ _ _ h => h, fun _ _ _ _ h => h, fun _ _ _ _ h => h, fun _ _ _ _ h => h, trivial⟩
          · intro b0 hN hlv
            refine ⟨?_, ?_, ?_, ?_, ?_, ?_, ?_, ?_, ?_, ?_, ?_, trivial⟩
            · intro vs p hI0 hp
              have hI := Roll.inw_pure (by decide) rfl hI0
              clear hI0
              have e5 : (Roll.putD Dds4g vs [] b0).eval (.tmp 5) = .pointer (some ⟨r1, 0, none⟩) := (Roll.eval_old rfl).trans (hlv.at 1 (5, .pointer (some ⟨r1, 0, none⟩)) rfl)
              clear hp hlv hN
              unfold Roll.Goes
              simp only [Lds4g, List.getD_cons_zero, List.getD_cons_succ]
              generalize Roll.putD Dds4g vs [] b0 = a1 at *
              refine Roll.goes_load_row rfl 60 (.tmp 5) rfl r1 e5 60 #[.int .u8 (x0 : Int), .int .i64 (E1 : Int)] (0, 0) _ (hI.heap HH1.out.1 HH1.out.2) Tryd.underlying60 rfl (sizeS _ _) ⟨(Roll.outw_pure (by decide) rfl), rfl⟩
            · intro vs p hI0 hp
              have hI := Roll.inw_pure (by decide) rfl hI0
              clear hI0
              have e5 : (Roll.putD Dds4g vs [] b0).eval (.tmp 5) = .pointer (some ⟨r1, 0, none⟩) := (Roll.eval_old rfl).trans (hlv.at 1 (5, .pointer (some ⟨r1, 0, none⟩)) rfl)
              clear hp hlv hN
              unfold Roll.Goes
              simp only [Lds4g, List.getD_cons_zero, List.getD_cons_succ]
              generalize Roll.putD Dds4g vs [] b0 = a1 at *
              refine Roll.goes_load_row rfl 60 (.tmp 5) rfl r1 e5 60 #[.int .u8 (x0 : Int), .int .i64 (E1 : Int)] (0, 0) _ (hI.heap HH1.out.1 HH1.out.2) Tryd.underlying60 rfl (sizeS _ _) ⟨(Roll.outw_pure (by decide) rfl), rfl⟩
            · intro vs p hI0 hp
              have hI := Roll.inw_pure (by decide) rfl hI0
              clear hI0
              have e6 : (Roll.putD Dds4g vs [] b0).eval (.tmp 6) = .pointer (some ⟨r2, 0, none⟩) := (Roll.eval_old rfl).trans (hlv.at 2 (6, .pointer (some ⟨r2, 0, none⟩)) rfl)
              clear hp hlv hN
              unfold Roll.Goes
              simp only [Lds4g, List.getD_cons_zero, List.getD_cons_succ]
              generalize Roll.putD Dds4g vs [] b0 = a1 at *
              refine Roll.goes_load_row rfl 60 (.tmp 6) rfl r2 e6 60 #[.int .u8 (y0 : Int), .int .i64 (E2 : Int)] (0, 0) _ (hI.heap HH2x.out.1 HH2x.out.2) Tryd.underlying60 rfl (sizeS _ _) ⟨(Roll.outw_pure (by decide) rfl), rfl⟩
            · intro vs p hI0 hp
              have hI := Roll.inw_pure (by decide) rfl hI0
              clear hI0
              have h1 : (vs 1) = .agg #[.int .u8 (x0 : Int), .int .i64 (E1 : Int)] := hp 1 (by simp [Lds4g])
              have h2 : (vs 2) = .agg #[.int .u8 (y0 : Int), .int .i64 (E2 : Int)] := hp 2 (by simp [Lds4g])
              have e41 : (Roll.putD Dds4g vs [1, 2] b0).eval (.tmp 41) = .agg #[.int .u8 (x0 : Int), .int .i64 (E1 : Int)] := (Roll.eval_new 1 rfl (by decide) (by decide) (by omega)).trans h1
              have e42 : (Roll.putD Dds4g vs [1, 2] b0).eval (.tmp 42) = .agg #[.int .u8 (y0 : Int), .int .i64 (E2 : Int)] := (Roll.eval_new 2 rfl (by decide) (by decide) (by omega)).trans h2
              clear hp hlv hN
              unfold Roll.Goes
              simp only [Lds4g, List.getD_cons_zero, List.getD_cons_succ]
              generalize Roll.putD Dds4g vs [1, 2] b0 = a1 at *
              refine Roll.goes_val (w' := p) (.bool true) rfl ?_ ⟨(Roll.outw_pure (by decide) rfl), rfl⟩
              (have ec : ∀ x, a1.eval (.const x) = x := fun _ => rfl); (have ef : ∀ x, a1.eval (.func x) = .func (.func x) #[] #[] := fun _ => rfl); generalize a1.eval = ρ at *
              clear h1 h2
              go_simp <;> (have heq := HEQ.out; (repeat' split) <;> first | rfl | (exfalso; omega) | (intros; omega) | omega)
            · intro vs p hI0 hp
              have hI := Roll.inw_pure (by decide) rfl hI0
              clear hI0
              have h3 : (vs 3) = .bool true := hp 3 (by simp [Lds4g])
              have e43 : (Roll.putD Dds4g vs [3] b0).eval (.tmp 43) = .bool true := (Roll.eval_new 3 rfl (by decide) (by decide) (by omega)).trans h3
              clear hp hlv hN
              unfold Roll.Goes
              simp only [Lds4g, List.getD_cons_zero, List.getD_cons_succ]
              generalize Roll.putD Dds4g vs [3] b0 = a1 at *
              refine Roll.goes_val (w' := p) (.bool true) rfl ?_ ⟨(Roll.outw_pure (by decide) rfl), rfl⟩
              (have ec : ∀ x, a1.eval (.const x) = x := fun _ => rfl); (have ef : ∀ x, a1.eval (.func x) = .func (.func x) #[] #[] := fun _ => rfl); generalize a1.eval = ρ at *
              clear h3
              go_simp <;> (intros; first | (exfalso; omega) | rfl)
            · intro vs p hI0 hp
              have hI := Roll.inw_pure (by decide) rfl hI0
              clear hI0
              have h4 : (vs 4) = .bool true := hp 4 (by simp [Lds4g])
              have e5 : (Roll.putD Dds4g vs [4] b0).eval (.tmp 5) = .pointer (some ⟨r1, 0, none⟩) := (Roll.eval_old rfl).trans (hlv.at 1 (5, .pointer (some ⟨r1, 0, none⟩)) rfl)
              clear hp hlv hN
              refine ⟨fun hg => ?_, fun hg => absurd h4 hg⟩
              clear hg
              unfold Roll.Goes
              simp only [Lds4g, List.getD_cons_zero, List.getD_cons_succ]
              generalize Roll.putD Dds4g vs [4] b0 = a1 at *
              refine Roll.goes_val (w' := p) (.pointer (some ⟨r1, 1, none⟩)) rfl ?_ ⟨(Roll.outw_pure (by decide) rfl), rfl⟩
              (have ec : ∀ x, a1.eval (.const x) = x := fun _ => rfl); (have ef : ∀ x, a1.eval (.func x) = .func (.func x) #[] #[] := fun _ => rfl); generalize a1.eval = ρ at *
              clear h4
              go_simp <;> (intros; first | (exfalso; omega) | rfl)
            · intro vs p hI0 hp
              have hI := Roll.inw_pure (by decide) rfl hI0
              clear hI0
              have h5 : (vs 5) = .pointer (some ⟨r1, 1, none⟩) := hp 5 (by simp [Lds4g])
              have h4 : (vs 4) = .bool true := hp 4 (by simp [Lds4g])
              have e45 : (Roll.putD Dds4g vs [5, 4] b0).eval (.tmp 45) = .pointer (some ⟨r1, 1, none⟩) := (Roll.eval_new 5 rfl (by decide) (by decide) (by omega)).trans h5
              clear hp hlv hN
              refine ⟨fun hg => ?_, fun hg => absurd h4 hg⟩
              clear hg
              unfold Roll.Goes
              simp only [Lds4g, List.getD_cons_zero, List.getD_cons_succ]
              generalize Roll.putD Dds4g vs [5, 4] b0 = a1 at *
              have cf : p.cell? ⟨r1, 1, none⟩ = some (.int .i64 (E1 : Int)) := by rw [cell_of_row p r1 1 _ _ _ (hI.heap HH1.out.1 HH1.out.2)]; rfl
              refine Roll.goes_val (w' := p) (.int .i64 (E1 : Int)) rfl ?_ ⟨(Roll.outw_pure (by decide) rfl), rfl⟩
              (have ec : ∀ x, a1.eval (.const x) = x := fun _ => rfl); (have ef : ∀ x, a1.eval (.func x) = .func (.func x) #[] #[] := fun _ => rfl); generalize a1.eval = ρ at *
              clear h5 h4
              go_simp <;> (intros; first | (exfalso; omega) | rfl)
            · intro vs p hI0 hp
              have hI := Roll.inw_pure (by decide) rfl hI0
              clear hI0
              have h6 : (vs 6) = .int .i64 (E1 : Int) := hp 6 (by simp [Lds4g])
              have h4 : (vs 4) = .bool true := hp 4 (by simp [Lds4g])
              have e46 : (Roll.putD Dds4g vs [6, 4] b0).eval (.tmp 46) = .int .i64 (E1 : Int) := (Roll.eval_new 6 rfl (by decide) (by decide) (by omega)).trans h6
              clear hp hlv hN
              refine ⟨fun hg => ?_, fun hg => absurd h4 hg⟩
              clear hg
              unfold Roll.Goes
              simp only [Lds4g, List.getD_cons_zero, List.getD_cons_succ]
              generalize Roll.putD Dds4g vs [6, 4] b0 = a1 at *
              have hge := HGE.out
              refine Roll.goes_val (w' := p) (.bool true) rfl ?_ ⟨(Roll.outw_pure (by decide) rfl), rfl⟩
              (have ec : ∀ x, a1.eval (.const x) = x := fun _ => rfl); (have ef : ∀ x, a1.eval (.func x) = .func (.func x) #[] #[] := fun _ => rfl); generalize a1.eval = ρ at *
              clear h6 h4
              go_simp <;> (intros; first | (exfalso; omega) | rfl)
            · intro vs p hI0 hp
              have hI := Roll.inw_pure (by decide) rfl hI0
              clear hI0
              have h4 : (vs 4) = .bool true := hp 4 (by simp [Lds4g])
              have h7 : (vs 7) = .bool true := hp 7 (by simp [Lds4g])
              have e44 : (Roll.putD Dds4g vs [4, 7] b0).eval (.tmp 44) = .bool true := (Roll.eval_new 4 rfl (by decide) (by decide) (by omega)).trans h4
              have e47 : (Roll.putD Dds4g vs [4, 7] b0).eval (.tmp 47) = .bool true := (Roll.eval_new 7 rfl (by decide) (by decide) (by omega)).trans h7
              clear hp hlv hN
              unfold Roll.Goes
              simp only [Lds4g, List.getD_cons_zero, List.getD_cons_succ]
              generalize Roll.putD Dds4g vs [4, 7] b0 = a1 at *
              refine Roll.goes_val (w' := p) (.bool true) rfl ?_ ⟨(Roll.outw_pure (by decide) rfl), rfl⟩
              (have ec : ∀ x, a1.eval (.const x) = x := fun _ => rfl); (have ef : ∀ x, a1.eval (.func x) = .func (.func x) #[] #[] := fun _ => rfl); generalize a1.eval = ρ at *
              clear h4 h7
              go_simp <;> (intros; first | (exfalso; omega) | rfl)
            · intro vs p hI0 hp
              have hI := Roll.inw_k0 rfl hI0
              clear hI0
              have h0 : (vs 0) = .agg #[.int .u8 (x0 : Int), .int .i64 (E1 : Int)] := hp 0 (by simp [Lds4g])
              have e2 : (Roll.putD Dds4g vs [0] b0).eval (.tmp 2) = .pointer (some ⟨g2, 0, none⟩) := (Roll.eval_old rfl).trans (hlv.at 0 (2, .pointer (some ⟨g2, 0, none⟩)) rfl)
              have e40 : (Roll.putD Dds4g vs [0] b0).eval (.tmp 40) = .agg #[.int .u8 (x0 : Int), .int .i64 (E1 : Int)] := (Roll.eval_new 0 rfl (by decide) (by decide) (by omega)).trans h0
              clear hp hlv hN
              unfold Roll.Goes
              simp only [Lds4g, List.getD_cons_zero, List.getD_cons_succ]
              generalize Roll.putD Dds4g vs [0] b0 = a1 at *
              refine Roll.goes_store_row rfl 60 (.tmp 2) (.tmp 40) rfl g2 _ e2 e40 60 #[.int .u8 0, .int .i64 0] hI.1 (sizeS _ _) rfl (oneS _ _) ?_
              have hk : Kept (fun x => x = g2) p (p.setRow g2 #[.int .u8 (x0 : Int), .int .i64 (E1 : Int)]) := (Kept.refl (fun x => x = g2) p).setRow (fun _ => rfl) _
              exact ⟨Roll.outw_k0 rfl ⟨setRow_heap _ _ _ _ _ _ hI.1, hI.2.trans hk (fun _ _ h => h)⟩ hk, trivial⟩
            · intro vs p hI0 hp
              have hI := Roll.inw_pure (by decide) rfl hI0
              clear hI0
              have h8 : (vs 8) = .bool true := hp 8 (by simp [Lds4g])
              have e48 : (Roll.putD Dds4g vs [8] b0).eval (.tmp 48) = .bool true := (Roll.eval_new 8 rfl (by decide) (by decide) (by omega)).trans h8
              clear hp hlv hN
              unfold Roll.Goes
              simp only [Lds4g, List.getD_cons_zero, List.getD_cons_succ]
              generalize Roll.putD Dds4g vs [8] b0 = a1 at *
              refine Roll.goes_val (w' := p) (.bool true) rfl ?_ ⟨(Roll.outw_pure (by decide) rfl), rfl⟩
              (have ec : ∀ x, a1.eval (.const x) = x := fun _ => rfl); (have ef : ∀ x, a1.eval (.func x) = .func (.func x) #[] #[] := fun _ => rfl); generalize a1.eval = ρ at *
              clear h8
              go_simp <;> (intros; first | (exfalso; omega) | rfl)
          · intro vs p hI hR
            have h0 : (vs 0) = .agg #[.int .u8 (x0 : Int), .int .i64 (E1 : Int)] := hR 0 (by omega)
            have h1 : (vs 1) = .agg #[.int .u8 (x0 : Int), .int .i64 (E1 : Int)] := hR 1 (by omega)
            have h2 : (vs 2) = .agg #[.int .u8 (y0 : Int), .int .i64 (E2 : Int)] := hR 2 (by omega)
            have h3 : (vs 3) = .bool true := hR 3 (by omega)
            have h4 : (vs 4) = .bool true := hR 4 (by omega)
            have h5 : (vs 5) = .pointer (some ⟨r1, 1, none⟩) := hR 5 (by omega)
            have h6 : (vs 6) = .int .i64 (E1 : Int) := hR 6 (by omega)
            have h7 : (vs 7) = .bool true := hR 7 (by omega)
            have h8 : (vs 8) = .bool true := hR 8 (by omega)
            have h9 : True := hR 9 (by omega)
            have h10 : (vs 10) = .bool true := hR 10 (by omega)
            clear hR
            simp only [List.range_succ, List.range_zero, List.nil_append, List.cons_append, Roll.putD, Act.put, List.getD_cons_zero, List.getD_cons_succ, List.setIfInBounds_toArray, List.set_cons_zero, List.set_cons_succ, List.drop_succ_cons, List.drop_zero, Dds4g]
            simp only [h0, h1, h2, h3, h4, h5, h6, h7, h8, h10]
            clear h0 h1 h2 h3 h4 h5 h6 h7 h8 h10
            clear h9
            have HF := Lib.hid hI.1
            have HK := Lib.hid hI.2
            clear hI
            go_wp2_with fail
            refine bodyPost_ret (results_two _ _ g2 _ _ _ rfl rfl HF.out) rfl ⟨by rw [HB.out], HBQ2.out.trans (HK.out.below HBQ2.out.size (fun j hj e => by have := HG2.out; omega))⟩
        · have HGE : Hid (decide ((128 : Int) ≤ (E1 : Int)) = false ∧ (E1 : Int) < 128) := Lib.hid ⟨decide_eq_false (by omega), by omega⟩
          have HB : Hid (decide (x0 = y0 ∧ E1 = E2 ∧ 128 ≤ E1) = false) := Lib.hid (decide_eq_false (fun h => hge h.2.2))
          clear heq hge
          refine Roll.region_w 11 49 Dds4e Lds4e [(2, .pointer (some ⟨g2, 0, none⟩)), (5, .pointer (some ⟨r1, 0, none⟩)), (6, .pointer (some ⟨r2, 0, none⟩))] 9 [true, true, true, true, true, true, true, true, true, false, true] (fun p => p.heap[g2]? = some (.cells #[.int .u8 0, .int .i64 0] 60 (0, 0)) ∧ Kept (fun x => x = g2) q3 p) (fun vv p => p.heap[g2]? = some (.cells #[.int .u8 (x0 : Int), .int .i64 (E1 : Int)] 60 (0, 0)) ∧ Kept (fun x => x = g2) q3 p) (fun p => Kept (fun x => x = g2) q3 p) (fun p p2 => Kept (fun x => x = g2) p p2) [fun vv p => (vv 0) = .agg #[.int .u8 (x0 : Int), .int .i64 (E1 : Int)], fun vv p => (vv 1) = .agg #[.int .u8 (x0 : Int), .int .i64 (E1 : Int)], fun vv p => (vv 2) = .agg #[.int .u8 (y0 : Int), .int .i64 (E2 : Int)], fun vv p => (vv 3) = .bool true, fun vv p => (vv 4) = .bool true, fun vv p => (vv 5) = .pointer (some ⟨r1, 1, none⟩), fun vv p => (vv 6) = .int .i64 (E1 : Int), fun vv p => (vv 7) = .bool false, fun vv p => (vv 8) = .bool false, fun vv p => True, fun vv p => (vv 10) = .bool false] (by kernel_rfl) (by kernel_rfl) rfl ⟨rfl, rfl, rfl, trivial⟩ (⟨HZ2.out, (Kept.refl _ _).drew⟩) (by decide) (by kernel_rfl) (fun _ h => h.2) (fun _ _ h => h.2) (fun _ => Kept.refl _ _) ?_ ?_ ?_
          · exact ⟨fun _ _ _ _ h => h, fun _ _ _ _ h => h, fun _ _ _ _ h => h, fun _ _ _ _ h => h, fun _ _ _ _ h => h, fun _ _ _ _ h => h, fun _ _ _ _ h => h, fun _ _ _ _ h => h, fun _ _ _ _ h => h, fun _ _ _ _ h => h, fun _ _ _ _ h => h, trivial⟩
          · intro b0 hN hlv
            refine ⟨?_, ?_, ?_, ?_, ?_, ?_, ?_, ?_, ?_, ?_, ?_, trivial⟩
            · intro vs p hI0 hp
              have hI := Roll.inw_pure (by decide) rfl hI0
              clear hI0
              have e5 : (Roll.putD Dds4e vs [] b0).eval (.tmp 5) = .pointer (some ⟨r1, 0, none⟩) := (Roll.eval_old rfl).trans (hlv.at 1 (5, .pointer (some ⟨r1, 0, none⟩)) rfl)
              clear hp hlv hN
              unfold Roll.Goes
              simp only [Lds4e, List.getD_cons_zero, List.getD_cons_succ]
              generalize Roll.putD Dds4e vs [] b0 = a1 at *
              refine Roll.goes_load_row rfl 60 (.tmp 5) rfl r1 e5 60 #[.int .u8 (x0 : Int), .int .i64 (E1 : Int)] (0, 0) _ (hI.heap HH1.out.1 HH1.out.2) Tryd.underlying60 rfl (sizeS _ _) ⟨(Roll.outw_pure (by decide) rfl), rfl⟩
            · intro vs p hI0 hp
              have hI := Roll.inw_pure (by decide) rfl hI0
              clear hI0
              have e5 : (Roll.putD Dds4e vs [] b0).eval (.tmp 5) = .pointer (some ⟨r1, 0, none⟩) := (Roll.eval_old rfl).trans (hlv.at 1 (5, .pointer (some ⟨r1, 0, none⟩)) rfl)
              clear hp hlv hN
              unfold Roll.Goes
              simp only [Lds4e, List.getD_cons_zero, List.getD_cons_succ]
              generalize Roll.putD Dds4e vs [] b0 = a1 at *
              refine Roll.goes_load_row rfl 60 (.tmp 5) rfl r1 e5 60 #[.int .u8 (x0 : Int), .int .i64 (E1 : Int)] (0, 0) _ (hI.heap HH1.out.1 HH1.out.2) Tryd.underlying60 rfl (sizeS _ _) ⟨(Roll.outw_pure (by decide) rfl), rfl⟩
            · intro vs p hI0 hp
              have hI := Roll.inw_pure (by decide) rfl hI0
              clear hI0
              have e6 : (Roll.putD Dds4e vs [] b0).eval (.tmp 6) = .pointer (some ⟨r2, 0, none⟩) := (Roll.eval_old rfl).trans (hlv.at 2 (6, .pointer (some ⟨r2, 0, none⟩)) rfl)
              clear hp hlv hN
              unfold Roll.Goes
              simp only [Lds4e, List.getD_cons_zero, List.getD_cons_succ]
              generalize Roll.putD Dds4e vs [] b0 = a1 at *
              refine Roll.goes_load_row rfl 60 (.tmp 6) rfl r2 e6 60 #[.int .u8 (y0 : Int), .int .i64 (E2 : Int)] (0, 0) _ (hI.heap HH2x.out.1 HH2x.out.2) Tryd.underlying60 rfl (sizeS _ _) ⟨(Roll.outw_pure (by decide) rfl), rfl⟩
            · intro vs p hI0 hp
              have hI := Roll.inw_pure (by decide) rfl hI0
              clear hI0
              have h1 : (vs 1) = .agg #[.int .u8 (x0 : Int), .int .i64 (E1 : Int)] := hp 1 (by simp [Lds4e])
              have h2 : (vs 2) = .agg #[.int .u8 (y0 : Int), .int .i64 (E2 : Int)] := hp 2 (by simp [Lds4e])
              have e41 : (Roll.putD Dds4e vs [1, 2] b0).eval (.tmp 41) = .agg #[.int .u8 (x0 : Int), .int .i64 (E1 : Int)] := (Roll.eval_new 1 rfl (by decide) (by decide) (by omega)).trans h1
              have e42 : (Roll.putD Dds4e vs [1, 2] b0).eval (.tmp 42) = .agg #[.int .u8 (y0 : Int), .int .i64 (E2 : Int)] := (Roll.eval_new 2 rfl (by decide) (by decide) (by omega)).trans h2
              clear hp hlv hN
              unfold Roll.Goes
              simp only [Lds4e, List.getD_cons_zero, List.getD_cons_succ]
              generalize Roll.putD Dds4e vs [1, 2] b0 = a1 at *
              refine Roll.goes_val (w' := p) (.bool true) rfl ?_ ⟨(Roll.outw_pure (by decide) rfl), rfl⟩
              (have ec : ∀ x, a1.eval (.const x) = x := fun _ => rfl); (have ef : ∀ x, a1.eval (.func x) = .func (.func x) #[] #[] := fun _ => rfl); generalize a1.eval = ρ at *
              clear h1 h2
              go_simp <;> (have heq := HEQ.out; (repeat' split) <;> first | rfl | (exfalso; omega) | (intros; omega) | omega)
            · intro vs p hI0 hp
              have hI := Roll.inw_pure (by decide) rfl hI0
              clear hI0
              have h3 : (vs 3) = .bool true := hp 3 (by simp [Lds4e])
              have e43 : (Roll.putD Dds4e vs [3] b0).eval (.tmp 43) = .bool true := (Roll.eval_new 3 rfl (by decide) (by decide) (by omega)).trans h3
              clear hp hlv hN
              unfold Roll.Goes
              simp only [Lds4e, List.getD_cons_zero, List.getD_cons_succ]
              generalize Roll.putD Dds4e vs [3] b0 = a1 at *
              refine Roll.goes_val (w' := p) (.bool true) rfl ?_ ⟨(Roll.outw_pure (by decide) rfl), rfl⟩
              (have ec : ∀ x, a1.eval (.const x) = x := fun _ => rfl); (have ef : ∀ x, a1.eval (.func x) = .func (.func x) #[] #[] := fun _ => rfl); generalize a1.eval = ρ at *
              clear h3
              go_simp <;> (intros; first | (exfalso; omega) | rfl)
            · intro vs p hI0 hp
              have hI := Roll.inw_pure (by decide) rfl hI0
              clear hI0
              have h4 : (vs 4) = .bool true := hp 4 (by simp [Lds4e])
              have e5 : (Roll.putD Dds4e vs [4] b0).eval (.tmp 5) = .pointer (some ⟨r1, 0, none⟩) := (Roll.eval_old rfl).trans (hlv.at 1 (5, .pointer (some ⟨r1, 0, none⟩)) rfl)
              clear hp hlv hN
              refine ⟨fun hg => ?_, fun hg => absurd h4 hg⟩
              clear hg
              unfold Roll.Goes
              simp only [Lds4e, List.getD_cons_zero, List.getD_cons_succ]
              generalize Roll.putD Dds4e vs [4] b0 = a1 at *
              refine Roll.goes_val (w' := p) (.pointer (some ⟨r1, 1, none⟩)) rfl ?_ ⟨(Roll.outw_pure (by decide) rfl), rfl⟩
              (have ec : ∀ x, a1.eval (.const x) = x := fun _ => rfl); (have ef : ∀ x, a1.eval (.func x) = .func (.func x) #[] #[] := fun _ => rfl); generalize a1.eval = ρ at *
              clear h4
              go_simp <;> (intros; first | (exfalso; omega) | rfl)
            · intro vs p hI0 hp
              have hI := Roll.inw_pure (by decide) rfl hI0
              clear hI0
              have h5 : (vs 5) = .pointer (some ⟨r1, 1, none⟩) := hp 5 (by simp [Lds4e])
              have h4 : (vs 4) = .bool true := hp 4 (by simp [Lds4e])
              have e45 : (Roll.putD Dds4e vs [5, 4] b0).eval (.tmp 45) = .pointer (some ⟨r1, 1, none⟩) := (Roll.eval_new 5 rfl (by decide) (by decide) (by omega)).trans h5
              clear hp hlv hN
              refine ⟨fun hg => ?_, fun hg => absurd h4 hg⟩
              clear hg
              unfold Roll.Goes
              simp only [Lds4e, List.getD_cons_zero, List.getD_cons_succ]
              generalize Roll.putD Dds4e vs [5, 4] b0 = a1 at *
              have cf : p.cell? ⟨r1, 1, none⟩ = some (.int .i64 (E1 : Int)) := by rw [cell_of_row p r1 1 _ _ _ (hI.heap HH1.out.1 HH1.out.2)]; rfl
              refine Roll.goes_val (w' := p) (.int .i64 (E1 : Int)) rfl ?_ ⟨(Roll.outw_pure (by decide) rfl), rfl⟩
              (have ec : ∀ x, a1.eval (.const x) = x := fun _ => rfl); (have ef : ∀ x, a1.eval (.func x) = .func (.func x) #[] #[] := fun _ => rfl); generalize a1.eval = ρ at *
              clear h5 h4
              go_simp <;> (intros; first | (exfalso; omega) | rfl)
            · intro vs p hI0 hp
              have hI := Roll.inw_pure (by decide) rfl hI0
              clear hI0
              have h6 : (vs 6) = .int .i64 (E1 : Int) := hp 6 (by simp [Lds4e])
              have h4 : (vs 4) = .bool true := hp 4 (by simp [Lds4e])
              have e46 : (Roll.putD Dds4e vs [6, 4] b0).eval (.tmp 46) = .int .i64 (E1 : Int) := (Roll.eval_new 6 rfl (by decide) (by decide) (by omega)).trans h6
              clear hp hlv hN
              refine ⟨fun hg => ?_, fun hg => absurd h4 hg⟩
              clear hg
              unfold Roll.Goes
              simp only [Lds4e, List.getD_cons_zero, List.getD_cons_succ]
              generalize Roll.putD Dds4e vs [6, 4] b0 = a1 at *
              obtain ⟨hge, hge2⟩ := HGE.out
              refine Roll.goes_val (w' := p) (.bool false) rfl ?_ ⟨(Roll.outw_pure (by decide) rfl), rfl⟩
              (have ec : ∀ x, a1.eval (.const x) = x := fun _ => rfl); (have ef : ∀ x, a1.eval (.func x) = .func (.func x) #[] #[] := fun _ => rfl); generalize a1.eval = ρ at *
              clear h6 h4
              go_simp <;> (intros; first | (exfalso; omega) | rfl)
            · intro vs p hI0 hp
              have hI := Roll.inw_pure (by decide) rfl hI0
              clear hI0
              have h4 : (vs 4) = .bool true := hp 4 (by simp [Lds4e])
              have h7 : (vs 7) = .bool false := hp 7 (by simp [Lds4e])
              have e44 : (Roll.putD Dds4e vs [4, 7] b0).eval (.tmp 44) = .bool true := (Roll.eval_new 4 rfl (by decide) (by decide) (by omega)).trans h4
              have e47 : (Roll.putD Dds4e vs [4, 7] b0).eval (.tmp 47) = .bool false := (Roll.eval_new 7 rfl (by decide) (by decide) (by omega)).trans h7
              clear hp hlv hN
              unfold Roll.Goes
              simp only [Lds4e, List.getD_cons_zero, List.getD_cons_succ]
              generalize Roll.putD Dds4e vs [4, 7] b0 = a1 at *
              refine Roll.goes_val (w' := p) (.bool false) rfl ?_ ⟨(Roll.outw_pure (by decide) rfl), rfl⟩
              (have ec : ∀ x, a1.eval (.const x) = x := fun _ => rfl); (have ef : ∀ x, a1.eval (.func x) = .func (.func x) #[] #[] := fun _ => rfl); generalize a1.eval = ρ at *
              clear h4 h7
              go_simp <;> (intros; first | (exfalso; omega) | rfl)
            · intro vs p hI0 hp
              have hI := Roll.inw_k0 rfl hI0
              clear hI0
              have h0 : (vs 0) = .agg #[.int .u8 (x0 : Int), .int .i64 (E1 : Int)] := hp 0 (by simp [Lds4e])
              have e2 : (Roll.putD Dds4e vs [0] b0).eval (.tmp 2) = .pointer (some ⟨g2, 0, none⟩) := (Roll.eval_old rfl).trans (hlv.at 0 (2, .pointer (some ⟨g2, 0, none⟩)) rfl)
              have e40 : (Roll.putD Dds4e vs [0] b0).eval (.tmp 40) = .agg #[.int .u8 (x0 : Int), .int .i64 (E1 : Int)] := (Roll.eval_new 0 rfl (by decide) (by decide) (by omega)).trans h0
              clear hp hlv hN
              unfold Roll.Goes
              simp only [Lds4e, List.getD_cons_zero, List.getD_cons_succ]
              generalize Roll.putD Dds4e vs [0] b0 = a1 at *
              refine Roll.goes_store_row rfl 60 (.tmp 2) (.tmp 40) rfl g2 _ e2 e40 60 #[.int .u8 0, .int .i64 0] hI.1 (sizeS _ _) rfl (oneS _ _) ?_
              have hk : Kept (fun x => x = g2) p (p.setRow g2 #[.int .u8 (x0 : Int), .int .i64 (E1 : Int)]) := (Kept.refl (fun x => x = g2) p).setRow (fun _ => rfl) _
              exact ⟨Roll.outw_k0 rfl ⟨setRow_heap _ _ _ _ _ _ hI.1, hI.2.trans hk (fun _ _ h => h)⟩ hk, trivial⟩
            · intro vs p hI0 hp
              have hI := Roll.inw_pure (by decide) rfl hI0
              clear hI0
              have h8 : (vs 8) = .bool false := hp 8 (by simp [Lds4e])
              have e48 : (Roll.putD Dds4e vs [8] b0).eval (.tmp 48) = .bool false := (Roll.eval_new 8 rfl (by decide) (by decide) (by omega)).trans h8
              clear hp hlv hN
              unfold Roll.Goes
              simp only [Lds4e, List.getD_cons_zero, List.getD_cons_succ]
              generalize Roll.putD Dds4e vs [8] b0 = a1 at *
              refine Roll.goes_val (w' := p) (.bool false) rfl ?_ ⟨(Roll.outw_pure (by decide) rfl), rfl⟩
              (have ec : ∀ x, a1.eval (.const x) = x := fun _ => rfl); (have ef : ∀ x, a1.eval (.func x) = .func (.func x) #[] #[] := fun _ => rfl); generalize a1.eval = ρ at *
              clear h8
              go_simp <;> (intros; first | (exfalso; omega) | rfl)
          · intro vs p hI hR
            have h0 : (vs 0) = .agg #[.int .u8 (x0 : Int), .int .i64 (E1 : Int)] := hR 0 (by omega)
            have h1 : (vs 1) = .agg #[.int .u8 (x0 : Int), .int .i64 (E1 : Int)] := hR 1 (by omega)
            have h2 : (vs 2) = .agg #[.int .u8 (y0 : Int), .int .i64 (E2 : Int)] := hR 2 (by omega)
            have h3 : (vs 3) = .bool true := hR 3 (by omega)
            have h4 : (vs 4) = .bool true := hR 4 (by omega)
            have h5 : (vs 5) = .pointer (some ⟨r1, 1, none⟩) := hR 5 (by omega)
            have h6 : (vs 6) = .int .i64 (E1 : Int) := hR 6 (by omega)
            have h7 : (vs 7) = .bool false := hR 7 (by omega)
            have h8 : (vs 8) = .bool false := hR 8 (by omega)
            have h9 : True := hR 9 (by omega)
            have h10 : (vs 10) = .bool false := hR 10 (by omega)
            clear hR
            simp only [List.range_succ, List.range_zero, List.nil_append, List.cons_append, Roll.putD, Act.put, List.getD_cons_zero, List.getD_cons_succ, List.setIfInBounds_toArray, List.set_cons_zero, List.set_cons_succ, List.drop_succ_cons, List.drop_zero, Dds4e]
            simp only [h0, h1, h2, h3, h4, h5, h6, h7, h8, h10]
            clear h0 h1 h2 h3 h4 h5 h6 h7 h8 h10
            clear h9
            have HF := Lib.hid hI.1
            have HK := Lib.hid hI.2
            clear hI
            go_wp2_with fail
            refine bodyPost_ret (results_two _ _ g2 _ _ _ rfl rfl HF.out) rfl ⟨by rw [HB.out], HBQ2.out.trans (HK.out.below HBQ2.out.size (fun j hj e => by have := HG2.out; omega))⟩
      · have HEQ := Lib.hid heq
        have HB : Hid (decide (x0 = y0 ∧ E1 = E2 ∧ 128 ≤ E1) = false) := Lib.hid (decide_eq_false (fun h => heq ⟨h.1, h.2.1⟩))
        clear heq
        refine Roll.region_w 11 49 Dds4 Lds4 [(2, .pointer (some ⟨g2, 0, none⟩)), (5, .pointer (some ⟨r1, 0, none⟩)), (6, .pointer (some ⟨r2, 0, none⟩))] 9 [true, true, true, true, true, true, true, true, true, false, true] (fun p => p.heap[g2]? = some (.cells #[.int .u8 0, .int .i64 0] 60 (0, 0)) ∧ Kept (fun x => x = g2) q3 p) (fun vv p => p.heap[g2]? = some (.cells #[.int .u8 (x0 : Int), .int .i64 (E1 : Int)] 60 (0, 0)) ∧ Kept (fun x => x = g2) q3 p) (fun p => Kept (fun x => x = g2) q3 p) (fun p p2 => Kept (fun x => x = g2) p p2) [fun vv p => (vv 0) = .agg #[.int .u8 (x0 : Int), .int .i64 (E1 : Int)], fun vv p => (vv 1) = .agg #[.int .u8 (x0 : Int), .int .i64 (E1 : Int)], fun vv p => (vv 2) = .agg #[.int .u8 (y0 : Int), .int .i64 (E2 : Int)], fun vv p => (vv 3) = .bool false, fun vv p => (vv 4) = .bool false, fun vv p => (vv 5) = undef, fun vv p => (vv 6) = undef, fun vv p => (vv 7) = undef, fun vv p => (vv 8) = .bool false, fun vv p => True, fun vv p => (vv 10) = .bool false] (by kernel_rfl) (by kernel_rfl) rfl ⟨rfl, rfl, rfl, trivial⟩ (⟨HZ2.out, (Kept.refl _ _).drew⟩) (by decide) (by kernel_rfl) (fun _ h => h.2) (fun _ _ h => h.2) (fun _ => Kept.refl _ _) ?_ ?_ ?_
        · exact ⟨fun _ _ _ _ h => h, fun _ _ _ _ h => h, fun _ _ _ _ h => h, fun _ _ _ _ h => h, fun _ _ _ _ h => h, fun _ _ _ _ h => h, fun _ _ _ _ h => h, fun _ _ _ _ h => h, fun _ _ _ _ h => h, fun _ _ _ _ h => h, fun _ _ _ _ h => h, trivial⟩
        · intro b0 hN hlv
          refine ⟨?_, ?_, ?_, ?_, ?_, ?_, ?_, ?_, ?_, ?_, ?_, trivial⟩
          · intro vs p hI0 hp
            have hI := Roll.inw_pure (by decide) rfl hI0
            clear hI0
            have e5 : (Roll.putD Dds4 vs [] b0).eval (.tmp 5) = .pointer (some ⟨r1, 0, none⟩) := (Roll.eval_old rfl).trans (hlv.at 1 (5, .pointer (some ⟨r1, 0, none⟩)) rfl)
            clear hp hlv hN
            unfold Roll.Goes
            simp only [Lds4, List.getD_cons_zero, List.getD_cons_succ]
            generalize Roll.putD Dds4 vs [] b0 = a1 at *
            refine Roll.goes_load_row rfl 60 (.tmp 5) rfl r1 e5 60 #[.int .u8 (x0 : Int), .int .i64 (E1 : Int)] (0, 0) _ (hI.heap HH1.out.1 HH1.out.2) Tryd.underlying60 rfl (sizeS _ _) ⟨(Roll.outw_pure (by decide) rfl), rfl⟩
          · intro vs p hI0 hp
            have hI := Roll.inw_pure (by decide) rfl hI0
            clear hI0
            have e5 : (Roll.putD Dds4 vs [] b0).eval (.tmp 5) = .pointer (some ⟨r1, 0, none⟩) := (Roll.eval_old rfl).trans (hlv.at 1 (5, .pointer (some ⟨r1, 0, none⟩)) rfl)
            clear hp hlv hN
            unfold Roll.Goes
            simp only [Lds4, List.getD_cons_zero, List.getD_cons_succ]
            generalize Roll.putD Dds4 vs [] b0 = a1 at *
            refine Roll.goes_load_row rfl 60 (.tmp 5) rfl r1 e5 60 #[.int .u8 (x0 : Int), .int .i64 (E1 : Int)] (0, 0) _ (hI.heap HH1.out.1 HH1.out.2) Tryd.underlying60 rfl (sizeS _ _) ⟨(Roll.outw_pure (by decide) rfl), rfl⟩
          · intro vs p hI0 hp
            have hI := Roll.inw_pure (by decide) rfl hI0
            clear hI0
            have e6 : (Roll.putD Dds4 vs [] b0).eval (.tmp 6) = .pointer (some ⟨r2, 0, none⟩) := (Roll.eval_old rfl).trans (hlv.at 2 (6, .pointer (some ⟨r2, 0, none⟩)) rfl)
            clear hp hlv hN
            unfold Roll.Goes
            simp only [Lds4, List.getD_cons_zero, List.getD_cons_succ]
            generalize Roll.putD Dds4 vs [] b0 = a1 at *
            refine Roll.goes_load_row rfl 60 (.tmp 6) rfl r2 e6 60 #[.int .u8 (y0 : Int), .int .i64 (E2 : Int)] (0, 0) _ (hI.heap HH2x.out.1 HH2x.out.2) Tryd.underlying60 rfl (sizeS _ _) ⟨(Roll.outw_pure (by decide) rfl), rfl⟩
          · intro vs p hI0 hp
            have hI := Roll.inw_pure (by decide) rfl hI0
            clear hI0
            have h1 : (vs 1) = .agg #[.int .u8 (x0 : Int), .int .i64 (E1 : Int)] := hp 1 (by simp [Lds4])
            have h2 : (vs 2) = .agg #[.int .u8 (y0 : Int), .int .i64 (E2 : Int)] := hp 2 (by simp [Lds4])
            have e41 : (Roll.putD Dds4 vs [1, 2] b0).eval (.tmp 41) = .agg #[.int .u8 (x0 : Int), .int .i64 (E1 : Int)] := (Roll.eval_new 1 rfl (by decide) (by decide) (by omega)).trans h1
            have e42 : (Roll.putD Dds4 vs [1, 2] b0).eval (.tmp 42) = .agg #[.int .u8 (y0 : Int), .int .i64 (E2 : Int)] := (Roll.eval_new 2 rfl (by decide) (by decide) (by omega)).trans h2
            clear hp hlv hN
            unfold Roll.Goes
            simp only [Lds4, List.getD_cons_zero, List.getD_cons_succ]
            generalize Roll.putD Dds4 vs [1, 2] b0 = a1 at *
            refine Roll.goes_val (w' := p) (.bool false) rfl ?_ ⟨(Roll.outw_pure (by decide) rfl), rfl⟩
            (have ec : ∀ x, a1.eval (.const x) = x := fun _ => rfl); (have ef : ∀ x, a1.eval (.func x) = .func (.func x) #[] #[] := fun _ => rfl); generalize a1.eval = ρ at *
            clear h1 h2
            go_simp <;> (have heq := HEQ.out; (repeat' split) <;> first | rfl | (exfalso; omega) | (intros; omega) | omega)
          · intro vs p hI0 hp
            have hI := Roll.inw_pure (by decide) rfl hI0
            clear hI0
            have h3 : (vs 3) = .bool false := hp 3 (by simp [Lds4])
            have e43 : (Roll.putD Dds4 vs [3] b0).eval (.tmp 43) = .bool false := (Roll.eval_new 3 rfl (by decide) (by decide) (by omega)).trans h3
            clear hp hlv hN
            unfold Roll.Goes
            simp only [Lds4, List.getD_cons_zero, List.getD_cons_succ]
            generalize Roll.putD Dds4 vs [3] b0 = a1 at *
            refine Roll.goes_val (w' := p) (.bool false) rfl ?_ ⟨(Roll.outw_pure (by decide) rfl), rfl⟩
            (have ec : ∀ x, a1.eval (.const x) = x := fun _ => rfl); (have ef : ∀ x, a1.eval (.func x) = .func (.func x) #[] #[] := fun _ => rfl); generalize a1.eval = ρ at *
            clear h3
            go_simp <;> (intros; first | (exfalso; omega) | rfl)
          · intro vs p hI0 hp
            have hI := Roll.inw_pure (by decide) rfl hI0
            clear hI0
            have h4 : (vs 4) = .bool false := hp 4 (by simp [Lds4])
            have e5 : (Roll.putD Dds4 vs [4] b0).eval (.tmp 5) = .pointer (some ⟨r1, 0, none⟩) := (Roll.eval_old rfl).trans (hlv.at 1 (5, .pointer (some ⟨r1, 0, none⟩)) rfl)
            clear hp hlv hN
            exact ⟨fun hg => absurd (h4.symm.trans hg) (by simp), fun hg => ⟨(Roll.outw_pure (by decide) rfl), rfl⟩⟩
          · intro vs p hI0 hp
            have hI := Roll.inw_pure (by decide) rfl hI0
            clear hI0
            have h5 : (vs 5) = undef := hp 5 (by simp [Lds4])
            have h4 : (vs 4) = .bool false := hp 4 (by simp [Lds4])
            have e45 : (Roll.putD Dds4 vs [5, 4] b0).eval (.tmp 45) = undef := (Roll.eval_new 5 rfl (by decide) (by decide) (by omega)).trans h5
            clear hp hlv hN
            exact ⟨fun hg => absurd (h4.symm.trans hg) (by simp), fun hg => ⟨(Roll.outw_pure (by decide) rfl), rfl⟩⟩
          · intro vs p hI0 hp
            have hI := Roll.inw_pure (by decide) rfl hI0
            clear hI0
            have h6 : (vs 6) = undef := hp 6 (by simp [Lds4])
            have h4 : (vs 4) = .bool false := hp 4 (by simp [Lds4])
            have e46 : (Roll.putD Dds4 vs [6, 4] b0).eval (.tmp 46) = undef := (Roll.eval_new 6 rfl (by decide) (by decide) (by omega)).trans h6
            clear hp hlv hN
            exact ⟨fun hg => absurd (h4.symm.trans hg) (by simp), fun hg => ⟨(Roll.outw_pure (by decide) rfl), rfl⟩⟩
          · intro vs p hI0 hp
            have hI := Roll.inw_pure (by decide) rfl hI0
            clear hI0
            have h4 : (vs 4) = .bool false := hp 4 (by simp [Lds4])
            have h7 : (vs 7) = undef := hp 7 (by simp [Lds4])
            have e44 : (Roll.putD Dds4 vs [4, 7] b0).eval (.tmp 44) = .bool false := (Roll.eval_new 4 rfl (by decide) (by decide) (by omega)).trans h4
            have e47 : (Roll.putD Dds4 vs [4, 7] b0).eval (.tmp 47) = undef := (Roll.eval_new 7 rfl (by decide) (by decide) (by omega)).trans h7
            clear hp hlv hN
            unfold Roll.Goes
            simp only [Lds4, List.getD_cons_zero, List.getD_cons_succ]
            generalize Roll.putD Dds4 vs [4, 7] b0 = a1 at *
            refine Roll.goes_val (w' := p) (.bool false) rfl ?_ ⟨(Roll.outw_pure (by decide) rfl), rfl⟩
            (have ec : ∀ x, a1.eval (.const x) = x := fun _ => rfl); (have ef : ∀ x, a1.eval (.func x) = .func (.func x) #[] #[] := fun _ => rfl); generalize a1.eval = ρ at *
            clear h4 h7
            go_simp <;> (intros; first | (exfalso; omega) | rfl)
          · intro vs p hI0 hp
            have hI := Roll.inw_k0 rfl hI0
            clear hI0
            have h0 : (vs 0) = .agg #[.int .u8 (x0 : Int), .int .i64 (E1 : Int)] := hp 0 (by simp [Lds4])
            have e2 : (Roll.putD Dds4 vs [0] b0).eval (.tmp 2) = .pointer (some ⟨g2, 0, none⟩) := (Roll.eval_old rfl).trans (hlv.at 0 (2, .pointer (some ⟨g2, 0, none⟩)) rfl)
            have e40 : (Roll.putD Dds4 vs [0] b0).eval (.tmp 40) = .agg #[.int .u8 (x0 : Int), .int .i64 (E1 : Int)] := (Roll.eval_new 0 rfl (by decide) (by decide) (by omega)).trans h0
            clear hp hlv hN
            unfold Roll.Goes
            simp only [Lds4, List.getD_cons_zero, List.getD_cons_succ]
            generalize Roll.putD Dds4 vs [0] b0 = a1 at *
            refine Roll.goes_store_row rfl 60 (.tmp 2) (.tmp 40) rfl g2 _ e2 e40 60 #[.int .u8 0, .int .i64 0] hI.1 (sizeS _ _) rfl (oneS _ _) ?_
            have hk : Kept (fun x => x = g2) p (p.setRow g2 #[.int .u8 (x0 : Int), .int .i64 (E1 : Int)]) := (Kept.refl (fun x => x = g2) p).setRow (fun _ => rfl) _
            exact ⟨Roll.outw_k0 rfl ⟨setRow_heap _ _ _ _ _ _ hI.1, hI.2.trans hk (fun _ _ h => h)⟩ hk, trivial⟩
          · intro vs p hI0 hp
            have hI := Roll.inw_pure (by decide) rfl hI0
            clear hI0
            have h8 : (vs 8) = .bool false := hp 8 (by simp [Lds4])
            have e48 : (Roll.putD Dds4 vs [8] b0).eval (.tmp 48) = .bool false := (Roll.eval_new 8 rfl (by decide) (by decide) (by omega)).trans h8
            clear hp hlv hN
            unfold Roll.Goes
            simp only [Lds4, List.getD_cons_zero, List.getD_cons_succ]
            generalize Roll.putD Dds4 vs [8] b0 = a1 at *
            refine Roll.goes_val (w' := p) (.bool false) rfl ?_ ⟨(Roll.outw_pure (by decide) rfl), rfl⟩
            (have ec : ∀ x, a1.eval (.const x) = x := fun _ => rfl); (have ef : ∀ x, a1.eval (.func x) = .func (.func x) #[] #[] := fun _ => rfl); generalize a1.eval = ρ at *
            clear h8
            go_simp <;> (intros; first | (exfalso; omega) | rfl)
        · intro vs p hI hR
          have h0 : (vs 0) = .agg #[.int .u8 (x0 : Int), .int .i64 (E1 : Int)] := hR 0 (by omega)
          have h1 : (vs 1) = .agg #[.int .u8 (x0 : Int), .int .i64 (E1 : Int)] := hR 1 (by omega)
          have h2 : (vs 2) = .agg #[.int .u8 (y0 : Int), .int .i64 (E2 : Int)] := hR 2 (by omega)
          have h3 : (vs 3) = .bool false := hR 3 (by omega)
          have h4 : (vs 4) = .bool false := hR 4 (by omega)
          have h5 : (vs 5) = undef := hR 5 (by omega)
          have h6 : (vs 6) = undef := hR 6 (by omega)
          have h7 : (vs 7) = undef := hR 7 (by omega)
          have h8 : (vs 8) = .bool false := hR 8 (by omega)
          have h9 : True := hR 9 (by omega)
          have h10 : (vs 10) = .bool false := hR 10 (by omega)
          clear hR
          simp only [List.range_succ, List.range_zero, List.nil_append, List.cons_append, Roll.putD, Act.put, List.getD_cons_zero, List.getD_cons_succ, List.setIfInBounds_toArray, List.set_cons_zero, List.set_cons_succ, List.drop_succ_cons, List.drop_zero, Dds4]
          simp only [h0, h1, h2, h3, h4, h5, h6, h7, h8, h10]
          clear h0 h1 h2 h3 h4 h5 h6 h7 h8 h10
          clear h9
          have HF := Lib.hid hI.1
          have HK := Lib.hid hI.2
          clear hI
          go_wp2_with fail
          refine bodyPost_ret (results_two _ _ g2 _ _ _ rfl rfl HF.out) rfl ⟨by rw [HB.out], HBQ2.out.trans (HK.out.below HBQ2.out.size (fun j hj e => by have := HG2.out; omega))⟩
end Go.Proofs.YthffegfcgmhppaaDoor
namespace Go.Proofs.YthffegfcgmhppaaDoor
open Go.RowKit
set_option linter.unusedSimpArgs false
set_option linter.unusedVariables false
/-- the first one is newer -/
def firstB (f s : List UInt8) : Bool := okS f && (!okS s || decide (bN f 0 = (bN s 0 + 1) % 256))
def newS (f s : List UInt8) : List UInt8 := if firstB f s then f else s
def newOk (f s : List UInt8) : Bool := if firstB f s then true else okS s
theorem results_twoN (tmps : Array Value) (w : World) (g : Nat) (x y : Value) (b : Bool) (hp : tmps.getD 4 undef = .pointer (some ⟨g, 0, none⟩)) (hb : tmps.getD 5 undef = .bool b) (hg : w.heap[g]? = some (.cells #[x, y] 60 (0, 0))) :
    (results Tryd.f34 tmps).run Tryd.prog w = .ok (.tuple #[.agg #[x, y], .bool b]) w := by
  rw [results_cell_tmp (p := 4) (u := 5) (ty := 60) rfl, hp, hb]
  simp only [asAddr, Sem.run_pure, Result.andThen_ok]
  rw [run_loadVar_row w g 60 60 #[x, y] (0, 0) _ hg Tryd.underlying60 rfl (sizeS _ _)]
  rfl
theorem newest_cases {NS f s : List UInt8} {NO fo so : Bool} {fr sr sn : Nat} (e1 : NS = if (fo && (!so || decide (fr = (sr + 1) % 256))) = true then f else s) (e2 : NO = if (fo && (!so || decide (fr = (sr + 1) % 256))) = true then true else so) (e3 : sn = (sr + 1) % 256) :
    (fo = true ∧ (so = false ∨ fr = sn) ∧ NS = f ∧ NO = true) ∨ (fo = false ∧ NS = s ∧ NO = so) ∨ (fo = true ∧ so = true ∧ fr ≠ sn ∧ NS = s ∧ NO = so) := by
  rw [← e3] at e1 e2
  cases fo <;> cases so <;> by_cases e : fr = sn <;> simp_all
set_option maxRecDepth 100000 in
set_option maxHeartbeats 4000000 in
theorem newest_any (Z1 Z2 : Nat → Prop) (a1 a2 : Option Addr) (c1 c2 : Nat) (f s : List UInt8) (w : World) (h1 : Bs Z1 w a1 64 c1 f) (h2 : Bs Z2 w a2 64 c2 s) :
    Calls Tryd.prog 34 #[.slice a1 64 c1, .slice a2 64 c2] w fun e w' => e = .returned (.tuple #[.agg #[.int .u8 (bN (newS f s) 0 : Int), .int .i64 (endF (newS f s) : Int)], .bool (newOk f s)]) ∧ Below w.heap.size w w' := by
  have H1 := Lib.hid h1
  have H2 := Lib.hid h2
  have l0 := bN_lt f 0
  have m0 := bN_lt s 0
  obtain ⟨NS, hNS⟩ : ∃ NS, NS = newS f s := ⟨_, rfl⟩
  obtain ⟨NO, hNO⟩ : ∃ NO, NO = newOk f s := ⟨_, rfl⟩
  rw [← hNS, ← hNO]
  unfold newS firstB at hNS
  unfold newOk firstB at hNO
  obtain ⟨fo, hfo⟩ : ∃ fo, fo = okS f := ⟨_, rfl⟩
  obtain ⟨so, hso⟩ : ∃ so, so = okS s := ⟨_, rfl⟩
  obtain ⟨fe, hfe⟩ : ∃ fe, fe = endF f := ⟨_, rfl⟩
  obtain ⟨se, hse⟩ : ∃ se, se = endF s := ⟨_, rfl⟩
  obtain ⟨fr, hfr⟩ : ∃ fr, fr = bN f 0 := ⟨_, rfl⟩
  obtain ⟨sr, hsr⟩ : ∃ sr, sr = bN s 0 := ⟨_, rfl⟩
  rw [← hfo, ← hso, ← hfr, ← hsr] at hNS hNO
  rw [← hfr] at l0
  rw [← hsr] at m0
  have HFO := Lib.hid hfo; have HSO := Lib.hid hso; have HFE := Lib.hid hfe; have HSE := Lib.hid hse; have HFR := Lib.hid hfr; have HSR := Lib.hid hsr
  have HNS := Lib.hid hNS
  have HNO := Lib.hid hNO
  clear h1 h2 hfo hso hfe hse hfr hsr hNS hNO
  go_enter Tryd.func34, Tryd.ntmps34
  go_upto_region 1 with (first | (refine wpList_alloc_z rfl 60 rfl _ 60 run_allocS ?_))
  obtain ⟨q1, hq1⟩ : ∃ q1, q1 = w.alloc (.cells #[.int .u8 0, .int .i64 0] 60) := ⟨_, rfl⟩
  obtain ⟨g4, hg4⟩ : ∃ g4, g4 = w.heap.size := ⟨_, rfl⟩
  rw [← hq1, ← hg4]
  have HB1 : Hid (Below w.heap.size w q1) := Lib.hid (by rw [hq1]; exact (Below.refl _ _).alloc (Nat.le_refl _) _)
  have HZ4 : Hid (q1.heap[g4]? = some (.cells #[.int .u8 0, .int .i64 0] 60 (0, 0))) := Lib.hid (by rw [hq1, hg4]; exact heap_new rfl)
  have HG4 : Hid (w.heap.size ≤ g4) := Lib.hid (by omega)
  clear hq1 hg4
  go_upto_region 2 with (first
    | (have x1 := H1.out; go_at_call 53; refine (described_any _ _ _ _ _ (x1.kept (Kept.of_below (fun _ => False) HB1.out) (fun _ _ _ h => h))).mono ?_; rintro e q2 ⟨rfl, hb2⟩; rw [← HFO.out, ← HFE.out, ← HFR.out]; have HB2 : Hid (Below w.heap.size w q2) := Lib.hid (HB1.out.trans (hb2.mono HB1.out.size)); have HZ42 : Hid (q2.heap[g4]? = some (.cells #[.int .u8 0, .int .i64 0] 60 (0, 0))) := Lib.hid ((Kept.of_below (fun _ => False) hb2).heap HZ4.out (fun h => h)); clear x1 H1 hb2 HZ4)
    | (refine wpList_alloc_z rfl 60 rfl _ 60 run_allocS ?_)
    | (refine wpList_store_row rfl 60 (.tmp 6) (.tmp 13) rfl q2.heap.size _ rfl rfl 60 _ (heap_new rfl) (sizeS _ _) rfl (oneS _ _) ?_))
  obtain ⟨q3, hq3⟩ : ∃ q3, q3 = (q2.alloc (.cells #[.int .u8 0, .int .i64 0] 60)).setRow q2.heap.size #[.int .u8 (fr : Int), .int .i64 (fe : Int)] := ⟨_, rfl⟩
  obtain ⟨g6, hg6⟩ : ∃ g6, g6 = q2.heap.size := ⟨_, rfl⟩
  rw [← hq3, ← hg6]
  have hb3 : Below q2.heap.size q2 q3 := by rw [hq3]; exact below_setRow ((Below.refl _ _).alloc (Nat.le_refl _) _) (Nat.le_refl _) _
  have HZ6 : Hid (q3.heap[g6]? = some (.cells #[.int .u8 (fr : Int), .int .i64 (fe : Int)] 60 (0, 0))) := Lib.hid (by rw [hq3, hg6]; exact setRow_heap _ _ _ _ _ _ (heap_new rfl))
  have HB3 : Hid (Below w.heap.size w q3) := Lib.hid (HB2.out.trans (hb3.mono HB2.out.size))
  have HZ43 : Hid (q3.heap[g4]? = some (.cells #[.int .u8 0, .int .i64 0] 60 (0, 0))) := Lib.hid ((Kept.of_below (fun _ => False) hb3).heap HZ42.out (fun h => h))
  clear hq3 hg6 hb3 HZ42
  go_upto_region 3 with (first
    | (have x1 := H2.out; go_at_call 53; refine (described_any _ _ _ _ _ (x1.kept (Kept.of_below (fun _ => False) HB3.out) (fun _ _ _ h => h))).mono ?_; rintro e q4 ⟨rfl, hb4⟩; rw [← HSO.out, ← HSE.out, ← HSR.out]; have HB4 : Hid (Below w.heap.size w q4) := Lib.hid (HB3.out.trans (hb4.mono HB3.out.size)); have HZ44 : Hid (q4.heap[g4]? = some (.cells #[.int .u8 0, .int .i64 0] 60 (0, 0))) := Lib.hid ((Kept.of_below (fun _ => False) hb4).heap HZ43.out (fun h => h)); have HZ64 : Hid (q4.heap[g6]? = some (.cells #[.int .u8 (fr : Int), .int .i64 (fe : Int)] 60 (0, 0))) := Lib.hid ((Kept.of_below (fun _ => False) hb4).heap HZ6.out (fun h => h)); clear x1 H2 hb4 HZ43 HZ6)
    | (refine wpList_alloc_z rfl 60 rfl _ 60 run_allocS ?_)
    | (refine wpList_store_row rfl 60 (.tmp 8) (.tmp 18) rfl q4.heap.size _ rfl rfl 60 _ (heap_new rfl) (sizeS _ _) rfl (oneS _ _) ?_))
  obtain ⟨q5, hq5⟩ : ∃ q5, q5 = (q4.alloc (.cells #[.int .u8 0, .int .i64 0] 60)).setRow q4.heap.size #[.int .u8 (sr : Int), .int .i64 (se : Int)] := ⟨_, rfl⟩
  obtain ⟨g8, hg8⟩ : ∃ g8, g8 = q4.heap.size := ⟨_, rfl⟩
  rw [← hq5, ← hg8]
  have hb5 : Below q4.heap.size q4 q5 := by rw [hq5]; exact below_setRow ((Below.refl _ _).alloc (Nat.le_refl _) _) (Nat.le_refl _) _
  have HZ8 : Hid (q5.heap[g8]? = some (.cells #[.int .u8 (sr : Int), .int .i64 (se : Int)] 60 (0, 0))) := Lib.hid (by rw [hq5, hg8]; exact setRow_heap _ _ _ _ _ _ (heap_new rfl))
  have HB5 : Hid (Below w.heap.size w q5) := Lib.hid (HB4.out.trans (hb5.mono HB4.out.size))
  have HZ45 : Hid (q5.heap[g4]? = some (.cells #[.int .u8 0, .int .i64 0] 60 (0, 0))) := Lib.hid ((Kept.of_below (fun _ => False) hb5).heap HZ44.out (fun h => h))
  have HZ65 : Hid (q5.heap[g6]? = some (.cells #[.int .u8 (fr : Int), .int .i64 (fe : Int)] 60 (0, 0))) := Lib.hid ((Kept.of_below (fun _ => False) hb5).heap HZ64.out (fun h => h))
  clear hq5 hg8 hb5 HZ44 HZ64
  have c6 : q5.cell? ⟨g6, 0, none⟩ = some (.int .u8 (fr : Int)) := by rw [cell_of_row q5 g6 0 _ _ _ HZ65.out]; rfl
  have c8 : q5.cell? ⟨g8, 0, none⟩ = some (.int .u8 (sr : Int)) := by rw [cell_of_row q5 g8 0 _ _ _ HZ8.out]; rfl
  have hw8 : IntKind.u8.wrap ((sr : Int) + 1) = (((sr + 1) % 256 : Nat) : Int) := by rw [IntKind.wrap_u8]; omega
  obtain ⟨sn, hsn⟩ : ∃ sn, sn = (sr + 1) % 256 := ⟨_, rfl⟩
  rw [← hsn] at hw8
  have HSN := Lib.hid hsn
  clear hsn
  have key := newest_cases HNS.out HNO.out HSN.out
  rcases key with ⟨k1, k2, k3, k4⟩ | ⟨k1, k3, k4⟩ | ⟨k1, k2, k5, k3, k4⟩
  · have HN1 := Lib.hid k3
    have HN2 := Lib.hid k4
    clear k3 k4 HNS HNO
    subst k1
    rcases k2 with k2 | k2
    · subst k2
      go_wp2_with (first
        | (refine wpList_load_row rfl 60 (.tmp 6) rfl g6 rfl 60 _ (0, 0) _ HZ65.out Tryd.underlying60 rfl (sizeS _ _) ?_)
        | (refine wpList_store_row rfl 60 (.tmp 4) (.tmp 33) rfl g4 _ rfl rfl 60 _ HZ45.out (sizeS _ _) rfl (oneS _ _) ?_))
      refine bodyPost_ret (results_twoN _ _ g4 _ _ _ rfl rfl (setRow_heap _ _ _ _ _ _ HZ45.out)) rfl ⟨?_, below_setRow HB5.out HG4.out _⟩
      rw [HN1.out, HN2.out, HFE.out, HFR.out]
    · subst k2
      cases so with
      | false =>
        go_wp2_with (first
          | (refine wpList_load_row rfl 60 (.tmp 6) rfl g6 rfl 60 _ (0, 0) _ HZ65.out Tryd.underlying60 rfl (sizeS _ _) ?_)
          | (refine wpList_store_row rfl 60 (.tmp 4) (.tmp 33) rfl g4 _ rfl rfl 60 _ HZ45.out (sizeS _ _) rfl (oneS _ _) ?_))
        refine bodyPost_ret (results_twoN _ _ g4 _ _ _ rfl rfl (setRow_heap _ _ _ _ _ _ HZ45.out)) rfl ⟨?_, below_setRow HB5.out HG4.out _⟩
        rw [HN1.out, HN2.out, HFE.out, HFR.out]
      | true =>
        go_wp2_with (first
          | (refine wpList_load_row rfl 60 (.tmp 6) rfl g6 rfl 60 _ (0, 0) _ HZ65.out Tryd.underlying60 rfl (sizeS _ _) ?_)
          | (refine wpList_store_row rfl 60 (.tmp 4) (.tmp 33) rfl g4 _ rfl rfl 60 _ HZ45.out (sizeS _ _) rfl (oneS _ _) ?_))
        refine bodyPost_ret (results_twoN _ _ g4 _ _ _ rfl rfl (setRow_heap _ _ _ _ _ _ HZ45.out)) rfl ⟨?_, below_setRow HB5.out HG4.out _⟩
        rw [HN1.out, HN2.out, HFE.out, HFR.out]
  · have HN1 := Lib.hid k3
    have HN2 := Lib.hid k4
    clear k3 k4 HNS HNO
    subst k1
    go_wp2_with (first
      | (refine wpList_load_row rfl 60 (.tmp 8) rfl g8 rfl 60 _ (0, 0) _ HZ8.out Tryd.underlying60 rfl (sizeS _ _) ?_)
      | (refine wpList_store_row rfl 60 (.tmp 4) (.tmp 34) rfl g4 _ rfl rfl 60 _ HZ45.out (sizeS _ _) rfl (oneS _ _) ?_))
    refine bodyPost_ret (results_twoN _ _ g4 _ _ _ rfl rfl (setRow_heap _ _ _ _ _ _ HZ45.out)) rfl ⟨?_, below_setRow HB5.out HG4.out _⟩
    rw [HN1.out, HN2.out, HSE.out, HSR.out]
  · have HN1 := Lib.hid k3
    have HN2 := Lib.hid k4
    have k6 : ¬ (fr : Int) = (sn : Int) := by omega
    clear k3 k4 k5 HNS HNO
    subst k1 k2
    go_wp2_with (first
      | (refine wpList_load_row rfl 60 (.tmp 8) rfl g8 rfl 60 _ (0, 0) _ HZ8.out Tryd.underlying60 rfl (sizeS _ _) ?_)
      | (refine wpList_store_row rfl 60 (.tmp 4) (.tmp 34) rfl g4 _ rfl rfl 60 _ HZ45.out (sizeS _ _) rfl (oneS _ _) ?_))
    refine bodyPost_ret (results_twoN _ _ g4 _ _ _ rfl rfl (setRow_heap _ _ _ _ _ _ HZ45.out)) rfl ⟨?_, below_setRow HB5.out HG4.out _⟩
    rw [HN1.out, HN2.out, HSE.out, HSR.out]
end Go.Proofs.YthffegfcgmhppaaDoor
namespace Go.Proofs.YthffegfcgmhppaaDoor
open Go.RowKit
set_option linter.unusedSimpArgs false
set_option linter.unusedVariables false
def Drd5f : List (Option Tmp) := [some 21, some 22, some 23, some 24, some 25, some 26, some 27, some 28, some 29, some 30, some 31, some 32, some 20, some 33, some 34, some 10, some 11]
def Lrd5f : List (List Nat) := [[], [0], [1], [2], [], [4], [5], [6], [], [8], [7, 9], [3, 10], [11], [12], [12], [13], [14]]
def Drd5 : List (Option Tmp) := [some 21, some 22, some 23, some 24, some 25, some 26, some 27, some 28, some 29, some 30, some 31, some 32, some 20, some 33, some 34, some 10, some 11]
def Lrd5 : List (List Nat) := [[], [0], [1], [2], [], [4], [5], [6], [], [8], [7, 9], [3, 10], [11], [12], [12], [13], [14]]
/-- the last bytes of sectors k, .., k + n - 1 -/
def secsB (d : DM) (k n : Nat) : List UInt8 := (List.range n).flatMap fun i => lastB (d.S.getD (k + i) [])
theorem secsB_succ (d : DM) (k n : Nat) : secsB d k (n + 1) = secsB d k n ++ lastB (d.S.getD (k + n) []) := by simp [secsB, List.range_succ]
theorem secsB_len (d : DM) (k n : Nat) (h : ∀ i, i < n → (lastB (d.S.getD (k + i) [])).length = 64) : (secsB d k n).length = n * 64 := by
  induction n with
  | zero => rfl
  | succ n ih => rw [secsB_succ, List.length_append, ih (fun i hi => h i (by omega)), h n (by omega)]; omega
section
variable {w0 w : World} {L : List Obj} {gl g ii j : Nat} {m : LM} {d : DM}
set_option maxRecDepth 100000 in
set_option maxHeartbeats 4000000 in
theorem read_log (h : Lv w0 w L) (hi : L[ii]? = some (logO gl g m)) (hj : L[j]? = some (diskO g d)) (s u cnt : Nat) (hs : s ≤ 4096) (hsu : s * 64 ≤ u) (hc : u - s * 64 ≤ cnt * 64) (hc2 : cnt * 64 < u - s * 64 + 64) (hk : m.frm + s + cnt ≤ d.S.length) (ho : d.on = true) :
    Calls Tryd.prog 33 #[.pointer (some ⟨gl, 0, none⟩), .int .i64 ((s * 64 : Nat) : Int), .int .i64 (u : Int)] w fun x w' => ∃ v, x = .returned (.tuple #[v, .int .i64 0]) ∧ Lv w0 w' (bytesO v ((secsB d (m.frm + s) cnt).take (u - s * 64)) :: L) := by
  obtain ⟨B, ⟨gd, gm, row, NN, hd0, hBB⟩, hlt, hoth, hset⟩ := h.get hj
  have hS := (h.ok hj).2.1
  have h64 := (h.ok hj).2.2.2
  have H64 : Hid (∀ k, k < d.S.length → (lastB (d.S.getD k [])).length = 64) := Lib.hid (fun k hk => by
    rw [List.getD_eq_getElem?_getD, List.getElem?_eq_getElem hk, Option.getD_some]
    have := h64 _ (List.getElem_mem hk)
    exact this.2 _ (lastB_mem this.1))
  have HLen : Hid ((secsB d (m.frm + s) cnt).length = cnt * 64) := Lib.hid (secsB_len d _ _ (fun i hi => H64.out _ (by omega)))
  obtain ⟨A0, hA0⟩ : ∃ A0, A0 = s * 64 := ⟨_, rfl⟩
  rw [← hA0] at hsu hc hc2 ⊢
  obtain ⟨SZ, hSZ⟩ : ∃ SZ, SZ = u - A0 := ⟨_, rfl⟩
  rw [← hSZ] at hc hc2 ⊢
  have hw0 : IntKind.i64.wrap ((u : Int) - (A0 : Int)) = (SZ : Int) := by rw [i64_id _ (by omega) (by omega)]; omega
  have HA0 := Lib.hid hA0
  have HSZ := Lib.hid hSZ
  have HSU := Lib.hid hsu
  have HC := Lib.hid hc
  have HC2 := Lib.hid hc2
  have HK0 := Lib.hid hk
  have HON := Lib.hid ho
  have HL0 := Lib.hid h
  have HI := Lib.hid hi
  have HJ := Lib.hid hj
  have HS := Lib.hid hS
  have hlu : u ≤ 4096 * 64 + 4096 * 64 := by omega
  clear h hi hj hd0 hBB hlt hoth hset h64 hA0 hSZ hs hsu hc hc2 hk ho hS
  go_enter Tryd.func33, Tryd.ntmps33
  go_wp2_with fail
  go_loopw [1, 9] (fun t u9 wr => ∃ (i : Nat) (v0 : Value), i ≤ cnt ∧ v0 = u9 ∧ t = .int .i64 ((A0 + i * 64 : Nat) : Int) ∧ Lv w0 wr (baccO v0 (secsB d (m.frm + s) i) :: L)) (fun t _ _ => A0 + cnt * 64 - (intOf t).toNat)
  case atStart => exact ⟨0, _, Nat.zero_le _, rfl, by simp, HL0.out.bacc0⟩
  case round =>
    obtain ⟨i, v0, hi9, hv0, rfl, hL⟩ := hrel
    subst hv0
    have HL := Lib.hid hL
    obtain ⟨at0, hat⟩ : ∃ at0, at0 = A0 + i * 64 := ⟨_, rfl⟩
    rw [← hat]
    by_cases hlt : at0 < u
    · have hn2 : (at0 : Int) < (u : Int) := by omega
      have hic : i < cnt := by have := HC.out; have := HSZ.out; omega
      have hjL : (baccO v0 (secsB d (m.frm + s) i) :: L)[j + 1]? = some (diskO g d) := by simpa using HJ.out
      have hiL : (baccO v0 (secsB d (m.frm + s) i) :: L)[ii + 1]? = some (logO gl g m) := by simpa using HI.out
      obtain ⟨_, _, -, -, hgl, c0, c1, -, -, -, -, -, -, -⟩ := hL.logFacts hiL
      obtain ⟨B, ⟨gd, gm, row, NN, hd, hBB⟩, -, -, -⟩ := hL.get hjL
      obtain ⟨K, hK⟩ : ∃ K, K = m.frm + s + i := ⟨_, rfl⟩
      have hKl : K < d.S.length := by have := HK0.out; omega
      obtain ⟨Q, hQ⟩ : ∃ Q, Q = s + i := ⟨_, rfl⟩
      have hlu2 := HS.out
      have HQ : Hid (Int.tdiv (at0 : Int) 64 = (Q : Int)) := Lib.hid (by rw [Int.tdiv_eq_ediv_of_nonneg (by omega)]; have := HA0.out; omega)
      have HQW : Hid (IntKind.i64.wrap (Q : Int) = (Q : Int)) := Lib.hid (i64_id _ (by omega) (by omega))
      have HKW : Hid (IntKind.i64.wrap ((m.frm : Int) + (Q : Int)) = (K : Int)) := Lib.hid (by rw [i64_id _ (by omega) (by omega)]; omega)
      have hw1 : IntKind.i64.wrap ((at0 : Int) + 64) = (at0 : Int) + 64 := i64_id _ (by omega) (by omega)
      obtain ⟨sb, hsb⟩ : ∃ sb, sb = lastB (d.S.getD K []) := ⟨_, rfl⟩
      have HSL : Hid (sb.length = 64) := Lib.hid (by rw [hsb]; exact H64.out K hKl)
      have HSB : Hid (lastB (d.S[K]'hKl) = sb) := Lib.hid (by rw [hsb, List.getD_eq_getElem?_getD, List.getElem?_eq_getElem hKl, Option.getD_some])
      obtain ⟨BT, hBT⟩ : ∃ BT, BT = secsB d (m.frm + s) i := ⟨_, rfl⟩
      have HTK : Hid (secsB d (m.frm + s) (i + 1) = BT ++ sb) := Lib.hid (by rw [secsB_succ, hBT, hsb, hK])
      have HLE : Hid (BT.length ≤ 4096 * 64) := Lib.hid (by
        rw [hBT, secsB_len d _ _ (fun x hx => H64.out _ (by have := HK0.out; omega))]
        have := HK0.out; omega)
      rw [← hBT] at HL
      have HAT2 : Hid (A0 + (i + 1) * 64 = at0 + 64) := Lib.hid (by omega)
      have HAT := Lib.hid hat
      have HIC := Lib.hid hic
      have HKS := Lib.hid hKl
      have HD := Lib.hid hd
      have HGL := Lib.hid hgl
      have C0 := Lib.hid c0
      have C1 := Lib.hid c1
      clear hL hic hjL hiL hgl c0 c1 hd hBB hK hQ hsb hBT hat hi9 hlu2
      go_wp2_with fail
      refine Roll.region_f 17 44 Drd5 Lrd5 [(0, .pointer (some ⟨gl, 0, none⟩)), (1, .int .i64 (at0 : Int))] (fun p => Below wr.heap.size wr p) (fun p p2 => Below p.heap.size p p2) [fun vv p => vv = .pointer (some ⟨gl, 0, none⟩), fun vv p => vv = .pointer (some ⟨gl, 0, none⟩), fun vv p => vv = .pointer (some ⟨gl, 0, none⟩), fun vv p => vv = .pointer (some ⟨g, 0, none⟩), fun vv p => vv = .pointer (some ⟨gl, 0, none⟩), fun vv p => vv = .pointer (some ⟨gl, 0, none⟩), fun vv p => vv = .pointer (some ⟨gl, 1, none⟩), fun vv p => vv = .int .i64 (m.frm : Int), fun vv p => vv = .int .i64 (at0 : Int), fun vv p => vv = .int .i64 (Q : Int), fun vv p => vv = .int .i64 (K : Int), fun vv p => ∃ x, vv = .tuple #[.slice (some ⟨x, 0, none⟩) 64 64, .int .i64 0] ∧ wr.heap.size ≤ x ∧ Bs (fun b => b = x) p (some ⟨x, 0, none⟩) 64 64 sb, fun vv p => ∃ x, vv = .tuple #[.slice (some ⟨x, 0, none⟩) 64 64, .int .i64 0] ∧ wr.heap.size ≤ x ∧ Bs (fun b => b = x) p (some ⟨x, 0, none⟩) 64 64 sb, fun vv p => ∃ x, vv = .slice (some ⟨x, 0, none⟩) 64 64 ∧ wr.heap.size ≤ x ∧ Bs (fun b => b = x) p (some ⟨x, 0, none⟩) 64 64 sb, fun vv p => vv = .int .i64 0, fun vv p => ∃ x, vv = .slice (some ⟨x, 0, none⟩) 64 64 ∧ wr.heap.size ≤ x ∧ Bs (fun b => b = x) p (some ⟨x, 0, none⟩) 64 64 sb, fun vv p => vv = .int .i64 0] (by kernel_rfl) (by kernel_rfl) rfl ⟨rfl, rfl, trivial⟩ ((Below.refl _ _).drew) ?_ ?_ ?_
      · exact ⟨fun _ _ _ _ h => h, fun _ _ _ _ h => h, fun _ _ _ _ h => h, fun _ _ _ _ h => h, fun _ _ _ _ h => h, fun _ _ _ _ h => h, fun _ _ _ _ h => h, fun _ _ _ _ h => h, fun _ _ _ _ h => h, fun _ _ _ _ h => h, fun _ _ _ _ h => h, fun _ _ _ hs h => by obtain ⟨x, e1, e2, e3⟩ := h; exact ⟨x, e1, e2, e3.kept (Kept.of_below (fun _ => False) hs) (fun _ _ _ h => h)⟩, fun _ _ _ hs h => by obtain ⟨x, e1, e2, e3⟩ := h; exact ⟨x, e1, e2, e3.kept (Kept.of_below (fun _ => False) hs) (fun _ _ _ h => h)⟩, fun _ _ _ hs h => by obtain ⟨x, e1, e2, e3⟩ := h; exact ⟨x, e1, e2, e3.kept (Kept.of_below (fun _ => False) hs) (fun _ _ _ h => h)⟩, fun _ _ _ _ h => h, fun _ _ _ hs h => by obtain ⟨x, e1, e2, e3⟩ := h; exact ⟨x, e1, e2, e3.kept (Kept.of_below (fun _ => False) hs) (fun _ _ _ h => h)⟩, fun _ _ _ _ h => h, trivial⟩
      · intro b0 hN hlv
        refine ⟨?_, ?_, ?_, ?_, ?_, ?_, ?_, ?_, ?_, ?_, ?_, ?_, ?_, ?_, ?_, ?_, ?_, trivial⟩
        · intro vs p hI hp
          have e0 : (Roll.putD Drd5 vs [] b0).eval (.tmp 0) = .pointer (some ⟨gl, 0, none⟩) := (Roll.eval_old rfl).trans (hlv.at 0 (0, .pointer (some ⟨gl, 0, none⟩)) rfl)
          clear hp hlv hN
          unfold Roll.Goes
          simp only [Lrd5, List.getD_cons_zero, List.getD_cons_succ]
          generalize Roll.putD Drd5 vs [] b0 = a1 at *
          refine Roll.goes_val (w' := p) (.pointer (some ⟨gl, 0, none⟩)) rfl ?_ ⟨hI, Below.refl _ _, rfl⟩
          (have ec : ∀ x, a1.eval (.const x) = x := fun _ => rfl); (have ef : ∀ x, a1.eval (.func x) = .func (.func x) #[] #[] := fun _ => rfl); generalize a1.eval = ρ at *
          skip
          go_simp <;> (intros; first | (exfalso; omega) | rfl)
        · intro vs p hI hp
          have h0 : (vs 0) = .pointer (some ⟨gl, 0, none⟩) := hp 0 (by simp [Lrd5])
          have e21 : (Roll.putD Drd5 vs [0] b0).eval (.tmp 21) = .pointer (some ⟨gl, 0, none⟩) := (Roll.eval_new 0 rfl (by decide) (by decide) (by omega)).trans h0
          clear hp hlv hN
          unfold Roll.Goes
          simp only [Lrd5, List.getD_cons_zero, List.getD_cons_succ]
          generalize Roll.putD Drd5 vs [0] b0 = a1 at *
          refine Roll.goes_val (w' := p) (.pointer (some ⟨gl, 0, none⟩)) rfl ?_ ⟨hI, Below.refl _ _, rfl⟩
          (have ec : ∀ x, a1.eval (.const x) = x := fun _ => rfl); (have ef : ∀ x, a1.eval (.func x) = .func (.func x) #[] #[] := fun _ => rfl); generalize a1.eval = ρ at *
          clear h0
          go_simp <;> (intros; first | (exfalso; omega) | rfl)
        · intro vs p hI hp
          have h1 : (vs 1) = .pointer (some ⟨gl, 0, none⟩) := hp 1 (by simp [Lrd5])
          have e22 : (Roll.putD Drd5 vs [1] b0).eval (.tmp 22) = .pointer (some ⟨gl, 0, none⟩) := (Roll.eval_new 1 rfl (by decide) (by decide) (by omega)).trans h1
          clear hp hlv hN
          unfold Roll.Goes
          simp only [Lrd5, List.getD_cons_zero, List.getD_cons_succ]
          generalize Roll.putD Drd5 vs [1] b0 = a1 at *
          refine Roll.goes_val (w' := p) (.pointer (some ⟨gl, 0, none⟩)) rfl ?_ ⟨hI, Below.refl _ _, rfl⟩
          (have ec : ∀ x, a1.eval (.const x) = x := fun _ => rfl); (have ef : ∀ x, a1.eval (.func x) = .func (.func x) #[] #[] := fun _ => rfl); generalize a1.eval = ρ at *
          clear h1
          go_simp <;> (intros; first | (exfalso; omega) | rfl)
        · intro vs p hI hp
          have h2 : (vs 2) = .pointer (some ⟨gl, 0, none⟩) := hp 2 (by simp [Lrd5])
          have e23 : (Roll.putD Drd5 vs [2] b0).eval (.tmp 23) = .pointer (some ⟨gl, 0, none⟩) := (Roll.eval_new 2 rfl (by decide) (by decide) (by omega)).trans h2
          clear hp hlv hN
          unfold Roll.Goes
          simp only [Lrd5, List.getD_cons_zero, List.getD_cons_succ]
          generalize Roll.putD Drd5 vs [2] b0 = a1 at *
          have cf : p.cell? ⟨gl, 0, none⟩ = some (.pointer (some ⟨g, 0, none⟩)) := (hI.cell (p := ⟨gl, 0, none⟩) HGL.out).trans C0.out
          refine Roll.goes_val (w' := p) (.pointer (some ⟨g, 0, none⟩)) rfl ?_ ⟨hI, Below.refl _ _, rfl⟩
          (have ec : ∀ x, a1.eval (.const x) = x := fun _ => rfl); (have ef : ∀ x, a1.eval (.func x) = .func (.func x) #[] #[] := fun _ => rfl); generalize a1.eval = ρ at *
          clear h2
          go_simp <;> (intros; first | (exfalso; omega) | rfl)
        · intro vs p hI hp
          have e0 : (Roll.putD Drd5 vs [] b0).eval (.tmp 0) = .pointer (some ⟨gl, 0, none⟩) := (Roll.eval_old rfl).trans (hlv.at 0 (0, .pointer (some ⟨gl, 0, none⟩)) rfl)
          clear hp hlv hN
          unfold Roll.Goes
          simp only [Lrd5, List.getD_cons_zero, List.getD_cons_succ]
          generalize Roll.putD Drd5 vs [] b0 = a1 at *
          refine Roll.goes_val (w' := p) (.pointer (some ⟨gl, 0, none⟩)) rfl ?_ ⟨hI, Below.refl _ _, rfl⟩
          (have ec : ∀ x, a1.eval (.const x) = x := fun _ => rfl); (have ef : ∀ x, a1.eval (.func x) = .func (.func x) #[] #[] := fun _ => rfl); generalize a1.eval = ρ at *
          skip
          go_simp <;> (intros; first | (exfalso; omega) | rfl)
        · intro vs p hI hp
          have h4 : (vs 4) = .pointer (some ⟨gl, 0, none⟩) := hp 4 (by simp [Lrd5])
          have e25 : (Roll.putD Drd5 vs [4] b0).eval (.tmp 25) = .pointer (some ⟨gl, 0, none⟩) := (Roll.eval_new 4 rfl (by decide) (by decide) (by omega)).trans h4
          clear hp hlv hN
          unfold Roll.Goes
          simp only [Lrd5, List.getD_cons_zero, List.getD_cons_succ]
          generalize Roll.putD Drd5 vs [4] b0 = a1 at *
          refine Roll.goes_val (w' := p) (.pointer (some ⟨gl, 0, none⟩)) rfl ?_ ⟨hI, Below.refl _ _, rfl⟩
          (have ec : ∀ x, a1.eval (.const x) = x := fun _ => rfl); (have ef : ∀ x, a1.eval (.func x) = .func (.func x) #[] #[] := fun _ => rfl); generalize a1.eval = ρ at *
          clear h4
          go_simp <;> (intros; first | (exfalso; omega) | rfl)
        · intro vs p hI hp
          have h5 : (vs 5) = .pointer (some ⟨gl, 0, none⟩) := hp 5 (by simp [Lrd5])
          have e26 : (Roll.putD Drd5 vs [5] b0).eval (.tmp 26) = .pointer (some ⟨gl, 0, none⟩) := (Roll.eval_new 5 rfl (by decide) (by decide) (by omega)).trans h5
          clear hp hlv hN
          unfold Roll.Goes
          simp only [Lrd5, List.getD_cons_zero, List.getD_cons_succ]
          generalize Roll.putD Drd5 vs [5] b0 = a1 at *
          refine Roll.goes_val (w' := p) (.pointer (some ⟨gl, 1, none⟩)) rfl ?_ ⟨hI, Below.refl _ _, rfl⟩
          (have ec : ∀ x, a1.eval (.const x) = x := fun _ => rfl); (have ef : ∀ x, a1.eval (.func x) = .func (.func x) #[] #[] := fun _ => rfl); generalize a1.eval = ρ at *
          clear h5
          go_simp <;> (intros; first | (exfalso; omega) | rfl)
        · intro vs p hI hp
          have h6 : (vs 6) = .pointer (some ⟨gl, 1, none⟩) := hp 6 (by simp [Lrd5])
          have e27 : (Roll.putD Drd5 vs [6] b0).eval (.tmp 27) = .pointer (some ⟨gl, 1, none⟩) := (Roll.eval_new 6 rfl (by decide) (by decide) (by omega)).trans h6
          clear hp hlv hN
          unfold Roll.Goes
          simp only [Lrd5, List.getD_cons_zero, List.getD_cons_succ]
          generalize Roll.putD Drd5 vs [6] b0 = a1 at *
          have cf : p.cell? ⟨gl, 1, none⟩ = some (.int .i64 (m.frm : Int)) := (hI.cell (p := ⟨gl, 1, none⟩) HGL.out).trans C1.out
          refine Roll.goes_val (w' := p) (.int .i64 (m.frm : Int)) rfl ?_ ⟨hI, Below.refl _ _, rfl⟩
          (have ec : ∀ x, a1.eval (.const x) = x := fun _ => rfl); (have ef : ∀ x, a1.eval (.func x) = .func (.func x) #[] #[] := fun _ => rfl); generalize a1.eval = ρ at *
          clear h6
          go_simp <;> (intros; first | (exfalso; omega) | rfl)
        · intro vs p hI hp
          have e1 : (Roll.putD Drd5 vs [] b0).eval (.tmp 1) = .int .i64 (at0 : Int) := (Roll.eval_old rfl).trans (hlv.at 1 (1, .int .i64 (at0 : Int)) rfl)
          clear hp hlv hN
          unfold Roll.Goes
          simp only [Lrd5, List.getD_cons_zero, List.getD_cons_succ]
          generalize Roll.putD Drd5 vs [] b0 = a1 at *
          refine Roll.goes_val (w' := p) (.int .i64 (at0 : Int)) rfl ?_ ⟨hI, Below.refl _ _, rfl⟩
          (have ec : ∀ x, a1.eval (.const x) = x := fun _ => rfl); (have ef : ∀ x, a1.eval (.func x) = .func (.func x) #[] #[] := fun _ => rfl); generalize a1.eval = ρ at *
          skip
          go_simp <;> (intros; first | (exfalso; omega) | rfl)
        · intro vs p hI hp
          have h8 : (vs 8) = .int .i64 (at0 : Int) := hp 8 (by simp [Lrd5])
          have e29 : (Roll.putD Drd5 vs [8] b0).eval (.tmp 29) = .int .i64 (at0 : Int) := (Roll.eval_new 8 rfl (by decide) (by decide) (by omega)).trans h8
          clear hp hlv hN
          unfold Roll.Goes
          simp only [Lrd5, List.getD_cons_zero, List.getD_cons_succ]
          generalize Roll.putD Drd5 vs [8] b0 = a1 at *
          have hq := HQ.out
          have hqw := HQW.out
          refine Roll.goes_val (w' := p) (.int .i64 (Q : Int)) rfl ?_ ⟨hI, Below.refl _ _, rfl⟩
          (have ec : ∀ x, a1.eval (.const x) = x := fun _ => rfl); (have ef : ∀ x, a1.eval (.func x) = .func (.func x) #[] #[] := fun _ => rfl); generalize a1.eval = ρ at *
          clear h8
          go_simp <;> (intros; first | (exfalso; omega) | rfl)
        · intro vs p hI hp
          have h7 : (vs 7) = .int .i64 (m.frm : Int) := hp 7 (by simp [Lrd5])
          have h9 : (vs 9) = .int .i64 (Q : Int) := hp 9 (by simp [Lrd5])
          have e28 : (Roll.putD Drd5 vs [7, 9] b0).eval (.tmp 28) = .int .i64 (m.frm : Int) := (Roll.eval_new 7 rfl (by decide) (by decide) (by omega)).trans h7
          have e30 : (Roll.putD Drd5 vs [7, 9] b0).eval (.tmp 30) = .int .i64 (Q : Int) := (Roll.eval_new 9 rfl (by decide) (by decide) (by omega)).trans h9
          clear hp hlv hN
          unfold Roll.Goes
          simp only [Lrd5, List.getD_cons_zero, List.getD_cons_succ]
          generalize Roll.putD Drd5 vs [7, 9] b0 = a1 at *
          have hk := HKW.out
          refine Roll.goes_val (w' := p) (.int .i64 (K : Int)) rfl ?_ ⟨hI, Below.refl _ _, rfl⟩
          (have ec : ∀ x, a1.eval (.const x) = x := fun _ => rfl); (have ef : ∀ x, a1.eval (.func x) = .func (.func x) #[] #[] := fun _ => rfl); generalize a1.eval = ρ at *
          clear h7 h9
          go_simp <;> (intros; first | (exfalso; omega) | rfl)
        · intro vs p hI hp
          have h3 : (vs 3) = .pointer (some ⟨g, 0, none⟩) := hp 3 (by simp [Lrd5])
          have h10 : (vs 10) = .int .i64 (K : Int) := hp 10 (by simp [Lrd5])
          have e24 : (Roll.putD Drd5 vs [3, 10] b0).eval (.tmp 24) = .pointer (some ⟨g, 0, none⟩) := (Roll.eval_new 3 rfl (by decide) (by decide) (by omega)).trans h3
          have e31 : (Roll.putD Drd5 vs [3, 10] b0).eval (.tmp 31) = .int .i64 (K : Int) := (Roll.eval_new 10 rfl (by decide) (by decide) (by omega)).trans h10
          clear hp hlv hN
          unfold Roll.Goes
          simp only [Lrd5, List.getD_cons_zero, List.getD_cons_succ]
          generalize Roll.putD Drd5 vs [3, 10] b0 = a1 at *
          refine Roll.goes_call 48 #[.pointer (some ⟨g, 0, none⟩), .int .i64 (K : Int)] p rfl (by have ec : ∀ x, a1.eval (.const x) = x := fun _ => rfl; have ef : ∀ x, a1.eval (.func x) = .func (.func x) #[] #[] := fun _ => rfl; generalize a1.eval = ρ at *; go_simp) ?_
          have hdp := HD.out.kept (Kept.of_below (fun _ => False) hI) (fun _ _ h => h)
          refine (read_ok hdp K HKS.out HON.out).mono ?_
          rintro y p2 ⟨v, rfl, x, rfl, hx, hbx, hbl⟩
          rw [HSB.out] at hbx ⊢
          rw [HSL.out] at hbx ⊢
          exact ⟨_, rfl, hI.trans (hbl.mono hI.size), hbl, x, rfl, Nat.le_trans hI.size hx, hbx⟩
        · intro vs p hI hp
          have h11 : ∃ x, (vs 11) = .tuple #[.slice (some ⟨x, 0, none⟩) 64 64, .int .i64 0] ∧ wr.heap.size ≤ x ∧ Bs (fun b => b = x) p (some ⟨x, 0, none⟩) 64 64 sb := hp 11 (by simp [Lrd5])
          have e32 : (Roll.putD Drd5 vs [11] b0).eval (.tmp 32) = vs 11 := (Roll.eval_new 11 rfl (by decide) (by decide) (by omega))
          clear hp hlv hN
          unfold Roll.Goes
          simp only [Lrd5, List.getD_cons_zero, List.getD_cons_succ]
          generalize Roll.putD Drd5 vs [11] b0 = a1 at *
          obtain ⟨x, hv, hx, hbx⟩ := h11
          rw [hv] at e32
          refine Roll.goes_val (w' := p) (.tuple #[.slice (some ⟨x, 0, none⟩) 64 64, .int .i64 0]) rfl ?_ ⟨hI, Below.refl _ _, x, rfl, hx, hbx⟩
          (have ec : ∀ x, a1.eval (.const x) = x := fun _ => rfl); (have ef : ∀ x, a1.eval (.func x) = .func (.func x) #[] #[] := fun _ => rfl); generalize a1.eval = ρ at *
          go_simp <;> (intros; first | (exfalso; omega) | rfl)
        · intro vs p hI hp
          have h12 : ∃ x, (vs 12) = .tuple #[.slice (some ⟨x, 0, none⟩) 64 64, .int .i64 0] ∧ wr.heap.size ≤ x ∧ Bs (fun b => b = x) p (some ⟨x, 0, none⟩) 64 64 sb := hp 12 (by simp [Lrd5])
          have e20 : (Roll.putD Drd5 vs [12] b0).eval (.tmp 20) = vs 12 := (Roll.eval_new 12 rfl (by decide) (by decide) (by omega))
          clear hp hlv hN
          unfold Roll.Goes
          simp only [Lrd5, List.getD_cons_zero, List.getD_cons_succ]
          generalize Roll.putD Drd5 vs [12] b0 = a1 at *
          obtain ⟨x, hv, hx, hbx⟩ := h12
          rw [hv] at e20
          refine Roll.goes_val (w' := p) (.slice (some ⟨x, 0, none⟩) 64 64) rfl ?_ ⟨hI, Below.refl _ _, x, rfl, hx, hbx⟩
          (have ec : ∀ x, a1.eval (.const x) = x := fun _ => rfl); (have ef : ∀ x, a1.eval (.func x) = .func (.func x) #[] #[] := fun _ => rfl); generalize a1.eval = ρ at *
          go_simp <;> (intros; first | (exfalso; omega) | rfl)
        · intro vs p hI hp
          have h12 : ∃ x, (vs 12) = .tuple #[.slice (some ⟨x, 0, none⟩) 64 64, .int .i64 0] ∧ wr.heap.size ≤ x ∧ Bs (fun b => b = x) p (some ⟨x, 0, none⟩) 64 64 sb := hp 12 (by simp [Lrd5])
          have e20 : (Roll.putD Drd5 vs [12] b0).eval (.tmp 20) = vs 12 := (Roll.eval_new 12 rfl (by decide) (by decide) (by omega))
          clear hp hlv hN
          unfold Roll.Goes
          simp only [Lrd5, List.getD_cons_zero, List.getD_cons_succ]
          generalize Roll.putD Drd5 vs [12] b0 = a1 at *
          obtain ⟨x, hv, hx, hbx⟩ := h12
          rw [hv] at e20
          refine Roll.goes_val (w' := p) (.int .i64 0) rfl ?_ ⟨hI, Below.refl _ _, rfl⟩
          (have ec : ∀ x, a1.eval (.const x) = x := fun _ => rfl); (have ef : ∀ x, a1.eval (.func x) = .func (.func x) #[] #[] := fun _ => rfl); generalize a1.eval = ρ at *
          go_simp <;> (intros; first | (exfalso; omega) | rfl)
        · intro vs p hI hp
          have h13 : ∃ x, (vs 13) = .slice (some ⟨x, 0, none⟩) 64 64 ∧ wr.heap.size ≤ x ∧ Bs (fun b => b = x) p (some ⟨x, 0, none⟩) 64 64 sb := hp 13 (by simp [Lrd5])
          have e33 : (Roll.putD Drd5 vs [13] b0).eval (.tmp 33) = vs 13 := (Roll.eval_new 13 rfl (by decide) (by decide) (by omega))
          clear hp hlv hN
          unfold Roll.Goes
          simp only [Lrd5, List.getD_cons_zero, List.getD_cons_succ]
          generalize Roll.putD Drd5 vs [13] b0 = a1 at *
          obtain ⟨x, hv, hx, hbx⟩ := h13
          rw [hv] at e33
          refine Roll.goes_val (w' := p) (.slice (some ⟨x, 0, none⟩) 64 64) rfl ?_ ⟨hI, Below.refl _ _, x, rfl, hx, hbx⟩
          (have ec : ∀ x, a1.eval (.const x) = x := fun _ => rfl); (have ef : ∀ x, a1.eval (.func x) = .func (.func x) #[] #[] := fun _ => rfl); generalize a1.eval = ρ at *
          go_simp <;> (intros; first | (exfalso; omega) | rfl)
        · intro vs p hI hp
          have h14 : (vs 14) = .int .i64 0 := hp 14 (by simp [Lrd5])
          have e34 : (Roll.putD Drd5 vs [14] b0).eval (.tmp 34) = .int .i64 0 := (Roll.eval_new 14 rfl (by decide) (by decide) (by omega)).trans h14
          clear hp hlv hN
          unfold Roll.Goes
          simp only [Lrd5, List.getD_cons_zero, List.getD_cons_succ]
          generalize Roll.putD Drd5 vs [14] b0 = a1 at *
          refine Roll.goes_val (w' := p) (.int .i64 0) rfl ?_ ⟨hI, Below.refl _ _, rfl⟩
          (have ec : ∀ x, a1.eval (.const x) = x := fun _ => rfl); (have ef : ∀ x, a1.eval (.func x) = .func (.func x) #[] #[] := fun _ => rfl); generalize a1.eval = ρ at *
          clear h14
          go_simp <;> (intros; first | (exfalso; omega) | rfl)
      · intro vs p hI hR
        have h0 : (vs 0) = .pointer (some ⟨gl, 0, none⟩) := hR 0 (by omega)
        have h1 : (vs 1) = .pointer (some ⟨gl, 0, none⟩) := hR 1 (by omega)
        have h2 : (vs 2) = .pointer (some ⟨gl, 0, none⟩) := hR 2 (by omega)
        have h3 : (vs 3) = .pointer (some ⟨g, 0, none⟩) := hR 3 (by omega)
        have h4 : (vs 4) = .pointer (some ⟨gl, 0, none⟩) := hR 4 (by omega)
        have h5 : (vs 5) = .pointer (some ⟨gl, 0, none⟩) := hR 5 (by omega)
        have h6 : (vs 6) = .pointer (some ⟨gl, 1, none⟩) := hR 6 (by omega)
        have h7 : (vs 7) = .int .i64 (m.frm : Int) := hR 7 (by omega)
        have h8 : (vs 8) = .int .i64 (at0 : Int) := hR 8 (by omega)
        have h9 : (vs 9) = .int .i64 (Q : Int) := hR 9 (by omega)
        have h10 : (vs 10) = .int .i64 (K : Int) := hR 10 (by omega)
        have h11 : ∃ x, (vs 11) = .tuple #[.slice (some ⟨x, 0, none⟩) 64 64, .int .i64 0] ∧ wr.heap.size ≤ x ∧ Bs (fun b => b = x) p (some ⟨x, 0, none⟩) 64 64 sb := hR 11 (by omega)
        have h12 : ∃ x, (vs 12) = .tuple #[.slice (some ⟨x, 0, none⟩) 64 64, .int .i64 0] ∧ wr.heap.size ≤ x ∧ Bs (fun b => b = x) p (some ⟨x, 0, none⟩) 64 64 sb := hR 12 (by omega)
        have h13 : ∃ x, (vs 13) = .slice (some ⟨x, 0, none⟩) 64 64 ∧ wr.heap.size ≤ x ∧ Bs (fun b => b = x) p (some ⟨x, 0, none⟩) 64 64 sb := hR 13 (by omega)
        have h14 : (vs 14) = .int .i64 0 := hR 14 (by omega)
        have h15 : ∃ x, (vs 15) = .slice (some ⟨x, 0, none⟩) 64 64 ∧ wr.heap.size ≤ x ∧ Bs (fun b => b = x) p (some ⟨x, 0, none⟩) 64 64 sb := hR 15 (by omega)
        have h16 : (vs 16) = .int .i64 0 := hR 16 (by omega)
        clear hR
        simp only [List.range_succ, List.range_zero, List.nil_append, List.cons_append, Roll.putD, Act.put, List.getD_cons_zero, List.getD_cons_succ, List.setIfInBounds_toArray, List.set_cons_zero, List.set_cons_succ, List.drop_succ_cons, List.drop_zero, Drd5]
        simp only [h0, h1, h2, h3, h4, h5, h6, h7, h8, h9, h10, h14, h16]
        clear h0 h1 h2 h3 h4 h5 h6 h7 h8 h9 h10 h14 h16
        clear h11 h12 h13
        generalize vs 11 = v11 at *; generalize vs 12 = v12 at *; generalize vs 13 = v13 at *; generalize vs 15 = v15 at *
        obtain ⟨x, rfl, hx, hbx⟩ := h15
        have HLp := Lib.hid (HL.out.below hI)
        have HBX := Lib.hid hbx
        clear hI hx hbx HL
        go_wp2_with (first
          | (at_builtin; refine wpList_bacc HLp.out (i := 0) (v := v0) (l := BT) rfl rfl (.tmp 38) (.tmp 39) rfl rfl sb (by rw [HSL.out]; exact HBX.out.src Tryd.underlying34) (by have := HLE.out; have := HSL.out; omega) ?_; clear HLp; intro v3 w3 hl3; have HL3 := Lib.hid hl3; clear hl3))
        go_roundw
        case rel => exact ⟨i + 1, _, by have := HIC.out; omega, rfl, by rw [HAT2.out]; go_num, by rw [HTK.out]; exact HL3.out⟩
        case measure => have := HAT.out; have := HIC.out; simp [intOf]; omega
    · obtain rfl : i = cnt := by have := HC2.out; have := HSZ.out; omega
      have hL2 := hL.baccBytes (i := 0) rfl
      obtain ⟨_, ⟨ao, co, hvo, hbo⟩, -, -, -⟩ := hL2.get (i := 0) rfl
      rw [HLen.out] at hvo hbo
      subst hvo
      have hco1 : i * 64 ≤ co := hbo.2.2.1
      have hco2 : co ≤ 9223372036854775807 := hbo.2.2.2.1
      have hsz : SZ ≤ i * 64 := HC.out
      have hL3 := hL2.weaken (i := 0) (o' := bytesO (.slice ao SZ co) ((secsB d (m.frm + s) i).take SZ)) rfl (fun B hB => by
        obtain ⟨a3, c3, e3, hb3⟩ := hB
        rw [HLen.out] at e3 hb3
        cases e3
        have hl : ((secsB d (m.frm + s) i).take SZ).length = SZ := by rw [List.length_take, HLen.out]; omega
        exact ⟨ao, co, by rw [hl], by rw [hl]; exact hb3.upto SZ hsz⟩)
      have HL3 := Lib.hid hL3
      have hx : (u : Int) ≤ (at0 : Int) := by omega
      have hs1 : (SZ : Int) ≤ (co : Int) := by omega
      clear hL hL2 hL3 hbo HL hi9 hat hlt
      go_wp2
      go_ret2
      exact ⟨_, rfl, HL3.out⟩
set_option maxRecDepth 100000 in
set_option maxHeartbeats 4000000 in
theorem read_log_off (h : Lv w0 w L) (hi : L[ii]? = some (logO gl g m)) (hj : L[j]? = some (diskO g d)) (u : Nat) (hu : 0 < u) (hu2 : u ≤ 1000000) (hk : m.frm < d.S.length) (ho : d.on = false) :
    Calls Tryd.prog 33 #[.pointer (some ⟨gl, 0, none⟩), .int .i64 0, .int .i64 (u : Int)] w fun x w' => x = .returned (.tuple #[.slice none 0 0, .int .i64 10]) ∧ Lv w0 w' L := by
  have hS := (h.ok hj).2.1
  obtain ⟨K, hK⟩ : ∃ K, K = m.frm := ⟨_, rfl⟩
  have HKH : Hid (hasB d (K : Int) = true) := Lib.hid (by unfold hasB; rw [decide_eq_true]; omega)
  have HKW : Hid (IntKind.i64.wrap (m.frm : Int) = (K : Int)) := Lib.hid (by rw [i64_id _ (by omega) (by omega)]; omega)
  have hw0 : IntKind.i64.wrap ((u : Int) - 0) = (u : Int) := by rw [i64_id _ (by omega) (by omega)]; omega
  have hw1 : IntKind.i64.wrap (u : Int) = (u : Int) := i64_id _ (by omega) (by omega)
  have hn2 : (0 : Int) < (u : Int) := by omega
  have HON := Lib.hid ho
  have HL0 := Lib.hid h
  have HI := Lib.hid hi
  have HJ := Lib.hid hj
  have HKM := Lib.hid hK
  clear h hi hj hk ho hS hK
  go_enter Tryd.func33, Tryd.ntmps33
  go_wp2_with fail
  go_loopw [1, 9] (fun t u9 wr => t = .int .i64 0 ∧ u9 = .slice none 0 0 ∧ Lv w0 wr L) (fun t _ _ => 0)
  case atStart => exact ⟨rfl, rfl, HL0.out⟩
  case round =>
    obtain ⟨rfl, rfl, hL⟩ := hrel
    have HL := Lib.hid hL
    obtain ⟨_, _, -, -, hgl, c0, c1, -, -, -, -, -, -, -⟩ := hL.logFacts HI.out
    have HGL := Lib.hid hgl
    have C0 := Lib.hid c0
    have C1 := Lib.hid c1
    clear hL hgl c0 c1
    go_wp2_with fail
    refine Roll.region_f 17 44 Drd5f Lrd5f [(0, .pointer (some ⟨gl, 0, none⟩)), (1, .int .i64 0)] (fun p => Below wr.heap.size wr p) (fun p p2 => Below p.heap.size p p2) [fun vv p => vv = .pointer (some ⟨gl, 0, none⟩), fun vv p => vv = .pointer (some ⟨gl, 0, none⟩), fun vv p => vv = .pointer (some ⟨gl, 0, none⟩), fun vv p => vv = .pointer (some ⟨g, 0, none⟩), fun vv p => vv = .pointer (some ⟨gl, 0, none⟩), fun vv p => vv = .pointer (some ⟨gl, 0, none⟩), fun vv p => vv = .pointer (some ⟨gl, 1, none⟩), fun vv p => vv = .int .i64 (m.frm : Int), fun vv p => vv = .int .i64 0, fun vv p => vv = .int .i64 0, fun vv p => vv = .int .i64 (K : Int), fun vv p => vv = .tuple #[.slice none 0 0, .int .i64 10], fun vv p => vv = .tuple #[.slice none 0 0, .int .i64 10], fun vv p => vv = .slice none 0 0, fun vv p => vv = .int .i64 10, fun vv p => vv = .slice none 0 0, fun vv p => vv = .int .i64 10] (by kernel_rfl) (by kernel_rfl) rfl ⟨rfl, rfl, trivial⟩ ((Below.refl _ _).drew) ?_ ?_ ?_
    · exact ⟨fun _ _ _ _ h => h, fun _ _ _ _ h => h, fun _ _ _ _ h => h, fun _ _ _ _ h => h, fun _ _ _ _ h => h, fun _ _ _ _ h => h, fun _ _ _ _ h => h, fun _ _ _ _ h => h, fun _ _ _ _ h => h, fun _ _ _ _ h => h, fun _ _ _ _ h => h, fun _ _ _ _ h => h, fun _ _ _ _ h => h, fun _ _ _ _ h => h, fun _ _ _ _ h => h, fun _ _ _ _ h => h, fun _ _ _ _ h => h, trivial⟩
    · intro b0 hN hlv
      refine ⟨?_, ?_, ?_, ?_, ?_, ?_, ?_, ?_, ?_, ?_, ?_, ?_, ?_, ?_, ?_, ?_, ?_, trivial⟩
      · intro vs p hI hp
        have e0 : (Roll.putD Drd5f vs [] b0).eval (.tmp 0) = .pointer (some ⟨gl, 0, none⟩) := (Roll.eval_old rfl).trans (hlv.at 0 (0, .pointer (some ⟨gl, 0, none⟩)) rfl)
        clear hp hlv hN
        unfold Roll.Goes
        simp only [Lrd5f, List.getD_cons_zero, List.getD_cons_succ]
        generalize Roll.putD Drd5f vs [] b0 = a1 at *
        refine Roll.goes_val (w' := p) (.pointer (some ⟨gl, 0, none⟩)) rfl ?_ ⟨hI, Below.refl _ _, rfl⟩
        (have ec : ∀ x, a1.eval (.const x) = x := fun _ => rfl); (have ef : ∀ x, a1.eval (.func x) = .func (.func x) #[] #[] := fun _ => rfl); generalize a1.eval = ρ at *
        skip
        go_simp <;> (intros; first | (exfalso; omega) | rfl)
      · intro vs p hI hp
        have h0 : (vs 0) = .pointer (some ⟨gl, 0, none⟩) := hp 0 (by simp [Lrd5f])
        have e21 : (Roll.putD Drd5f vs [0] b0).eval (.tmp 21) = .pointer (some ⟨gl, 0, none⟩) := (Roll.eval_new 0 rfl (by decide) (by decide) (by omega)).trans h0
        clear hp hlv hN
        unfold Roll.Goes
        simp only [Lrd5f, List.getD_cons_zero, List.getD_cons_succ]
        generalize Roll.putD Drd5f vs [0] b0 = a1 at *
        refine Roll.goes_val (w' := p) (.pointer (some ⟨gl, 0, none⟩)) rfl ?_ ⟨hI, Below.refl _ _, rfl⟩
        (have ec : ∀ x, a1.eval (.const x) = x := fun _ => rfl); (have ef : ∀ x, a1.eval (.func x) = .func (.func x) #[] #[] := fun _ => rfl); generalize a1.eval = ρ at *
        clear h0
        go_simp <;> (intros; first | (exfalso; omega) | rfl)
      · intro vs p hI hp
        have h1 : (vs 1) = .pointer (some ⟨gl, 0, none⟩) := hp 1 (by simp [Lrd5f])
        have e22 : (Roll.putD Drd5f vs [1] b0).eval (.tmp 22) = .pointer (some ⟨gl, 0, none⟩) := (Roll.eval_new 1 rfl (by decide) (by decide) (by omega)).trans h1
        clear hp hlv hN
        unfold Roll.Goes
        simp only [Lrd5f, List.getD_cons_zero, List.getD_cons_succ]
        generalize Roll.putD Drd5f vs [1] b0 = a1 at *
        refine Roll.goes_val (w' := p) (.pointer (some ⟨gl, 0, none⟩)) rfl ?_ ⟨hI, Below.refl _ _, rfl⟩
        (have ec : ∀ x, a1.eval (.const x) = x := fun _ => rfl); (have ef : ∀ x, a1.eval (.func x) = .func (.func x) #[] #[] := fun _ => rfl); generalize a1.eval = ρ at *
        clear h1
        go_simp <;> (intros; first | (exfalso; omega) | rfl)
      · intro vs p hI hp
        have h2 : (vs 2) = .pointer (some ⟨gl, 0, none⟩) := hp 2 (by simp [Lrd5f])
        have e23 : (Roll.putD Drd5f vs [2] b0).eval (.tmp 23) = .pointer (some ⟨gl, 0, none⟩) := (Roll.eval_new 2 rfl (by decide) (by decide) (by omega)).trans h2
        clear hp hlv hN
        unfold Roll.Goes
        simp only [Lrd5f, List.getD_cons_zero, List.getD_cons_succ]
        generalize Roll.putD Drd5f vs [2] b0 = a1 at *
        have cf : p.cell? ⟨gl, 0, none⟩ = some (.pointer (some ⟨g, 0, none⟩)) := (hI.cell (p := ⟨gl, 0, none⟩) HGL.out).trans C0.out
        refine Roll.goes_val (w' := p) (.pointer (some ⟨g, 0, none⟩)) rfl ?_ ⟨hI, Below.refl _ _, rfl⟩
        (have ec : ∀ x, a1.eval (.const x) = x := fun _ => rfl); (have ef : ∀ x, a1.eval (.func x) = .func (.func x) #[] #[] := fun _ => rfl); generalize a1.eval = ρ at *
        clear h2
        go_simp <;> (intros; first | (exfalso; omega) | rfl)
      · intro vs p hI hp
        have e0 : (Roll.putD Drd5f vs [] b0).eval (.tmp 0) = .pointer (some ⟨gl, 0, none⟩) := (Roll.eval_old rfl).trans (hlv.at 0 (0, .pointer (some ⟨gl, 0, none⟩)) rfl)
        clear hp hlv hN
        unfold Roll.Goes
        simp only [Lrd5f, List.getD_cons_zero, List.getD_cons_succ]
        generalize Roll.putD Drd5f vs [] b0 = a1 at *
        refine Roll.goes_val (w' := p) (.pointer (some ⟨gl, 0, none⟩)) rfl ?_ ⟨hI, Below.refl _ _, rfl⟩
        (have ec : ∀ x, a1.eval (.const x) = x := fun _ => rfl); (have ef : ∀ x, a1.eval (.func x) = .func (.func x) #[] #[] := fun _ => rfl); generalize a1.eval = ρ at *
        skip
        go_simp <;> (intros; first | (exfalso; omega) | rfl)
      · intro vs p hI hp
        have h4 : (vs 4) = .pointer (some ⟨gl, 0, none⟩) := hp 4 (by simp [Lrd5f])
        have e25 : (Roll.putD Drd5f vs [4] b0).eval (.tmp 25) = .pointer (some ⟨gl, 0, none⟩) := (Roll.eval_new 4 rfl (by decide) (by decide) (by omega)).trans h4
        clear hp hlv hN
        unfold Roll.Goes
        simp only [Lrd5f, List.getD_cons_zero, List.getD_cons_succ]
        generalize Roll.putD Drd5f vs [4] b0 = a1 at *
        refine Roll.goes_val (w' := p) (.pointer (some ⟨gl, 0, none⟩)) rfl ?_ ⟨hI, Below.refl _ _, rfl⟩
        (have ec : ∀ x, a1.eval (.const x) = x := fun _ => rfl); (have ef : ∀ x, a1.eval (.func x) = .func (.func x) #[] #[] := fun _ => rfl); generalize a1.eval = ρ at *
        clear h4
        go_simp <;> (intros; first | (exfalso; omega) | rfl)
      · intro vs p hI hp
        have h5 : (vs 5) = .pointer (some ⟨gl, 0, none⟩) := hp 5 (by simp [Lrd5f])
        have e26 : (Roll.putD Drd5f vs [5] b0).eval (.tmp 26) = .pointer (some ⟨gl, 0, none⟩) := (Roll.eval_new 5 rfl (by decide) (by decide) (by omega)).trans h5
        clear hp hlv hN
        unfold Roll.Goes
        simp only [Lrd5f, List.getD_cons_zero, List.getD_cons_succ]
        generalize Roll.putD Drd5f vs [5] b0 = a1 at *
        refine Roll.goes_val (w' := p) (.pointer (some ⟨gl, 1, none⟩)) rfl ?_ ⟨hI, Below.refl _ _, rfl⟩
        (have ec : ∀ x, a1.eval (.const x) = x := fun _ => rfl); (have ef : ∀ x, a1.eval (.func x) = .func (.func x) #[] #[] := fun _ => rfl); generalize a1.eval = ρ at *
        clear h5
        go_simp <;> (intros; first | (exfalso; omega) | rfl)
      · intro vs p hI hp
        have h6 : (vs 6) = .pointer (some ⟨gl, 1, none⟩) := hp 6 (by simp [Lrd5f])
        have e27 : (Roll.putD Drd5f vs [6] b0).eval (.tmp 27) = .pointer (some ⟨gl, 1, none⟩) := (Roll.eval_new 6 rfl (by decide) (by decide) (by omega)).trans h6
        clear hp hlv hN
        unfold Roll.Goes
        simp only [Lrd5f, List.getD_cons_zero, List.getD_cons_succ]
        generalize Roll.putD Drd5f vs [6] b0 = a1 at *
        have cf : p.cell? ⟨gl, 1, none⟩ = some (.int .i64 (m.frm : Int)) := (hI.cell (p := ⟨gl, 1, none⟩) HGL.out).trans C1.out
        refine Roll.goes_val (w' := p) (.int .i64 (m.frm : Int)) rfl ?_ ⟨hI, Below.refl _ _, rfl⟩
        (have ec : ∀ x, a1.eval (.const x) = x := fun _ => rfl); (have ef : ∀ x, a1.eval (.func x) = .func (.func x) #[] #[] := fun _ => rfl); generalize a1.eval = ρ at *
        clear h6
        go_simp <;> (intros; first | (exfalso; omega) | rfl)
      · intro vs p hI hp
        have e1 : (Roll.putD Drd5f vs [] b0).eval (.tmp 1) = .int .i64 0 := (Roll.eval_old rfl).trans (hlv.at 1 (1, .int .i64 0) rfl)
        clear hp hlv hN
        unfold Roll.Goes
        simp only [Lrd5f, List.getD_cons_zero, List.getD_cons_succ]
        generalize Roll.putD Drd5f vs [] b0 = a1 at *
        refine Roll.goes_val (w' := p) (.int .i64 0) rfl ?_ ⟨hI, Below.refl _ _, rfl⟩
        (have ec : ∀ x, a1.eval (.const x) = x := fun _ => rfl); (have ef : ∀ x, a1.eval (.func x) = .func (.func x) #[] #[] := fun _ => rfl); generalize a1.eval = ρ at *
        skip
        go_simp <;> (intros; first | (exfalso; omega) | rfl)
      · intro vs p hI hp
        have h8 : (vs 8) = .int .i64 0 := hp 8 (by simp [Lrd5f])
        have e29 : (Roll.putD Drd5f vs [8] b0).eval (.tmp 29) = .int .i64 0 := (Roll.eval_new 8 rfl (by decide) (by decide) (by omega)).trans h8
        clear hp hlv hN
        unfold Roll.Goes
        simp only [Lrd5f, List.getD_cons_zero, List.getD_cons_succ]
        generalize Roll.putD Drd5f vs [8] b0 = a1 at *
            
        refine Roll.goes_val (w' := p) (.int .i64 0) rfl ?_ ⟨hI, Below.refl _ _, rfl⟩
        (have ec : ∀ x, a1.eval (.const x) = x := fun _ => rfl); (have ef : ∀ x, a1.eval (.func x) = .func (.func x) #[] #[] := fun _ => rfl); generalize a1.eval = ρ at *
        clear h8
        go_simp <;> (intros; first | (exfalso; omega) | rfl)
      · intro vs p hI hp
        have h7 : (vs 7) = .int .i64 (m.frm : Int) := hp 7 (by simp [Lrd5f])
        have h9 : (vs 9) = .int .i64 0 := hp 9 (by simp [Lrd5f])
        have e28 : (Roll.putD Drd5f vs [7, 9] b0).eval (.tmp 28) = .int .i64 (m.frm : Int) := (Roll.eval_new 7 rfl (by decide) (by decide) (by omega)).trans h7
        have e30 : (Roll.putD Drd5f vs [7, 9] b0).eval (.tmp 30) = .int .i64 0 := (Roll.eval_new 9 rfl (by decide) (by decide) (by omega)).trans h9
        clear hp hlv hN
        unfold Roll.Goes
        simp only [Lrd5f, List.getD_cons_zero, List.getD_cons_succ]
        generalize Roll.putD Drd5f vs [7, 9] b0 = a1 at *
        have hk := HKW.out
        refine Roll.goes_val (w' := p) (.int .i64 (K : Int)) rfl ?_ ⟨hI, Below.refl _ _, rfl⟩
        (have ec : ∀ x, a1.eval (.const x) = x := fun _ => rfl); (have ef : ∀ x, a1.eval (.func x) = .func (.func x) #[] #[] := fun _ => rfl); generalize a1.eval = ρ at *
        clear h7 h9
        go_simp <;> (intros; first | (exfalso; omega) | rfl)
      · intro vs p hI hp
        have h3 : (vs 3) = .pointer (some ⟨g, 0, none⟩) := hp 3 (by simp [Lrd5f])
        have h10 : (vs 10) = .int .i64 (K : Int) := hp 10 (by simp [Lrd5f])
        have e24 : (Roll.putD Drd5f vs [3, 10] b0).eval (.tmp 24) = .pointer (some ⟨g, 0, none⟩) := (Roll.eval_new 3 rfl (by decide) (by decide) (by omega)).trans h3
        have e31 : (Roll.putD Drd5f vs [3, 10] b0).eval (.tmp 31) = .int .i64 (K : Int) := (Roll.eval_new 10 rfl (by decide) (by decide) (by omega)).trans h10
        clear hp hlv hN
        unfold Roll.Goes
        simp only [Lrd5f, List.getD_cons_zero, List.getD_cons_succ]
        generalize Roll.putD Drd5f vs [3, 10] b0 = a1 at *
        refine Roll.goes_call 48 #[.pointer (some ⟨g, 0, none⟩), .int .i64 (K : Int)] p rfl (by have ec : ∀ x, a1.eval (.const x) = x := fun _ => rfl; have ef : ∀ x, a1.eval (.func x) = .func (.func x) #[] #[] := fun _ => rfl; generalize a1.eval = ρ at *; go_simp) ?_
        refine (read_lv_off (HL.out.below hI) HJ.out (K : Int) HKH.out HON.out).mono ?_
        rintro y p2 ⟨rfl, rfl⟩
        exact ⟨_, rfl, hI, Below.refl _ _, rfl⟩
      · intro vs p hI hp
        have h11 : (vs 11) = .tuple #[.slice none 0 0, .int .i64 10] := hp 11 (by simp [Lrd5f])
        have e32 : (Roll.putD Drd5f vs [11] b0).eval (.tmp 32) = .tuple #[.slice none 0 0, .int .i64 10] := (Roll.eval_new 11 rfl (by decide) (by decide) (by omega)).trans h11
        clear hp hlv hN
        unfold Roll.Goes
        simp only [Lrd5f, List.getD_cons_zero, List.getD_cons_succ]
        generalize Roll.putD Drd5f vs [11] b0 = a1 at *
        refine Roll.goes_val (w' := p) (.tuple #[.slice none 0 0, .int .i64 10]) rfl ?_ ⟨hI, Below.refl _ _, rfl⟩
        (have ec : ∀ x, a1.eval (.const x) = x := fun _ => rfl); (have ef : ∀ x, a1.eval (.func x) = .func (.func x) #[] #[] := fun _ => rfl); generalize a1.eval = ρ at *
        clear h11
        go_simp <;> (intros; first | (exfalso; omega) | rfl)
      · intro vs p hI hp
        have h12 : (vs 12) = .tuple #[.slice none 0 0, .int .i64 10] := hp 12 (by simp [Lrd5f])
        have e20 : (Roll.putD Drd5f vs [12] b0).eval (.tmp 20) = .tuple #[.slice none 0 0, .int .i64 10] := (Roll.eval_new 12 rfl (by decide) (by decide) (by omega)).trans h12
        clear hp hlv hN
        unfold Roll.Goes
        simp only [Lrd5f, List.getD_cons_zero, List.getD_cons_succ]
        generalize Roll.putD Drd5f vs [12] b0 = a1 at *
        refine Roll.goes_val (w' := p) (.slice none 0 0) rfl ?_ ⟨hI, Below.refl _ _, rfl⟩
        (have ec : ∀ x, a1.eval (.const x) = x := fun _ => rfl); (have ef : ∀ x, a1.eval (.func x) = .func (.func x) #[] #[] := fun _ => rfl); generalize a1.eval = ρ at *
        clear h12
        go_simp <;> (intros; first | (exfalso; omega) | rfl)
      · intro vs p hI hp
        have h12 : (vs 12) = .tuple #[.slice none 0 0, .int .i64 10] := hp 12 (by simp [Lrd5f])
        have e20 : (Roll.putD Drd5f vs [12] b0).eval (.tmp 20) = .tuple #[.slice none 0 0, .int .i64 10] := (Roll.eval_new 12 rfl (by decide) (by decide) (by omega)).trans h12
        clear hp hlv hN
        unfold Roll.Goes
        simp only [Lrd5f, List.getD_cons_zero, List.getD_cons_succ]
        generalize Roll.putD Drd5f vs [12] b0 = a1 at *
        refine Roll.goes_val (w' := p) (.int .i64 10) rfl ?_ ⟨hI, Below.refl _ _, rfl⟩
        (have ec : ∀ x, a1.eval (.const x) = x := fun _ => rfl); (have ef : ∀ x, a1.eval (.func x) = .func (.func x) #[] #[] := fun _ => rfl); generalize a1.eval = ρ at *
        clear h12
        go_simp <;> (intros; first | (exfalso; omega) | rfl)
      · intro vs p hI hp
        have h13 : (vs 13) = .slice none 0 0 := hp 13 (by simp [Lrd5f])
        have e33 : (Roll.putD Drd5f vs [13] b0).eval (.tmp 33) = .slice none 0 0 := (Roll.eval_new 13 rfl (by decide) (by decide) (by omega)).trans h13
        clear hp hlv hN
        unfold Roll.Goes
        simp only [Lrd5f, List.getD_cons_zero, List.getD_cons_succ]
        generalize Roll.putD Drd5f vs [13] b0 = a1 at *
        refine Roll.goes_val (w' := p) (.slice none 0 0) rfl ?_ ⟨hI, Below.refl _ _, rfl⟩
        (have ec : ∀ x, a1.eval (.const x) = x := fun _ => rfl); (have ef : ∀ x, a1.eval (.func x) = .func (.func x) #[] #[] := fun _ => rfl); generalize a1.eval = ρ at *
        clear h13
        go_simp <;> (intros; first | (exfalso; omega) | rfl)
      · intro vs p hI hp
        have h14 : (vs 14) = .int .i64 10 := hp 14 (by simp [Lrd5f])
        have e34 : (Roll.putD Drd5f vs [14] b0).eval (.tmp 34) = .int .i64 10 := (Roll.eval_new 14 rfl (by decide) (by decide) (by omega)).trans h14
        clear hp hlv hN
        unfold Roll.Goes
        simp only [Lrd5f, List.getD_cons_zero, List.getD_cons_succ]
        generalize Roll.putD Drd5f vs [14] b0 = a1 at *
        refine Roll.goes_val (w' := p) (.int .i64 10) rfl ?_ ⟨hI, Below.refl _ _, rfl⟩
        (have ec : ∀ x, a1.eval (.const x) = x := fun _ => rfl); (have ef : ∀ x, a1.eval (.func x) = .func (.func x) #[] #[] := fun _ => rfl); generalize a1.eval = ρ at *
        clear h14
        go_simp <;> (intros; first | (exfalso; omega) | rfl)
    · intro vs p hI hR
      have h0 : (vs 0) = .pointer (some ⟨gl, 0, none⟩) := hR 0 (by omega)
      have h1 : (vs 1) = .pointer (some ⟨gl, 0, none⟩) := hR 1 (by omega)
      have h2 : (vs 2) = .pointer (some ⟨gl, 0, none⟩) := hR 2 (by omega)
      have h3 : (vs 3) = .pointer (some ⟨g, 0, none⟩) := hR 3 (by omega)
      have h4 : (vs 4) = .pointer (some ⟨gl, 0, none⟩) := hR 4 (by omega)
      have h5 : (vs 5) = .pointer (some ⟨gl, 0, none⟩) := hR 5 (by omega)
      have h6 : (vs 6) = .pointer (some ⟨gl, 1, none⟩) := hR 6 (by omega)
      have h7 : (vs 7) = .int .i64 (m.frm : Int) := hR 7 (by omega)
      have h8 : (vs 8) = .int .i64 0 := hR 8 (by omega)
      have h9 : (vs 9) = .int .i64 0 := hR 9 (by omega)
      have h10 : (vs 10) = .int .i64 (K : Int) := hR 10 (by omega)
      have h11 : (vs 11) = .tuple #[.slice none 0 0, .int .i64 10] := hR 11 (by omega)
      have h12 : (vs 12) = .tuple #[.slice none 0 0, .int .i64 10] := hR 12 (by omega)
      have h13 : (vs 13) = .slice none 0 0 := hR 13 (by omega)
      have h14 : (vs 14) = .int .i64 10 := hR 14 (by omega)
      have h15 : (vs 15) = .slice none 0 0 := hR 15 (by omega)
      have h16 : (vs 16) = .int .i64 10 := hR 16 (by omega)
      clear hR
      simp only [List.range_succ, List.range_zero, List.nil_append, List.cons_append, Roll.putD, Act.put, List.getD_cons_zero, List.getD_cons_succ, List.setIfInBounds_toArray, List.set_cons_zero, List.set_cons_succ, List.drop_succ_cons, List.drop_zero, Drd5f]
      simp only [h0, h1, h2, h3, h4, h5, h6, h7, h8, h9, h10, h11, h12, h13, h14, h15, h16]
      clear h0 h1 h2 h3 h4 h5 h6 h7 h8 h9 h10 h11 h12 h13 h14 h15 h16
      have HLp := Lib.hid (HL.out.below hI)
      clear hI HL
      go_wp2_with fail
      go_ret2
      exact ⟨rfl, HLp.out⟩
end
end Go.Proofs.YthffegfcgmhppaaDoor

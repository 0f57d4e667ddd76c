/-
  Texts G2, G4, H1, G5, UC, G6, G1, G7, H2, LK, Q9, H3, G3, one behind the other.
-/
import Derived.WalkKit
import Derived.WalkSpells
import Derived.WalkLawsBesides
import Derived.Laws.AppendOwn
import Derived.Laws.OwnMore
import Derived.Deep.AppendSrc
import Derived.Deep.MidRow
import Derived.Lib.Hide
import Derived.Deep.QuietTactic
import Derived.BigQuiet
import Derived.Laws.ResultCell
import GoSem.Claim
import Derived.Orders
import Derived.Tactics
import Derived.Maps.RangeRun
import Derived.Maps.Range
import Derived.Maps.OwnOps
import Derived.Maps.RangeWalk
import Derived.Deep.Cut
import Derived.Deep.RegionWith
import Derived.Deep.DrawnRows
import Derived.StillTailTactics
import Derived.Carry
import Derived.Laws.CopyOwn
import Derived.Lib.AppendZerosOnto
import Derived.Laws.BytesString
import Derived.Laws.AppendOwnNone
import Derived.ProofKit
import Derived.OpenShut
import Derived.Deep.Slices
import Derived.Deep.Fields
import Derived.JoinedCond
import Derived.Laws.ShiftsVarLaws
import Derived.Laws.BitsAllLaws
import Derived.Test.YthffegfcgmhppaaRows
import Derived.Test.YthffegfcgmhppaaZJ606
namespace Go.Proofs.Ythffegfcgmhppaa
open Go.RowKit
set_option linter.unusedSimpArgs false
set_option linter.unusedVariables false
theorem lastB_snoc (s : List (List UInt8)) (l : List UInt8) : lastB (s ++ [l]) = l := by simp [lastB]
theorem sec_len0 {d : DM} {M : Nat} (h : d.Ok M) (k : Nat) (l : List UInt8) (hl : l.length = 64) : (d.write k l).S.length = d.S.length := write_len _ _ _
/-- the disk that Format leaves -/
theorem fmt_ga (f n : Nat) (d : DM) (hfit : f + n ≤ d.S.length) (h4 : 4 ≤ n) (hok : d.Ok 0) : GA f n (((d.write (f + 1) (desB 1 128)).flush.write f (desB 2 128)).flush) 2 128 [] := by
  have o1 : (d.write (f + 1) (desB 1 128)).flush.Ok 0 := DM.flush_ok (DM.write_ok hok (desB_len _ _))
  have o2 : ((d.write (f + 1) (desB 1 128)).flush.write f (desB 2 128)).flush.Ok 0 := DM.flush_ok (DM.write_ok o1 (desB_len _ _))
  have l1 : (d.write (f + 1) (desB 1 128)).S.length = d.S.length := write_len _ _ _
  have l2 : (d.write (f + 1) (desB 1 128)).flush.S.length = d.S.length := by rw [flush_len, l1]
  have l3 : ((d.write (f + 1) (desB 1 128)).flush.write f (desB 2 128)).S.length = d.S.length := by rw [write_len, l2]
  have l4 : ((d.write (f + 1) (desB 1 128)).flush.write f (desB 2 128)).flush.S.length = d.S.length := by rw [flush_len, l3]
  obtain ⟨a0, a1, a2, a3⟩ := desB_get 1 128 0 (by omega) (by omega)
  obtain ⟨b0, b1, b2, b3⟩ := desB_get 2 128 0 (by omega) (by omega)
  have s1 : sec ((d.write (f + 1) (desB 1 128)).flush) (f + 1) = [desB 1 128] := by
    rw [sec_flush _ _ (by omega), sec_write _ _ _ _ (by omega), if_pos rfl, lastB_snoc]
  refine ⟨by rw [l4]; exact hfit, len_of_ok o2, by omega, ⟨desB 2 128, ?_, okS_des 2 128 (by omega) (by omega) (by omega), b0, b2⟩, ⟨desB 1 128, ?_, .inr a0, by rw [a1]; omega⟩, rfl, fun i hi => by simp [joinB] at hi, by omega⟩
  · show sec _ f = _
    rw [sec_flush _ _ (by omega), sec_write _ _ _ _ (by omega), if_pos rfl, lastB_snoc]
  · show sec _ (f + 1) = _
    rw [sec_flush _ _ (by omega), sec_write _ _ _ _ (by omega), if_neg (by omega), s1]
    rfl
def mFresh (f n : Nat) : LM := ⟨f, n, 2, 128, [], 0, 0⟩
theorem fmt_fine (f n : Nat) (d : DM) (hon : d.on = true) (hf : d.fuse = 0) (hfit : f + n ≤ d.S.length) (h4 : 4 ≤ n) (h5 : n ≤ 200) (hok : d.Ok 0) : (fmtR f n d).1 = 0 ∧ (fmtR f n d).2.1 = mFresh f n ∧ Fine (mFresh f n) (fmtR f n d).2.2 ∧ (fmtR f n d).2.2.on = true ∧ (fmtR f n d).2.2.fuse = 0 ∧ (fmtR f n d).2.2.S.length = d.S.length := by
  obtain ⟨e1, e2, e3, e4, e5⟩ := fmtR_on f n d hon hf
  refine ⟨e1, e2, ⟨⟨h4, h5⟩, Nat.le_refl _, rfl, by show takR [] + 128 ≤ 64 * n; simp [takR]; omega, (fun r hr => by cases hr), ?_, ?_⟩, e4, e5, ?_⟩
  · rw [e3]; exact fmt_ga f n d hfit h4 hok
  · rw [e3]; exact DM.flush_ok (DM.write_ok (DM.flush_ok (DM.write_ok hok (desB_len _ _))) (desB_len _ _))
  · rw [e3, flush_len, write_len, flush_len, write_len]
/-- the block of a past -/
def pastO (gp g gl n : Nat) (v : Value) (s : Nat) (r : Bool) : Obj := ⟨fun B w => w.heap[gp]? = some (.cells #[.pointer (some ⟨g, 0, none⟩), .pointer (some ⟨gl, 0, none⟩), .int .i64 (n : Int), v, .int .i64 (s : Int), .bool r] 54 (0, 0)) ∧ B gp, fun {B S w w'} h hk hs => ⟨hk.heap h.1 (hs gp (Array.getElem?_eq_some_iff.1 h.1).1 h.2), h.2⟩⟩
theorem Lv.pastF {w0 w : World} {L : List Obj} {i gp g gl n s : Nat} {v : Value} {r : Bool} (h : Lv w0 w L) (hi : L[i]? = some (pastO gp g gl n v s r)) : gp < w.heap.size ∧ w.cell? ⟨gp, 0, none⟩ = some (.pointer (some ⟨g, 0, none⟩)) ∧ w.cell? ⟨gp, 1, none⟩ = some (.pointer (some ⟨gl, 0, none⟩)) ∧ w.cell? ⟨gp, 2, none⟩ = some (.int .i64 (n : Int)) ∧ w.cell? ⟨gp, 3, none⟩ = some v ∧ w.cell? ⟨gp, 4, none⟩ = some (.int .i64 (s : Int)) ∧ w.cell? ⟨gp, 5, none⟩ = some (.bool r) := by
  obtain ⟨_, h1, -, -, -⟩ := h.get hi
  exact ⟨(Array.getElem?_eq_some_iff.1 h1.1).1, cell_of_row w gp 0 _ _ _ h1.1, cell_of_row w gp 1 _ _ _ h1.1, cell_of_row w gp 2 _ _ _ h1.1, cell_of_row w gp 3 _ _ _ h1.1, cell_of_row w gp 4 _ _ _ h1.1, cell_of_row w gp 5 _ _ _ h1.1⟩
theorem run_buildP (g gl : Nat) (n : Int) (W : World) : (Instr.build 54 #[(0, .pointer (some ⟨g, 0, none⟩)), (1, .pointer (some ⟨gl, 0, none⟩)), (2, .int .i64 n)]).run Try.prog W = .ok (.agg #[.pointer (some ⟨g, 0, none⟩), .pointer (some ⟨gl, 0, none⟩), .int .i64 n, .slice none 0 0, .int .i64 0, .bool false]) W := by kernel_rfl
theorem dnew_ok (n : Nat) (h1 : 1 ≤ n) (h2 : n ≤ 4096) : (DM.new n).Ok 0 := DM.new_ok h1 h2
/-- what begin makes of a number -/
def bgN (s : Int) : Nat := 4 + (around s 12).toNat
theorem bgN_bd (s : Int) : 4 ≤ bgN s ∧ bgN s ≤ 15 := by
  have := around_bd s 12 (by omega)
  unfold bgN
  omega
def bgD (n : Nat) : DM := (fmtR 1 n (DM.new (n + 2))).2.2
theorem bg_fine (n : Nat) (h1 : 4 ≤ n) (h2 : n ≤ 15) : (fmtR 1 n (DM.new (n + 2))).1 = 0 ∧ (fmtR 1 n (DM.new (n + 2))).2.1 = mFresh 1 n ∧ Fine (mFresh 1 n) (bgD n) ∧ (bgD n).on = true ∧ (bgD n).fuse = 0 ∧ (bgD n).S.length = n + 2 := by
  have hs : (DM.new (n + 2)).S.length = n + 2 := by simp [DM.new]
  obtain ⟨a, b, c, d, e, f⟩ := fmt_fine 1 n (DM.new (n + 2)) rfl rfl (by rw [hs]; omega) h1 (by omega) (DM.new_ok (by omega) (by omega))
  exact ⟨a, b, c, d, e, f.trans hs⟩
section
variable {w0 w : World} {L : List Obj}
set_option maxRecDepth 100000 in
set_option maxHeartbeats 2000000 in
theorem begin_lv (h : Lv w0 w L) (s : Int) (s1 : -9223372036854775808 ≤ s) (s2 : s ≤ 9223372036854775807) :
    Calls Try.prog 23 #[.int .i64 s] w fun e w' => ∃ gp g gl, e = .returned (.pointer (some ⟨gp, 0, none⟩)) ∧ Lv w0 w' (pastO gp g gl (bgN s) (.slice none 0 0) 0 false :: logO gl g (mFresh 1 (bgN s)) :: diskO g (bgD (bgN s)) :: L) := by
  have hA := around_any s 12 w s1 s2 (by omega) (by omega)
  obtain ⟨a, ha, ha2⟩ := around_nat s 12 (by omega)
  rw [ha] at hA
  obtain ⟨n, hn⟩ : ∃ n, n = bgN s := ⟨_, rfl⟩
  have hna : (n : Int) = 4 + (a : Int) := by rw [hn]; unfold bgN; rw [ha]; omega
  have hnb := bgN_bd s
  rw [← hn] at hnb ⊢
  have hn1 := hnb.1
  have hn2 := hnb.2
  have hw1 : IntKind.i64.wrap (4 + (a : Int)) = (n : Int) := by rw [i64_id _ (by omega) (by omega)]; omega
  have hw2 : IntKind.i64.wrap ((n : Int) + 2) = ((n + 2 : Nat) : Int) := by rw [i64_id _ (by omega) (by omega)]; omega
  obtain ⟨f1, f2, f3, f4, f5, f6⟩ := bg_fine n hn1 hn2
  have hs : (DM.new (n + 2)).S.length = n + 2 := by simp [DM.new]
  have hv : validB (DM.new (n + 2)).S.length ((1 : Nat) : Int) (n : Int) = true := by unfold validB; rw [hs]; apply decide_eq_true; omega
  have HA := Lib.hid hA
  have HF : Hid (∀ u g, Lv w0 u (diskO g (DM.new (n + 2)) :: L) → Calls Try.prog 11 #[.pointer (some ⟨g, 0, none⟩), .int .i64 1, .int .i64 (n : Int)] u fun x w' => ∃ gl, x = .returned (.tuple #[.pointer (some ⟨gl, 0, none⟩), .int .i64 0]) ∧ Lv w0 w' (logO gl g (mFresh 1 n) :: diskO g (bgD n) :: L)) := Lib.hid (fun u g hl => by
    refine (format_ok hl (j := 0) rfl 1 n (by omega) (by omega) hv ((DM.new_ok (by omega) (by omega)).mono (by omega))).mono ?_
    rintro x w' (⟨-, gl, hx, hl2⟩ | ⟨he, -⟩)
    · rw [f2] at hl2; exact ⟨gl, hx, hl2⟩
    · rw [f1] at he; exact absurd he (by omega))
  have HL0 := Lib.hid h
  have hb1 := run_buildP
  obtain ⟨N2, hN2⟩ : ∃ N2, N2 = n + 2 := ⟨_, rfl⟩
  rw [← hN2] at hw2 HF
  have HN2 : Hid (1 ≤ N2 ∧ N2 ≤ 4096) := Lib.hid (by omega)
  clear h hA hn ha ha2 hna hnb f1 f2 f3 f4 f5 f6 hs hv hN2
  go_enter Try.func23, Try.ntmps23
  go_upto_region 8 with (first
    | (go_at_call 9; refine HA.out.mono ?_; rintro e w1 ⟨rfl, rfl⟩)
    | (have x1 := HL0.out; go_at_call 10; refine (made4_lv x1 N2 HN2.out.1 HN2.out.2).mono ?_; rintro e w1 ⟨g, rfl, hl⟩; have HL1 := Lib.hid hl; clear hl x1 HL0)
    | (have x1 := HL1.out; go_at_call 11; refine (HF.out _ _ x1).mono ?_; rintro e w2 ⟨gl, rfl, hl⟩; have HL2 := Lib.hid hl; clear hl x1 HL1))
  go_wp2_with fail
  go_ret
  refine ⟨_, g, gl, rfl, HL2.out.cons ((Below.refl _ _).alloc (Nat.le_refl _) _) (B := fun x => x = w2.heap.size) ⟨heap_new rfl, rfl⟩ (fun x hx => by subst hx; exact ⟨Nat.le_refl _, by rw [size_alloc1]; omega⟩)⟩
end
end Go.Proofs.Ythffegfcgmhppaa
namespace Go.Proofs.Ythffegfcgmhppaa
open Go.RowKit
set_option linter.unusedSimpArgs false
set_option linter.unusedVariables false
theorem lenB_facts (rs : List (List UInt8)) : (∀ r ∈ rs, r.length + 2 ≤ lenB rs) ∧ rs.length * 2 ≤ lenB rs ∧ takR rs = lenB rs + 10 * rs.length := by
  induction rs with
  | nil => exact ⟨(fun r hr => by cases hr), Nat.le_refl _, rfl⟩
  | cons q rs ih =>
    obtain ⟨i1, i2, i3⟩ := ih
    have e1 : lenB (q :: rs) = q.length + 2 + lenB rs := by simp [lenB]
    have e2 : takR (q :: rs) = q.length + 12 + takR rs := by simp [takR]
    refine ⟨fun r hr => ?_, by rw [e1, List.length_cons]; omega, by rw [e1, e2, List.length_cons, i3]; omega⟩
    rw [e1]
    rcases List.mem_cons.1 hr with rfl | hr
    · omega
    · have := i1 r hr; omega
theorem wrD_nf (F : Nat) : ∀ (f : Nat) (d : DM) (a : Nat) (b : List UInt8), d.on = true → d.fuse = 0 → (wrD F f d a b).1 = 0 ∧ (wrD F f d a b).2.on = true ∧ (wrD F f d a b).2.fuse = 0
  | 0, d, a, b, h1, h2 => ⟨rfl, h1, h2⟩
  | f + 1, d, a, b, h1, h2 => by
    rw [wrD]
    split
    · exact ⟨rfl, h1, h2⟩
    · exact wrD_nf F f _ _ _ ((nf_write h2).1.trans h1) (nf_write h2).2
theorem sync_nf (m : LM) (d : DM) (h1 : d.on = true) (h2 : d.fuse = 0) : (syncR m d).1 = 0 ∧ (syncR m d).2.2.on = true ∧ (syncR m d).2.2.fuse = 0 := by
  obtain ⟨a, b, c⟩ := wrD_nf m.frm (addB m).length d m.en (addB m) h1 h2
  have a' : (wrR m d).1 = 0 := a
  have b' : (wrR m d).2.on = true := b
  have c' : (wrR m d).2.fuse = 0 := c
  obtain ⟨x1, x2, x3, x4, x5⟩ := desR_nf m (wrR m d).2.flush (m.en + (addB m).length) ((nf_flush c').1.trans b') (nf_flush c').2
  unfold syncR
  rw [if_pos a', if_pos b']
  exact ⟨x1, x4, x5⟩
theorem reset_nf (m : LM) (d : DM) (h1 : d.on = true) (h2 : d.fuse = 0) : (resetR m d).1 = 0 ∧ (resetR m d).2.2.on = true ∧ (resetR m d).2.2.fuse = 0 := by
  obtain ⟨x1, x2, x3, x4, x5⟩ := desR_nf m d 128 h1 h2
  exact ⟨x1, x4, x5⟩
section
variable {w0 w : World} {L : List Obj}
theorem Lv.recsR (h : Lv w0 w L) {i : Nat} {v : Value} {rs : List (List UInt8)} (hi : L[i]? = some (recsO v rs)) : ∃ D a c, v = .slice a rs.length c ∧ RdR D w a rs.length c rs := by
  obtain ⟨B, ⟨k, Bf, h1, h2, h3⟩, -, -, -⟩ := h.get hi
  obtain ⟨a, c, rfl, -, -⟩ := h1.shape
  exact ⟨B, a, c, rfl, h1.rd (D := B) (fun x hx => (h2 x hx).1) h3⟩
def mOpen (F n r : Nat) (rs : List (List UInt8)) : LM := ⟨F, n, r, 128 + lenB rs, rs, rs.length, takR rs⟩
theorem open_ga (h : Lv w0 w L) {g j : Nat} {d : DM} (hj : L[j]? = some (diskO g d)) {F n r e : Nat} {rs : List (List UInt8)} (hga : GA F n d r e rs) (hF : F ≤ 4096) (h4 : 4 ≤ n) (h5 : n ≤ 200) (ho : d.on = true) :
    Calls Try.prog 18 #[.pointer (some ⟨g, 0, none⟩), .int .i64 (F : Int), .int .i64 (n : Int)] w fun x w' => ∃ gl, x = .returned (.tuple #[.pointer (some ⟨gl, 0, none⟩), .int .i64 0]) ∧ Lv w0 w' (logO gl g (mOpen F n r rs) :: L) := by
  obtain ⟨g1, g2, g3⟩ := hga.reads h4
  obtain ⟨b1, b2, b3⟩ := lenB_facts rs
  have hfit := hga.fit
  have hen := hga.en
  have hroom := hga.room
  have hv : validB d.S.length (F : Int) (n : Int) = true := by unfold validB; apply decide_eq_true; omega
  have hcn : lenB rs ≤ (lenB rs + 63) / 64 * 64 ∧ (lenB rs + 63) / 64 * 64 < lenB rs + 64 := by omega
  have hb := hga.bytes ((lenB rs + 63) / 64) hcn
  have := open_ok h hj F n hF (by omega) hv ho rs ((lenB rs + 63) / 64) ⟨g1, by rw [g3, hen]⟩ (by omega) hcn hb (fun q hq => by have := b1 q hq; omega) (by omega) (by omega)
  rw [g2] at this
  exact this
theorem open_fine {d : DM} {F n r e : Nat} {rs : List (List UInt8)} (hga : GA F n d r e rs) (h4 : 4 ≤ n) (h5 : n ≤ 200) (hok : d.Ok 0) (hcap : takR rs + 128 ≤ 64 * n) (hsm : ∀ q ∈ rs, q.length ≤ 4000) : Fine (mOpen F n r rs) d := by
  refine ⟨⟨h4, h5⟩, Nat.le_refl _, rfl, hcap, hsm, ?_, hok⟩
  show GA F n d r (128 + lenB rs) (rs.take rs.length)
  rw [List.take_of_length_le (Nat.le_refl _), ← hga.en]
  exact hga
end
end Go.Proofs.Ythffegfcgmhppaa
namespace Go.Proofs.Ythffegfcgmhppaa
open Go.RowKit
set_option linter.unusedSimpArgs false
set_option linter.unusedVariables false
section
variable {w0 w : World} {L : List Obj} {i gp g gl n s : Nat} {v : Value} {r : Bool}
theorem Lv.pastFz (h : Lv w0 w L) (hi : L[i]? = some (pastO gp g gl n v s r)) (j : Nat) : w.frozen? ⟨gp, j, none⟩ = false := by
  obtain ⟨_, h1, -, -, -⟩ := h.get hi
  exact frozen_of_row w gp j _ _ h1.1
theorem Lv.pastPut (h : Lv w0 w L) (hi : L[i]? = some (pastO gp g gl n v s r)) (j : Nat) (u : Value) (o : Obj)
    (ho : ∀ w', w'.heap[gp]? = some (.cells ((#[.pointer (some ⟨g, 0, none⟩), .pointer (some ⟨gl, 0, none⟩), .int .i64 (n : Int), v, .int .i64 (s : Int), .bool r] : Array Value).setIfInBounds j u) 54 (0, 0)) → o.at' (fun x => x = gp) w') :
    Lv w0 (w.setCell ⟨gp, j, none⟩ u) (L.set i o) := by
  obtain ⟨B, h1, hlt, -, hset⟩ := h.get hi
  have hg := (Array.getElem?_eq_some_iff.1 h1.1).1
  refine hset _ o (fun x => x = gp) (ho _ (heap_setCell_same w gp j _ _ u h1.1)) ((Kept.refl B w).setCell (p := ⟨gp, j, none⟩) (fun _ => h1.2) u) (fun x hx => .inl (by rw [hx]; exact h1.2)) (fun x hx => ?_)
  rw [hx]
  exact Nat.lt_of_lt_of_le hg ((Kept.refl (fun _ => True) w).setCell (p := ⟨gp, j, none⟩) (fun _ => trivial) u).size
theorem Lv.pastAll (h : Lv w0 w L) (hi : L[i]? = some (pastO gp g gl n v s r)) (u : Value) : Lv w0 (w.setCell ⟨gp, 3, none⟩ u) (L.set i (pastO gp g gl n u s r)) :=
  h.pastPut hi 3 u _ (fun w' hw => ⟨hw, rfl⟩)
theorem Lv.pastSyn (h : Lv w0 w L) (hi : L[i]? = some (pastO gp g gl n v s r)) (u : Nat) : Lv w0 (w.setCell ⟨gp, 4, none⟩ (.int .i64 (u : Int))) (L.set i (pastO gp g gl n v u r)) :=
  h.pastPut hi 4 _ _ (fun w' hw => ⟨hw, rfl⟩)
theorem Lv.pastRst (h : Lv w0 w L) (hi : L[i]? = some (pastO gp g gl n v s r)) (u : Bool) : Lv w0 (w.setCell ⟨gp, 5, none⟩ (.bool u)) (L.set i (pastO gp g gl n v s u)) :=
  h.pastPut hi 5 _ _ (fun w' hw => ⟨hw, rfl⟩)
theorem Lv.pastLog (h : Lv w0 w L) (hi : L[i]? = some (pastO gp g gl n v s r)) (u : Nat) : Lv w0 (w.setCell ⟨gp, 1, none⟩ (.pointer (some ⟨u, 0, none⟩))) (L.set i (pastO gp g u n v s r)) :=
  h.pastPut hi 1 _ _ (fun w' hw => ⟨hw, rfl⟩)
end
/-- what happens to the sectors outside of a region: nothing, or they are flushed; all sectors stay sectors -/
structure Moved (F n : Nat) (d d' : DM) : Prop where
  len : d'.S.length = d.S.length
  out : ∀ k, k < F ∨ F + n ≤ k → sec d' k = sec d k ∨ sec d' k = [lastB (sec d k)]
  ok : ∀ k, k < d'.S.length → sec d' k ≠ [] ∧ ∀ b ∈ sec d' k, b.length = 64
theorem Moved.refl {F n M : Nat} {d : DM} (h : d.Ok M) : Moved F n d d := ⟨rfl, fun _ _ => .inl rfl, len_of_ok h⟩
theorem Moved.trans {F n : Nat} {d d' d'' : DM} (h : Moved F n d d') (h2 : Moved F n d' d'') : Moved F n d d'' := by
  refine ⟨h2.len.trans h.len, fun k hk => ?_, h2.ok⟩
  rcases h.out k hk with a | a <;> rcases h2.out k hk with b | b
  · exact .inl (b.trans a)
  · exact .inr (by rw [b, a])
  · exact .inr (b.trans a)
  · exact .inr (by rw [b, a]; rfl)
theorem lens_write {d : DM} (h : ∀ k, k < d.S.length → sec d k ≠ [] ∧ ∀ b ∈ sec d k, b.length = 64) (k : Nat) (l : List UInt8) (hk : k < d.S.length) (hl : l.length = 64) : ∀ j, j < (d.write k l).S.length → sec (d.write k l) j ≠ [] ∧ ∀ b ∈ sec (d.write k l) j, b.length = 64 := by
  intro j hj
  rw [write_len] at hj
  rw [sec_write d k l j hk]
  obtain ⟨a1, a2⟩ := h j hj
  split
  · refine ⟨by simp, fun b hb => ?_⟩
    rcases List.mem_append.1 hb with hb | hb
    · exact a2 b hb
    · rw [List.mem_singleton.1 hb]; exact hl
  · exact ⟨a1, a2⟩
theorem lens_flush {d : DM} (h : ∀ k, k < d.S.length → sec d k ≠ [] ∧ ∀ b ∈ sec d k, b.length = 64) : ∀ j, j < d.flush.S.length → sec d.flush j ≠ [] ∧ ∀ b ∈ sec d.flush j, b.length = 64 := by
  intro j hj
  rw [flush_len] at hj
  rw [sec_flush d j hj]
  obtain ⟨a1, a2⟩ := h j hj
  exact ⟨by simp, fun b hb => by rw [List.mem_singleton.1 hb]; exact a2 _ (lastB_mem a1)⟩
theorem Moved.write {F n : Nat} {d d' : DM} (h : Moved F n d d') (k : Nat) (l : List UInt8) (hk : k < d'.S.length) (hl : l.length = 64) (h1 : F ≤ k ∧ k < F + n) : Moved F n d (d'.write k l) :=
  h.trans ⟨write_len _ _ _, fun j hj => .inl (by rw [sec_write d' k l j hk, if_neg (by omega)]), lens_write h.ok k l hk hl⟩
theorem Moved.flush {F n : Nat} {d d' : DM} (h : Moved F n d d') : Moved F n d d'.flush := by
  refine h.trans ⟨flush_len _, fun j hj => ?_, lens_flush h.ok⟩
  by_cases hl : j < d'.S.length
  · exact .inr (sec_flush d' j hl)
  · exact .inl (by rw [sec_out (by rw [flush_len]; omega), sec_out (by omega)])
theorem des_moved {F n : Nat} {d d' : DM} {m : LM} (h : Moved F n d d') (hm : m.frm = F) (hfit : F + n ≤ d.S.length) (h4 : 4 ≤ n) (e : Nat) : Moved F n d (desR m d' e).2.2 := by
  subst hm
  unfold desR
  have hl := h.len
  have hw := h.write (m.frm + (m.rnd + 1) % 256 % 2) (desB ((m.rnd + 1) % 256) e) (by omega) (desB_len _ _) (by omega)
  split
  · split
    · exact hw.flush
    · exact hw
  · exact h
theorem reset_moved {m : LM} {d : DM} (h : Fine m d) : Moved m.frm m.n d (resetR m d).2.2 := by
  have hd := des_moved (Moved.refl (F := m.frm) (n := m.n) h.ok) rfl h.ga.fit h.n4.1 128
  unfold resetR
  split <;> exact hd
theorem wr_moved {m : LM} {d : DM} (h : Fine m d) : Moved m.frm m.n d (wrR m d).2 := by
  obtain ⟨w1, w2, w3, w4, w5⟩ := h.wr
  have hadd := h.addLen
  have hen := h.ga.en
  have hbd := h.bounds
  have hfit := h.ga.fit
  have hn4 := h.n4
  refine ⟨w4, fun k hk => .inl ?_, len_of_ok w3⟩
  exact wrD_other m.frm (addB m).length d m.en (addB m) k (by omega) (by omega) (by omega)
theorem sync_moved {m : LM} {d : DM} (h : Fine m d) : Moved m.frm m.n d (syncR m d).2.2 := by
  have hw := wr_moved h
  have hf := hw.flush
  have hd := des_moved hf rfl h.ga.fit h.n4.1 (m.en + (addB m).length)
  unfold syncR
  split
  · split
    · exact hd
    · exact hw
  · exact hw
theorem GA.moved {F n F2 n2 : Nat} {d d' : DM} {r e : Nat} {rs : List (List UInt8)} (h : GA F n d r e rs) (hn : 4 ≤ n) (hm : Moved F2 n2 d d') (ha : F + n ≤ F2 ∨ F2 + n2 ≤ F) : GA F n d' r e rs := by
  obtain ⟨x, x1, x2⟩ := h.new
  obtain ⟨y, y1, y2⟩ := h.old
  have hro := h.room
  have hen := h.en
  have hfit := h.fit
  refine ⟨by rw [hm.len]; exact hfit, hm.ok, h.rb, ⟨x, ?_, x2⟩, ⟨y, ?_, y2⟩, hen, fun i hi b hb => ?_, hro⟩
  · rcases hm.out (F + r % 2) (by omega) with a | a
    · rw [a, x1]
    · rw [a, x1]; rfl
  · rcases hm.out (F + (r + 1) % 2) (by omega) with a | a
    · rw [a, y1]
    · rw [a, y1]; rfl
  · have hi2 := hi
    rw [joinB_len] at hi2
    rcases hm.out (F + 2 + i / 64) (by omega) with a | a
    · rw [a] at hb; exact h.all i hi b hb
    · rw [a] at hb
      rw [List.mem_singleton.1 hb]
      exact h.all i hi _ (lastB_mem (h.len _ (by omega)).1)
/-- a past between two acts: the power may be off -/
structure Past (FR DS n : Nat) (m : LM) (d : DM) (rst : Bool) : Prop where
  frm : m.frm = FR
  n_ : m.n = n
  len : d.S.length = DS
  fit : FR + n ≤ DS ∧ DS ≤ 4096
  n4 : 4 ≤ n ∧ n ≤ 15
  live : d.on = true → Fine m d
  cr : Cr m d rst
  cap : takR m.recs + 128 ≤ 64 * n
  small : ∀ q ∈ m.recs, q.length ≤ 4000
  syn : m.syn ≤ m.recs.length
theorem Fine.past {FR DS n : Nat} {m : LM} {d : DM} (h : Fine m d) (h1 : m.frm = FR) (h2 : m.n = n) (h3 : d.S.length = DS) (hft : FR + n ≤ DS ∧ DS ≤ 4096) (h4 : 4 ≤ n ∧ n ≤ 15) (rst : Bool) : Past FR DS n m d rst :=
  ⟨h1, h2, h3, hft, h4, fun _ => h, h.cr rst, by rw [← h2]; exact h.cap, h.small, h.syn⟩
theorem Past.append {FR DS n : Nat} {m : LM} {d : DM} {rst : Bool} (h : Past FR DS n m d rst) (hon : d.on = true) (r : List UInt8) (h0 : appE m true r.length = 0) : Past FR DS n (appM m true r) d rst ∧ (appM m true r).recs = m.recs ++ [r] ∧ (appM m true r).syn = m.syn := by
  obtain ⟨a, b, c, e, f⟩ := append_fine (h.live hon) r true h0
  exact ⟨a.past (e.trans h.frm) (f.trans h.n_) h.len h.fit h.n4 rst, b, c⟩
theorem Past.off {FR DS n : Nat} {m : LM} {d d' : DM} {rst rst' : Bool} (h : Past FR DS n m d rst) (hl : d'.S.length = d.S.length) (ho : d'.on = false) (hc : Cr m d' rst') : Past FR DS n m d' rst' :=
  ⟨h.frm, h.n_, hl.trans h.len, h.fit, h.n4, (fun e => by rw [ho] at e; cases e), hc, h.cap, h.small, h.syn⟩
theorem Past.sync {FR DS n : Nat} {m : LM} {d : DM} {rst : Bool} (h : Past FR DS n m d rst) (hon : d.on = true) :
    ((syncR m d).1 = 0 ∧ Past FR DS n (syncR m d).2.1 (syncR m d).2.2 rst ∧ (syncR m d).2.1.recs = m.recs ∧ (syncR m d).2.1.syn = m.recs.length) ∨
    ((syncR m d).1 = 10 ∧ (syncR m d).2.1 = m ∧ (syncR m d).2.2.on = false ∧ Past FR DS n m (syncR m d).2.2 rst) := by
  obtain ⟨z1, ⟨a, b, c, e, f, k⟩ | ⟨a, b, c, e⟩⟩ := sync_fine (h.live hon)
  · exact .inl ⟨a, b.past (f.trans h.frm) (k.trans h.n_) (z1.trans h.len) h.fit h.n4 rst, c, e⟩
  · exact .inr ⟨a, b, c, h.off z1 c (e rst)⟩
theorem Past.reset {FR DS n : Nat} {m : LM} {d : DM} {rst : Bool} (h : Past FR DS n m d rst) (hon : d.on = true) :
    ((resetR m d).1 = 0 ∧ Past FR DS n (resetR m d).2.1 (resetR m d).2.2 false ∧ (resetR m d).2.1.recs = [] ∧ (resetR m d).2.1.syn = 0) ∨
    ((resetR m d).1 = 10 ∧ (resetR m d).2.1 = m ∧ (resetR m d).2.2.on = false ∧ Past FR DS n m (resetR m d).2.2 true) := by
  obtain ⟨z1, ⟨a, b, c, e, f, k⟩ | ⟨a, b, c, e⟩⟩ := reset_fine (h.live hon)
  · exact .inl ⟨a, b.past (f.trans h.frm) (k.trans h.n_) (z1.trans h.len) h.fit h.n4 false, c, e⟩
  · exact .inr ⟨a, b, c, h.off z1 c e⟩
theorem Past.sync_moved {FR DS n : Nat} {m : LM} {d : DM} {rst : Bool} (h : Past FR DS n m d rst) (hon : d.on = true) : Moved FR n d (syncR m d).2.2 := by
  have := _root_.Go.Proofs.Ythffegfcgmhppaa.sync_moved (h.live hon)
  rw [h.frm, h.n_] at this
  exact this
theorem Past.reset_moved {FR DS n : Nat} {m : LM} {d : DM} {rst : Bool} (h : Past FR DS n m d rst) (hon : d.on = true) : Moved FR n d (resetR m d).2.2 := by
  have := _root_.Go.Proofs.Ythffegfcgmhppaa.reset_moved (h.live hon)
  rw [h.frm, h.n_] at this
  exact this
section
variable {w0 w : World} {L : List Obj} {FR DS gl g i j n : Nat} {m : LM} {d : DM} {rst : Bool}
theorem Past.sync_lv (hc : Past FR DS n m d rst) (hon : d.on = true) (h : Lv w0 w L) (hi : L[i]? = some (logO gl g m)) (hj : L[j]? = some (diskO g d)) (hij : i ≠ j) :
    Calls Try.prog 16 #[.pointer (some ⟨gl, 0, none⟩)] w fun x w' => x = .returned (.int .i64 (syncR m d).1) ∧ Lv w0 w' ((L.set j (diskO g (syncR m d).2.2)).set i (logO gl g (syncR m d).2.1)) := by
  have hf := hc.live hon
  have hb := hf.bounds
  have h0 := hc.n4
  have h1 := hc.frm
  have h2 := hc.n_
  have h3 := hc.len
  have h9 := hc.fit
  have h4 := hf.addLen
  obtain ⟨b1, b2, b3⟩ := lenB_facts m.recs
  exact Go.Proofs.Ythffegfcgmhppaa.sync_lv h hi hj hij hf.ga.rb (by rw [h3, h1]; omega) (hf.ok.mono (by omega)) hf.syn (fun r hr => by have := b1 r hr; omega) (by omega) (by omega) (by rw [h3, h1]; omega)
theorem Past.reset_lv (hc : Past FR DS n m d rst) (hon : d.on = true) (h : Lv w0 w L) (hi : L[i]? = some (logO gl g m)) (hj : L[j]? = some (diskO g d)) (hij : i ≠ j) :
    Calls Try.prog 17 #[.pointer (some ⟨gl, 0, none⟩)] w fun x w' => x = .returned (.int .i64 (resetR m d).1) ∧ Lv w0 w' ((L.set j (diskO g (resetR m d).2.2)).set i (logO gl g (resetR m d).2.1)) := by
  have hf := hc.live hon
  have h0 := hc.n4
  have h1 := hc.frm
  have h3 := hc.len
  have h9 := hc.fit
  exact Go.Proofs.Ythffegfcgmhppaa.reset_lv h hi hj hij hf.ga.rb (by rw [h3, h1]; omega) (hf.ok.mono (by omega))
theorem Past.bd (h : Past FR DS n m d rst) : m.recs.length ≤ 100000 ∧ (∀ q ∈ m.recs, q.length ≤ 1000000) ∧ takR m.recs ≤ 1000000 := by
  have h1 := h.cap
  have h2 := h.n4
  have h3 := length_le_takR m.recs
  exact ⟨by omega, fun q hq => by have := h.small q hq; omega, by omega⟩
end
end Go.Proofs.Ythffegfcgmhppaa
namespace Go.Proofs.Ythffegfcgmhppaa
open Go.RowKit
set_option linter.unusedSimpArgs false
set_option linter.unusedVariables false
section
variable {w0 w : World} {L : List Obj} {gl g i k : Nat} {m : LM}
set_option maxRecDepth 100000 in
set_option maxHeartbeats 4000000 in
theorem agrees_lv (h : Lv w0 w L) (hi : L[i]? = some (logO gl g m)) {a : Option Addr} {c : Nat} (hk : L[k]? = some (recsO (.slice a m.recs.length c) m.recs)) (hn : m.n ≤ 4096) (hs : m.syn ≤ m.recs.length) (ht : m.tak = takR m.recs) (htk : takR m.recs ≤ 1000000) (hrl : m.recs.length ≤ 100000) (hrs : ∀ r ∈ m.recs, r.length ≤ 1000000) :
    Calls Try.prog 12 #[.pointer (some ⟨gl, 0, none⟩), .int .i64 (m.n : Int), .slice a m.recs.length c, .int .i64 (m.syn : Int)] w fun x w' => x = .returned (.bool true) ∧ Lv w0 w' L := by
  have HRC : Hid (∀ u, Lv w0 u L → Calls Try.prog 27 #[.pointer (some ⟨gl, 0, none⟩)] u fun x w' => ∃ a c, x = .returned (.slice a m.recs.length c) ∧ Lv w0 w' (recsO (.slice a m.recs.length c) m.recs :: L)) := Lib.hid (fun u hl => records_lv hl hi hrl hrs)
  have HSY : Hid (∀ u, Lv w0 u L → Calls Try.prog 42 #[.pointer (some ⟨gl, 0, none⟩)] u fun x w' => x = .returned (.int .i64 (m.syn : Int)) ∧ u = w') := Lib.hid (fun u hl => synced_lv hl hi)
  obtain ⟨R, hR⟩ : ∃ R, R = roomZ m.n m.tak := ⟨_, rfl⟩
  have HRM : Hid (∀ u, Lv w0 u L → Calls Try.prog 29 #[.pointer (some ⟨gl, 0, none⟩)] u fun x w' => x = .returned (.int .i64 R) ∧ Below u.heap.size u w') := Lib.hid (fun u hl => by rw [hR]; exact room_lv hl hi hn (by omega))
  obtain ⟨S, hS⟩ : ∃ S, S = m.syn := ⟨_, rfl⟩
  obtain ⟨N, hN⟩ : ∃ N, N = m.n := ⟨_, rfl⟩
  obtain ⟨rs, hrs2⟩ : ∃ rs, rs = m.recs := ⟨_, rfl⟩
  have HRR : Hid (∀ u, Lv w0 u L → Calls Try.prog 30 #[.int .i64 (N : Int), .slice a m.recs.length c] u fun x w' => x = .returned (.int .i64 R) ∧ u = w') := Lib.hid (fun u hl => by
    obtain ⟨D9, a9, c9, hv9, hrd9⟩ := hl.recsR hk
    cases hv9
    rw [hR, ht, hN]
    exact rroom_any D9 a m.recs.length c m.n m.recs u hrd9 (by omega) (by omega) (by omega) hrs)
  have HSM : Hid (∀ u a2 c2, Lv w0 u (recsO (.slice a2 m.recs.length c2) m.recs :: L) → Calls Try.prog 32 #[.slice a2 m.recs.length c2, .slice a m.recs.length c] u fun x w' => x = .returned (.bool true) ∧ Below u.heap.size u w') := Lib.hid (fun u a2 c2 hl => by
    obtain ⟨D9, a9, c9, hv9, hrd9⟩ := hl.recsR (i := 0) rfl
    obtain ⟨D8, a8, c8, hv8, hrd8⟩ := hl.tail.recsR hk
    cases hv9
    cases hv8
    have := same_any _ _ _ _ _ _ _ _ _ _ _ hrd9 hrd8 (by omega)
    rw [show (m.recs == m.recs) = true from beq_self_eq_true _] at this
    exact this)
  have hcb := (h.recsR hk)
  obtain ⟨D9, a9, c9, hv9, hrd9⟩ := hcb
  cases hv9
  have hrc := hrd9.2.1
  have hrc2 : c ≤ 9223372036854775807 := hrd9.2.2.1
  have HL := Lib.hid h
  rw [← hS] at HSY hs ⊢
  rw [← hN] at hn ⊢
  obtain ⟨n, hnn⟩ : ∃ n, n = m.recs.length := ⟨_, rfl⟩
  rw [← hnn] at HRC HRR HSM hs hrl hrc ⊢
  clear hR hS hN hrs2 hnn h hi hk ht htk hrs hrd9
  have hs2 : (S : Int) ≤ (n : Int) := by omega
  have HG1 : Hid True := Lib.hid trivial
  go_enter Try.func12, Try.ntmps12
  go_wp2_with (first
    | (have x1 := HG1; go_at_call 27; refine (HRC.out _ HL.out).mono ?_; rintro e w2 ⟨a2, c2, rfl, hl⟩; have HL2 := Lib.hid hl; have HG2 := x1; clear hl x1 HG1)
    | (have x1 := HG2; go_at_call 32; refine (HSM.out _ _ _ HL2.out).mono ?_; rintro e w3 ⟨rfl, hb⟩; have HL3 := Lib.hid ((HL2.out.below hb).tail); have HG3 := x1; clear hb x1 HG2)
    | (go_at_call 42; refine (HSY.out _ HL3.out).mono ?_; rintro e w4 ⟨rfl, rfl⟩)
    | (have x1 := HG3; go_at_call 29; refine (HRM.out _ HL3.out).mono ?_; rintro e w5 ⟨rfl, hb⟩; have HL4 := Lib.hid (HL3.out.below hb); have HG4 := x1; clear hb x1 HG3)
    | (go_at_call 30; refine (HRR.out _ HL4.out).mono ?_; rintro e w6 ⟨rfl, rfl⟩))
  go_ret
  exact ⟨rfl, HL4.out⟩
end
end Go.Proofs.Ythffegfcgmhppaa
namespace Go.Proofs.Ythffegfcgmhppaa
open Go.ChangeShapes Go.WideShapes Go.ChangeAt Go.RowKit
set_option linter.unusedSimpArgs false
set_option linter.unusedVariables false
section
variable {H : Type} {enc : TypeId × Value → H} {W : World} {base : Nat} {held : Bool}
set_option maxRecDepth 100000 in
theorem open_is {base0 : Nat} {v : Value} {d : DataW H} {p : List MemPlace} (hval : Value.okWide Try.prog W .any base0 47 v) (h : DataW.Trod enc Try.prog W base (fun _ => true) held 47 v d p) :
    ∃ a n c l, v = .slice a n c ∧ Is (Old W) W a n c l ∧ Ok64 l := by
  obtain ⟨a1, n1, c1, rfl⟩ := okWide_slice Try.underlying47 hval
  obtain ⟨fuel, hf⟩ := h
  obtain ⟨a, n, c, l, hcs, h1, h2⟩ := ints_of_trod hf
  simp [Value.cells] at hcs
  obtain ⟨rfl, rfl, rfl⟩ := hcs
  exact ⟨_, _, _, l, rfl, h1, h2⟩
end
end Go.Proofs.Ythffegfcgmhppaa
namespace Go.Proofs.Ythffegfcgmhppaa
open Go.ChangeShapes Go.WideShapes Go.ChangeAt Go.RowKit
set_option linter.unusedSimpArgs false
set_option linter.unusedVariables false
theorem cells3a : Try.prog.cellsOf 34 = 3 := by kernel_rfl
/-- an act of the laws -/
structure AM where
  kind : Int
  n : Int
  ba : Option Addr
  bn : Nat
  bc : Nat
  b : List UInt8
def AM.cells (m : AM) : List Value := [.int .i64 m.kind, .int .i64 m.n, .slice m.ba m.bn m.bc]
theorem AM.cells_len (m : AM) : m.cells.length = 3 := rfl
def AOk (D : Nat → Prop) (w : World) (m : AM) : Prop := (-9223372036854775808 ≤ m.kind ∧ m.kind ≤ 9223372036854775807) ∧ (-9223372036854775808 ≤ m.n ∧ m.n ≤ 9223372036854775807) ∧ Bs D w m.ba m.bn m.bc m.b
def acells (ms : List AM) : List Value := ms.flatMap AM.cells
theorem acells_len (ms : List AM) : (acells ms).length = ms.length * 3 := by
  unfold acells
  induction ms with
  | nil => rfl
  | cons m r ih => rw [List.flatMap_cons, List.length_append, AM.cells_len, ih, List.length_cons]; omega
theorem acells_get (ms : List AM) (i j : Nat) (hi : i < ms.length) (hj : j < 3) : (acells ms)[i * 3 + j]? = ms[i].cells[j]? := by
  unfold acells
  induction ms generalizing i with
  | nil => simp at hi
  | cons m r ih =>
    rw [List.flatMap_cons]
    cases i with
    | zero =>
      rw [List.getElem?_append_left (by rw [AM.cells_len]; omega), Nat.zero_mul, Nat.zero_add]
      rfl
    | succ i =>
      rw [List.getElem?_append_right (by rw [AM.cells_len]; omega), show (i + 1) * 3 + j - m.cells.length = i * 3 + j by rw [AM.cells_len]; omega, ih i (by simpa using hi)]
      rfl
/-- a slice of acts -/
def Acts (D : Nat → Prop) (w : World) (a : Option Addr) (n c : Nat) (ms : List AM) : Prop := ms.length = n ∧ Sl D w a n c (acells ms) 3 ∧ ∀ m ∈ ms, AOk D w m
section
variable {H : Type} {enc : TypeId × Value → H} {W : World} {base : Nat} {held : Bool}
set_option maxRecDepth 100000 in
theorem act_of_trod {fuel : Nat} {cs : List Value} {x : DataW H × List MemPlace} (h : DataW.trod enc Try.prog W base (fun _ => true) held fuel 34 cs = some x) : ∃ m : AM, cs = m.cells ∧ AOk (Old W) W m := by
  obtain ⟨ys, n, _, _, hlen, hyl, hf⟩ := DataW.trod_struct Try.underlying34 h
  rw [cells3a] at hlen
  match cs, hlen with
  | [c0, c1, c2], _ =>
    match ys, hyl with
    | [y0, y1, y2], _ =>
      have h0 : DataW.trod enc Try.prog W base (fun _ => true) held n 3 [c0] = some y0 := hf 0 _ rfl
      have h1 : DataW.trod enc Try.prog W base (fun _ => true) held n 3 [c1] = some y1 := hf 1 _ rfl
      have h2 : DataW.trod enc Try.prog W base (fun _ => true) held n 32 [c2] = some y2 := hf 2 _ rfl
      obtain ⟨i0, e0, _, w0⟩ := DataW.trod_int Try.underlying3 h0
      obtain ⟨i1, e1, _, w1⟩ := DataW.trod_int Try.underlying3 h1
      obtain ⟨ba, bn, bc, b, e2, hB⟩ := bytes_of_trod h2
      cases e0; cases e1; cases e2
      exact ⟨⟨i0, i1, ba, bn, bc, b⟩, rfl, bounds_i64 w0, bounds_i64 w1, hB⟩
set_option maxRecDepth 100000 in
theorem open_acts {base0 : Nat} {v : Value} {d : DataW H} {p : List MemPlace} (hval : Value.okWide Try.prog W .any base0 22 v) (h : DataW.Trod enc Try.prog W base (fun _ => true) held 22 v d p) :
    ∃ a n c ms, v = .slice a n c ∧ Acts (Old W) W a n c ms := by
  obtain ⟨a1, n, c, rfl⟩ := okWide_slice Try.underlying22 hval
  obtain ⟨fuel, hf⟩ := h
  rcases Go.Deep.open_slice Try.underlying22 hf with ⟨hcs, hx⟩ | ⟨a, n', c', m, fu, D, Pl, hcs, _, hl, hm, hmm, hx, hi⟩
  · simp [Value.cells] at hcs
    obtain ⟨rfl, rfl, rfl⟩ := hcs
    exact ⟨none, 0, 0, [], rfl, rfl, Sl.empty _ _ _ _ _ (Nat.zero_le _) (fun _ => rfl), fun _ h => by cases h⟩
  · simp [Value.cells] at hcs
    obtain ⟨rfl, rfl, rfl⟩ := hcs
    simp only [if_true] at hmm
    have hex : ∀ i, i < n → ∃ x : AM, (∀ j u, x.cells[j]? = some u → W.cell? (a.add (i * 3 + j)) = some u) ∧ AOk (Old W) W x := by
      intro i hin
      obtain ⟨cs', hc, ht⟩ := hi i (by omega)
      rw [cells3a] at hc
      obtain ⟨_, hlen, hat⟩ := World.cells?_some hc
      obtain ⟨x, rfl, hx⟩ := act_of_trod ht
      refine ⟨x, fun j u hu => ?_, hx⟩
      have hj : j < 3 := by have := (List.getElem?_eq_some_iff.1 hu).1; rwa [AM.cells_len] at this
      rw [← Go.Deep.add_add, hat j hj, hu]
    refine ⟨some a, n, c, (List.range n).attach.map fun i => (hex i.1 (List.mem_range.1 i.2)).choose, rfl, by simp, Sl.of_cells (by decide) (by rw [acells_len]; simp) hl hm fun j u hu => ?_, fun x hx => ?_⟩
    · have hjl : j < n * 3 := by
        have := (List.getElem?_eq_some_iff.1 hu).1
        rw [acells_len] at this
        simpa using this
      have e : j = j / 3 * 3 + j % 3 := by omega
      have hi6 : j / 3 < n := by omega
      rw [e] at hu ⊢
      rw [acells_get _ (j / 3) (j % 3) (by simpa using hi6) (by omega)] at hu
      simp only [List.getElem_map, List.getElem_attach, List.getElem_range] at hu
      exact (hex (j / 3) hi6).choose_spec.1 _ _ hu
    · obtain ⟨i, _, rfl⟩ := List.mem_map.1 hx
      exact (hex i.1 (List.mem_range.1 i.2)).choose_spec.2

end
theorem Acts.kept {D S : Nat → Prop} {w w' : World} {a : Option Addr} {n c : Nat} {ms : List AM} (h : Acts D w a n c ms) (hk : Kept S w w') (hd : ∀ b, b < w.heap.size → D b → ¬ S b) : Acts D w' a n c ms :=
  ⟨h.1, h.2.1.kept (by decide) hk hd, fun m hm => ⟨(h.2.2 m hm).1, (h.2.2 m hm).2.1, (h.2.2 m hm).2.2.kept hk hd⟩⟩
theorem Acts.at {D : Nat → Prop} {w : World} {a : Option Addr} {n c : Nat} {ms : List AM} (h : Acts D w a n c ms) (hp : 0 < n) : ∃ b off, D b ∧ b < w.heap.size ∧ a = some ⟨b, off, none⟩ ∧ ∀ (i : Nat) (hi : i < ms.length), w.rangeAt b (off + i * 3) ms[i].cells := by
  obtain ⟨h1, ⟨h2, h3, h4, h5, h6⟩, h7⟩ := h
  obtain ⟨b, off, hD, ha, hr⟩ := h6 hp
  refine ⟨b, off, hD, range_lt hr (by omega), ha, fun i hi j v hv => ?_⟩
  have hj : j < 3 := (List.getElem?_eq_some_iff.1 hv).1
  rw [Nat.add_assoc]
  exact hr (i * 3 + j) v (by rw [acells_get ms i j hi hj]; exact hv)

end Go.Proofs.Ythffegfcgmhppaa
namespace Go.Proofs.Ythffegfcgmhppaa
open Go.RowKit
set_option linter.unusedSimpArgs false
set_option linter.unusedVariables false
theorem run_bs1b (x : Int) (W : World) : (Instr.buildSlice 32 1 #[(0, .int .u8 x)]).run Try.prog W = .ok (.slice (some ⟨W.heap.size, 0, none⟩) 1 1) (W.alloc (.cells #[.int .u8 x] 5)) := by kernel_rfl
theorem Made.base {w w1 w2 : World} {v : Value} {l : List UInt8} (h : Made w1 v l w2) (hb : Below w.heap.size w w1) : Made w v l w2 := by
  obtain ⟨k, h1, h2, h3⟩ := h
  exact ⟨k, h1, fun j hj => Nat.le_trans hb.size (h2 j hj), hb.trans (h3.mono hb.size)⟩
set_option maxRecDepth 100000 in
set_option maxHeartbeats 2000000 in
theorem record_any (D : Nat → Prop) (kind nn : Int) (most : Nat) (da : Option Addr) (dn dc : Nat) (data : List UInt8) (w : World) (h1 : -9223372036854775808 ≤ nn) (h2 : nn ≤ 9223372036854775807) (hm : most ≤ 100000) (hB : Bs D w da dn dc data) :
    Calls Try.prog 13 #[.agg #[.int .i64 kind, .int .i64 nn, .slice da dn dc], .int .i64 (most : Int)] w fun e w' => ∃ v, e = .returned v ∧ Made w v (recB (around nn ((most : Int) + 1)).toNat data) w' := by
  obtain ⟨n, hn, hn2⟩ := around_nat nn ((most : Int) + 1) (by omega)
  have hnb : n ≤ most := by omega
  obtain ⟨w1, hw1⟩ : ∃ w1, w1 = w.alloc (.cells #[.int .i64 kind, .int .i64 nn, .slice da dn dc] 34) := ⟨_, rfl⟩
  obtain ⟨g, hg⟩ : ∃ g, g = w.heap.size := ⟨_, rfl⟩
  have hblk : w1.heap[g]? = some (.cells #[.int .i64 kind, .int .i64 nn, .slice da dn dc] 34 (0, 0)) := by rw [hw1, hg]; exact heap_new rfl
  have hbw : Below w.heap.size w w1 := by rw [hw1]; exact (Below.refl _ _).alloc (Nat.le_refl _) _
  have hgs : g < w1.heap.size := by rw [hw1, hg]; simp
  have c1 : w1.cell? ⟨g, 1, none⟩ = some (.int .i64 nn) := cell_of_row w1 g 1 _ _ _ hblk
  have c2 : w1.cell? ⟨g, 2, none⟩ = some (.slice da dn dc) := cell_of_row w1 g 2 _ _ _ hblk
  have hB1 : Bs D w1 da dn dc data := hB.kept (Kept.of_below (fun _ => False) hbw) (fun _ _ _ h => h)
  have hwm : IntKind.i64.wrap ((most : Int) + 1) = (most : Int) + 1 := i64_id _ (by omega) (by omega)
  have hdl := hB.1
  have hdc := hB.2.2.1
  have hdc2 : dc ≤ 9223372036854775807 := hB.2.2.2.1
  have HAR : Hid (∀ u, Calls Try.prog 9 #[.int .i64 nn, .int .i64 ((most : Int) + 1)] u fun e w' => e = .returned (.int .i64 (n : Int)) ∧ u = w') := Lib.hid (fun u => by
    have := around_any nn ((most : Int) + 1) u h1 h2 (by omega) (by omega)
    rw [hn] at this
    exact this)
  have HN : Hid ((around nn ((most : Int) + 1)).toNat = n) := Lib.hid (by rw [hn]; omega)
  rw [HN.out]
  have HBW := Lib.hid hbw
  have HB1 := Lib.hid hB1
  have HDL := Lib.hid hdl
  have HW1 := Lib.hid hw1
  have HG := Lib.hid hg
  have hbs1 := run_bs1b
  clear hB hB1 hw1 hg hblk hbw hn hdl
  go_enter Try.func13, Try.ntmps13
  go_upto_region 1 with fail
  rw [← HW1.out, ← HG.out]
  go_wp2_with (go_at_call 9; refine (HAR.out _).mono ?_; rintro e w2 ⟨rfl, rfl⟩)
  go_loopw [6, 7] (fun u t wr => ∃ (i : Nat) (v0 : Value), i ≤ n ∧ v0 = u ∧ t = .int .i64 (i : Int) ∧ Lv w1 wr [baccO v0 (recB i data)]) (fun _ t _ => n - (intOf t).toNat)
  case atStart => exact ⟨0, _, Nat.zero_le _, rfl, rfl, (Lv.refl w1).bacc0⟩
  case round =>
    obtain ⟨i, v0, hi, hv0, rfl, hL⟩ := hrel
    subst hv0
    have HL := Lib.hid hL
    by_cases hlt : i < n
    · have hn3 : (i : Int) < (n : Int) := by omega
      have hwi : IntKind.i64.wrap ((i : Int) + 1) = (i : Int) + 1 := i64_id _ (by omega) (by omega)
      have k2 : wr.cell? ⟨g, 2, none⟩ = some (.slice da dn dc) := (hL.args.cell (p := ⟨g, 2, none⟩) hgs).trans c2
      have HSU := Lib.hid (recB_succ i data)
      have HLE : Hid ((recB i data).length + 1 ≤ 1000000) := Lib.hid (by rw [recB_len]; omega)
      obtain ⟨RB, hRB⟩ : ∃ RB, RB = recB i data := ⟨_, rfl⟩
      rw [← hRB] at HL HSU HLE
      by_cases hd0 : dn = 0
      · subst hd0
        obtain ⟨x, hx⟩ : ∃ x, x = UInt8.ofNat i := ⟨_, rfl⟩
        have HX : Hid (recB (i + 1) data = RB ++ [x]) := Lib.hid (by rw [HSU.out, if_pos HDL.out, hx])
        obtain ⟨X, hX⟩ : ∃ X : Int, X = (x.toNat : Int) := ⟨_, rfl⟩
        have hwc : IntKind.u8.wrap (i : Int) = X := by rw [hX, hx, IntKind.wrap_u8, u8_ofNat]; omega
        have HSRC : Hid (Src Try.prog 1 32 (.slice (some ⟨wr.heap.size, 0, none⟩) 1 1) [x].length (vals [x]) (wr.alloc (.cells #[.int .u8 X] 5))) := Lib.hid (by
          exact src_bytes (us := [x]) (g := wr.heap.size) (w := wr.alloc (.cells #[.int .u8 X] 5)) (by rw [hX]; exact heap_new rfl))
        have HLn : Hid (Lv w1 (wr.alloc (.cells #[.int .u8 X] 5)) [baccO v0 RB]) := Lib.hid (HL.out.below ((Below.refl _ _).alloc (Nat.le_refl _) _))
        clear hL hRB hx hX HL HSU
        go_wp2_with (at_builtin; refine wpList_bacc HLn.out (i := 0) (v := v0) (l := RB) rfl rfl (.tmp 34) (.tmp 36) rfl rfl [x] HSRC.out HLE.out ?_; clear HLn HSRC; intro v2 w2 hl2; have HL2 := Lib.hid hl2; clear hl2)
        go_roundw
        case rel => exact ⟨i + 1, _, by omega, rfl, by go_num, by rw [HX.out]; exact HL2.out⟩
        case measure => simp [intOf]; omega
      · obtain ⟨b, off, -, hbs, rfl, hcell⟩ := (HB1.out.kept (Kept.of_below (fun _ => False) hL.args) (fun _ _ _ h => h)).cells (by omega)
        obtain ⟨q, hq⟩ : ∃ q, q = i % dn := ⟨_, rfl⟩
        have hqd : q < dn := by rw [hq]; exact Nat.mod_lt _ (by omega)
        have hql : q < data.length := by rw [HDL.out]; exact hqd
        obtain ⟨x, hx⟩ : ∃ x, x = data[q]'hql := ⟨_, rfl⟩
        have HX : Hid (recB (i + 1) data = RB ++ [x]) := Lib.hid (by
          rw [HSU.out, if_neg (by rw [HDL.out]; exact hd0), HDL.out, ← hq, hx, List.getD_eq_getElem?_getD, List.getElem?_eq_getElem hql]
          rfl)
        have hcx := hcell q hql
        rw [← hx] at hcx
        obtain ⟨X, hX⟩ : ∃ X : Int, X = (x.toNat : Int) := ⟨_, rfl⟩
        rw [← hX] at hcx
        obtain ⟨Y, hY⟩ : ∃ Y : Int, Y = IntKind.u8.wrap (i : Int) := ⟨_, rfl⟩
        have hwc : IntKind.u8.wrap (i : Int) = Y := hY.symm
        have hqt : Int.tmod (i : Int) (dn : Int) = (q : Int) := by rw [Int.tmod_eq_emod_of_nonneg (by omega), hq]; rfl
        have hqw : IntKind.i64.wrap (q : Int) = (q : Int) := i64_id _ (by omega) (by omega)
        have hdz : ¬ ((dn : Int) = 0) := by omega
        have hdp : (0 : Int) < (dn : Int) := by omega
        have hqi : (q : Int) < (dn : Int) := by omega
        have HSRC : Hid (∀ u, Below wr.heap.size wr u → Src Try.prog 1 32 (.slice (some ⟨u.heap.size, 0, none⟩) 1 1) [x].length (vals [x]) (u.alloc (.cells #[.int .u8 X] 5))) := Lib.hid (fun u _ => by
          exact src_bytes (us := [x]) (g := u.heap.size) (w := u.alloc (.cells #[.int .u8 X] 5)) (by rw [hX]; exact heap_new rfl))
        have HLn : Hid (∀ u, Below wr.heap.size wr u → Lv w1 (u.alloc (.cells #[.int .u8 X] 5)) [baccO v0 RB]) := Lib.hid (fun u hu => (HL.out.below hu).below ((Below.refl _ _).alloc (Nat.le_refl _) _))
        clear hL hRB hx hX HL HSU hY hcell hq hql
        go_wp2_with fail
        go_quiet (fail)
        go_wp2_with (at_builtin; refine wpList_bacc (HLn.out _ (below_drewN _ _)) (i := 0) (v := v0) (l := RB) rfl rfl (.tmp 34) (.tmp 36) rfl rfl [x] (HSRC.out _ (below_drewN _ _)) HLE.out ?_; clear HLn HSRC; intro v2 w2 hl2; have HL2 := Lib.hid hl2; clear hl2)
        go_roundw
        case rel => exact ⟨i + 1, _, by omega, rfl, by go_num, by rw [HX.out]; exact HL2.out⟩
        case measure => simp [intOf]; omega
    · obtain rfl : i = n := by omega
      have HM := Lib.hid (HL.out.madeOf.base HBW.out)
      clear hL HL
      go_wp2
      go_ret
      exact ⟨_, rfl, HM.out⟩
end Go.Proofs.Ythffegfcgmhppaa
namespace Go.Proofs.Ythffegfcgmhppaa
open Go.RowKit
set_option linter.unusedSimpArgs false
set_option linter.unusedVariables false
def loadActA (v : Value) : Sem Next := do pure (.value (← Instr.loadAt 34 v))
theorem exec_loadAct (ρ : Operand → Value) (d : Option Tmp) (x : Operand) (ty : TypeId) (pos : String) (af : Array Edge) (gd : Option (Nat × Bool)) :
    execOp ρ { dst := d, op := .load 34 x, type := ty, pos := pos, after := af, guard := gd } = loadActA (ρ x) := rfl
theorem exec_at_zero' {ρ : Operand → Value} {o : Oper} {l : List Oper} {h : 0 < (o :: l).toArray.size} : execOp ρ ((o :: l).toArray[0]'h) = execOp ρ o := rfl
theorem exec_at_succ' {ρ : Operand → Value} {o : Oper} {l : List Oper} {n : Nat} {h : n + 1 < (o :: l).toArray.size} : execOp ρ ((o :: l).toArray[n + 1]'h) = execOp ρ (l.toArray[n]'(by simpa using h)) := rfl
theorem run_loadAct {w : World} {b o : Nat} {m : AM} (h : w.rangeAt b o m.cells) : (loadActA (.pointer (some ⟨b, o, none⟩))).run Try.prog w = .ok (.value (.agg #[.int .i64 m.kind, .int .i64 m.n, .slice m.ba m.bn m.bc])) w := by
  unfold loadActA
  simp only [Sem.run_bind, Sem.run_pure, Result.andThen_ok, run_loadAt_mid w b o 34 m.cells _ h Try.underlying34 rfl (by rw [AM.cells_len]; kernel_rfl)]
  rfl
theorem Lv.pick {w0 w : World} {L : List Obj} (h : Lv w0 w L) (L' : List Obj) (σ : Nat → Nat) (hi : ∀ i j, i < L'.length → j < L'.length → σ i = σ j → i = j) (hg : ∀ i, i < L'.length → L'[i]? = L[σ i]?) : Lv w0 w L' := by
  obtain ⟨h1, Bs, h2, h3, h4⟩ := h
  have hb : ∀ i, i < L'.length → ∃ B, Bs[σ i]? = some B := fun i hl => by
    have e := hg i hl
    rw [List.getElem?_eq_getElem hl] at e
    have hs := (List.getElem?_eq_some_iff.1 e.symm).1
    exact ⟨_, List.getElem?_eq_getElem (by omega)⟩
  have hm : ∀ i B, ((List.range L'.length).map fun i => Bs.getD (σ i) (fun _ => False))[i]? = some B → i < L'.length ∧ Bs[σ i]? = some B := fun i B hB => by
    rw [List.getElem?_map] at hB
    by_cases hl : i < L'.length
    · rw [List.getElem?_range hl] at hB
      obtain ⟨B2, hB2⟩ := hb i hl
      simp only [Option.map_some, List.getD_eq_getElem?_getD, hB2, Option.getD_some, Option.some.injEq] at hB
      exact ⟨hl, hB2.trans (congrArg some hB)⟩
    · rw [List.getElem?_eq_none (by simp; omega)] at hB
      cases hB
  refine ⟨h1, (List.range L'.length).map fun i => Bs.getD (σ i) (fun _ => False), by rw [List.length_map, List.length_range], fun i o B ho hB => ?_, fun i j A B hij hA hB => ?_⟩
  · obtain ⟨hl, hB2⟩ := hm i B hB
    exact h3 (σ i) o B (by rw [← hg i hl]; exact ho) hB2
  · obtain ⟨hl, hA2⟩ := hm i A hA
    obtain ⟨hl2, hB2⟩ := hm j B hB
    exact h4 (σ i) (σ j) A B (fun e => hij (hi i j hl hl2 e)) hA2 hB2
/-- the third of four objects is forgotten, the first two change places -/
theorem Lv.third {w0 w : World} {a b c d : Obj} (h : Lv w0 w [a, b, c, d]) : Lv w0 w [b, a, d] :=
  h.pick [b, a, d] (fun i => if i = 0 then 1 else if i = 1 then 0 else 3) (fun i j hi hj => by
    have hi : i < 3 := hi
    have hj : j < 3 := hj
    intro e
    have hi3 : i = 0 ∨ i = 1 ∨ i = 2 := by omega
    have hj3 : j = 0 ∨ j = 1 ∨ j = 2 := by omega
    rcases hi3 with rfl | rfl | rfl <;> rcases hj3 with rfl | rfl | rfl <;> simp at e ⊢) (fun i hi => by
    have hi : i < 3 := hi
    have hi3 : i = 0 ∨ i = 1 ∨ i = 2 := by omega
    rcases hi3 with rfl | rfl | rfl <;> rfl)
theorem agrees_fine {w0 w : World} {L : List Obj} {gl g i k : Nat} {m : LM} {d : DM} (h : Lv w0 w L) (hi : L[i]? = some (logO gl g m)) {rs : List (List UInt8)} {a : Option Addr} {c nn n S : Nat} (hk : L[k]? = some (recsO (.slice a nn c) rs)) (hF : Fine m d) (hrs : m.recs = rs) (hnn : nn = rs.length) (hN : m.n = n) (hS : m.syn = S) :
    Calls Try.prog 12 #[.pointer (some ⟨gl, 0, none⟩), .int .i64 (n : Int), .slice a nn c, .int .i64 (S : Int)] w fun x w' => x = .returned (.bool true) ∧ Lv w0 w' L := by
  subst hrs hnn hN hS
  have hb := hF.bounds
  have ht := hF.tak
  have h4 := hF.n4
  obtain ⟨b1, b2, b3⟩ := lenB_facts m.recs
  exact agrees_lv h hi hk (by omega) hF.syn ht (by omega) (by omega) (fun r hr => by have := b1 r hr; omega)
end Go.Proofs.Ythffegfcgmhppaa
namespace Go.Proofs.Ythffegfcgmhppaa
open Go.RowKit
set_option linter.unusedSimpArgs false
set_option linter.unusedVariables false
attribute [local go_sem ↓] exec_loadAct exec_at_zero' exec_at_succ' Go.wp_at_zero Go.wp_at_succ
/-- what an act leaves -/
def Acted (OT : List Obj) (FR DS n : Nat) (d : DM) (w0 : World) (gp g gl : Nat) (w' : World) : Prop := ∃ v' m' d' rst', Past FR DS n m' d' rst' ∧ Moved FR n d d' ∧ (d.fuse = 0 → d'.on = true ∧ d'.fuse = 0) ∧ Lv w0 w' (pastO gp g gl n v' m'.syn rst' :: recsO v' m'.recs :: logO gl g m' :: diskO g d' :: OT)
section
variable {OT : List Obj} {w0 w : World} {FR DS gp g gl n : Nat} {m : LM} {d : DM} {rst : Bool} {v : Value}
set_option maxRecDepth 100000 in
set_option maxHeartbeats 2000000 in
theorem act_sync (h : Lv w0 w (pastO gp g gl n v m.syn rst :: recsO v m.recs :: logO gl g m :: diskO g d :: OT)) (hP : Past FR DS n m d rst) (hon : d.on = true) (D : Nat → Prop) (mo : AM) (hk0 : ¬ mo.kind = 0) (hk1 : ¬ mo.kind = 1) (hk3 : ¬ mo.kind = 3) :
    Calls Try.prog 26 #[.pointer (some ⟨gp, 0, none⟩), .agg #[.int .i64 mo.kind, .int .i64 mo.n, .slice mo.ba mo.bn mo.bc]] w fun x w' => x = .returned (.bool true) ∧ Acted OT FR DS n d w0 gp g gl w' := by
  obtain ⟨w1, hw1⟩ : ∃ w1, w1 = w.alloc (.cells #[.int .i64 mo.kind, .int .i64 mo.n, .slice mo.ba mo.bn mo.bc] 34) := ⟨_, rfl⟩
  obtain ⟨ga, hga⟩ : ∃ ga, ga = w.heap.size := ⟨_, rfl⟩
  obtain ⟨kd, hkd⟩ : ∃ kd, kd = mo.kind := ⟨_, rfl⟩
  have hblk : w1.heap[ga]? = some (.cells #[.int .i64 kd, .int .i64 mo.n, .slice mo.ba mo.bn mo.bc] 34 (0, 0)) := by rw [hw1, hga, hkd]; exact heap_new rfl
  have hL1 : Lv w0 w1 (pastO gp g gl n v m.syn rst :: recsO v m.recs :: logO gl g m :: diskO g d :: OT) := by rw [hw1]; exact h.below ((Below.refl _ _).alloc (Nat.le_refl _) _)
  have c0 : w1.cell? ⟨ga, 0, none⟩ = some (.int .i64 kd) := cell_of_row w1 ga 0 _ _ _ hblk
  obtain ⟨_, _, q1, _, _, _, _⟩ := hL1.pastF (i := 0) rfl
  obtain ⟨D1, a1, c1, hv1, hrd1⟩ := hL1.recsR (i := 1) rfl
  subst hv1
  have hrc1 := hrd1.2.1
  have hrc2 := hrd1.2.2.1
  have HW1 := Lib.hid hw1
  have HGA := Lib.hid hga
  have HL1 := Lib.hid hL1
  have HP := Lib.hid hP
  have HSY := Lib.hid (hP.sync hon)
  have HNF := Lib.hid (fun hf => sync_nf m d hon hf)
  have HMV := Lib.hid (hP.sync_moved hon)
  have HC : Hid (∀ u, Lv w0 u (pastO gp g gl n (.slice a1 m.recs.length c1) m.syn rst :: recsO (.slice a1 m.recs.length c1) m.recs :: logO gl g m :: diskO g d :: OT) → Calls Try.prog 16 #[.pointer (some ⟨gl, 0, none⟩)] u fun x w' => x = .returned (.int .i64 (syncR m d).1) ∧ Lv w0 w' (pastO gp g gl n (.slice a1 m.recs.length c1) m.syn rst :: recsO (.slice a1 m.recs.length c1) m.recs :: logO gl g (syncR m d).2.1 :: diskO g (syncR m d).2.2 :: OT)) := Lib.hid (fun u hl => hP.sync_lv hon hl (i := 2) (j := 3) rfl rfl (by omega))
  obtain ⟨Q, hQ⟩ : ∃ Q, Q = syncR m d := ⟨_, rfl⟩
  rw [← hQ] at HSY HNF HC HMV
  obtain ⟨rs, hrs⟩ : ∃ rs, rs = m.recs := ⟨_, rfl⟩
  obtain ⟨rl, hrl⟩ : ∃ rl, rl = rs.length := ⟨_, rfl⟩
  rw [← hrs] at HC HL1 HSY hrc1
  rw [← hrl] at HC HL1 hrc1 HSY
  have HRL := Lib.hid hrl
  have HRS := Lib.hid hrs
  rw [← hkd] at hk0 hk1 hk3
  clear h hP hon hblk hw1 hga hL1 hrd1 hQ hkd hrs hrl
  rcases HSY.out with ⟨e1, -, -, -⟩ | ⟨e1, -, -, -⟩
  · rw [e1] at HC
    have HE1 := Lib.hid e1
    clear e1
    go_enter Try.func26, Try.ntmps26
    go_upto_region 1 with fail
    rw [← HW1.out, ← HGA.out]
    go_wp2_with (have x1 := HL1.out; go_at_call 16; refine (HC.out _ x1).mono ?_; rintro e w3 ⟨rfl, hl3⟩; have HL3 := Lib.hid hl3; obtain ⟨_, _, _, _, r3, r4, _⟩ := hl3.pastF (i := 0) rfl; have f4 := hl3.pastFz (i := 0) rfl 4; have HL4 := Lib.hid (hl3.pastSyn (i := 0) rfl rl); clear hl3 x1 HL1)
    go_ret
    refine ⟨rfl, .slice a1 rl c1, Q.2.1, Q.2.2, rst, ?_, HMV.out, fun hf => (HNF.out hf).2, ?_⟩
    · rcases HSY.out with ⟨-, b, -, -⟩ | ⟨b, -⟩
      · exact b
      · rw [HE1.out] at b; exact absurd b (by omega)
    · rcases HSY.out with ⟨-, -, b, c⟩ | ⟨b, -⟩
      · rw [c, b]; exact HL4.out
      · rw [HE1.out] at b; exact absurd b (by omega)
  · rw [e1] at HC
    have HE1 := Lib.hid e1
    have hoff : Q.2.2.on = false := by
      rcases HSY.out with ⟨b, -⟩ | ⟨-, -, b, -⟩
      · rw [b] at e1; exact absurd e1 (by omega)
      · exact b
    have HOF := Lib.hid hoff
    clear e1 hoff
    go_enter Try.func26, Try.ntmps26
    go_upto_region 1 with fail
    rw [← HW1.out, ← HGA.out]
    go_wp2_with (first
      | (have x1 := HL1.out; go_at_call 16; refine (HC.out _ x1).mono ?_; rintro e w3 ⟨rfl, hl3⟩; have HL3 := Lib.hid hl3; obtain ⟨_, r0, _, _, _, _, _⟩ := hl3.pastF (i := 0) rfl; clear hl3 x1 HL1)
      | (go_at_call 35; refine (on_lv HL3.out (i := 3) (d := Q.2.2) rfl).mono ?_; rintro e w4 ⟨rfl, rfl⟩; rw [HOF.out]))
    go_ret
    refine ⟨rfl, .slice a1 rl c1, m, Q.2.2, rst, ?_, HMV.out, fun hf => by have := (HNF.out hf).1; rw [HE1.out] at this; exact absurd this (by omega), ?_⟩
    · rcases HSY.out with ⟨b, -⟩ | ⟨-, -, -, b⟩
      · rw [HE1.out] at b; exact absurd b (by omega)
      · exact b
    · rcases HSY.out with ⟨b, -⟩ | ⟨-, b, -, -⟩
      · rw [HE1.out] at b; exact absurd b (by omega)
      · rw [← HRS.out]; have := HL3.out; rw [b] at this; exact this
set_option maxRecDepth 100000 in
set_option maxHeartbeats 2000000 in
theorem act_reset (h : Lv w0 w (pastO gp g gl n v m.syn rst :: recsO v m.recs :: logO gl g m :: diskO g d :: OT)) (hP : Past FR DS n m d rst) (hon : d.on = true) (D : Nat → Prop) (mo : AM) (hk3 : mo.kind = 3) :
    Calls Try.prog 26 #[.pointer (some ⟨gp, 0, none⟩), .agg #[.int .i64 mo.kind, .int .i64 mo.n, .slice mo.ba mo.bn mo.bc]] w fun x w' => x = .returned (.bool true) ∧ Acted OT FR DS n d w0 gp g gl w' := by
  obtain ⟨w1, hw1⟩ : ∃ w1, w1 = w.alloc (.cells #[.int .i64 mo.kind, .int .i64 mo.n, .slice mo.ba mo.bn mo.bc] 34) := ⟨_, rfl⟩
  obtain ⟨ga, hga⟩ : ∃ ga, ga = w.heap.size := ⟨_, rfl⟩
  obtain ⟨kd, hkd⟩ : ∃ kd, kd = mo.kind := ⟨_, rfl⟩
  have hblk : w1.heap[ga]? = some (.cells #[.int .i64 kd, .int .i64 mo.n, .slice mo.ba mo.bn mo.bc] 34 (0, 0)) := by rw [hw1, hga, hkd]; exact heap_new rfl
  have hL1 : Lv w0 w1 (pastO gp g gl n v m.syn rst :: recsO v m.recs :: logO gl g m :: diskO g d :: OT) := by rw [hw1]; exact h.below ((Below.refl _ _).alloc (Nat.le_refl _) _)
  have c0 : w1.cell? ⟨ga, 0, none⟩ = some (.int .i64 kd) := cell_of_row w1 ga 0 _ _ _ hblk
  obtain ⟨_, _, q1, _, _, _, _⟩ := hL1.pastF (i := 0) rfl
  obtain ⟨D1, a1, c1, hv1, hrd1⟩ := hL1.recsR (i := 1) rfl
  subst hv1
  have hrc1 := hrd1.2.1
  have hrc2 := hrd1.2.2.1
  have HW1 := Lib.hid hw1
  have HGA := Lib.hid hga
  have HL1 := Lib.hid hL1
  have HP := Lib.hid hP
  have HSY := Lib.hid (hP.reset hon)
  have HNF := Lib.hid (fun hf => reset_nf m d hon hf)
  have HMV := Lib.hid (hP.reset_moved hon)
  have HC : Hid (∀ u, Lv w0 u (pastO gp g gl n (.slice a1 m.recs.length c1) m.syn rst :: recsO (.slice a1 m.recs.length c1) m.recs :: logO gl g m :: diskO g d :: OT) → Calls Try.prog 17 #[.pointer (some ⟨gl, 0, none⟩)] u fun x w' => x = .returned (.int .i64 (resetR m d).1) ∧ Lv w0 w' (pastO gp g gl n (.slice a1 m.recs.length c1) m.syn rst :: recsO (.slice a1 m.recs.length c1) m.recs :: logO gl g (resetR m d).2.1 :: diskO g (resetR m d).2.2 :: OT)) := Lib.hid (fun u hl => hP.reset_lv hon hl (i := 2) (j := 3) rfl rfl (by omega))
  obtain ⟨Q, hQ⟩ : ∃ Q, Q = resetR m d := ⟨_, rfl⟩
  rw [← hQ] at HSY HNF HC HMV
  obtain ⟨rs, hrs⟩ : ∃ rs, rs = m.recs := ⟨_, rfl⟩
  obtain ⟨rl, hrl⟩ : ∃ rl, rl = rs.length := ⟨_, rfl⟩
  rw [← hrs] at HC HL1 hrc1
  rw [← hrl] at HC HL1 hrc1
  have HRL := Lib.hid hrl
  have HRS := Lib.hid hrs
  rw [← hkd] at hk3
  subst hk3
  clear h hP hon hblk hw1 hga hL1 hrd1 hQ hrs hrl
  rcases HSY.out with ⟨e1, -, -, -⟩ | ⟨e1, -, -, -⟩
  · rw [e1] at HC
    have HE1 := Lib.hid e1
    clear e1
    go_enter Try.func26, Try.ntmps26
    go_upto_region 1 with fail
    rw [← HW1.out, ← HGA.out]
    go_upto_region 17 with (have x1 := HL1.out; go_at_call 17; refine (HC.out _ x1).mono ?_; rintro e w3 ⟨rfl, hl3⟩; have HL3 := Lib.hid hl3; obtain ⟨_, _, _, _, _, _, r5⟩ := hl3.pastF (i := 0) rfl; have f5 := hl3.pastFz (i := 0) rfl 5; have HL4 := Lib.hid (hl3.pastRst (i := 0) rfl false); clear hl3 x1 HL1)
    obtain ⟨w4, hw4⟩ : ∃ w4, w4 = w3.setCell ⟨gp, 5, none⟩ (.bool false) := ⟨_, rfl⟩
    rw [← hw4] at HL4 ⊢
    have q4 := (HL4.out.pastF (i := 0) rfl).2.2.2.2.1
    have z4 := HL4.out.pastFz (i := 0) rfl 3
    have HL5 := Lib.hid (HL4.out.pastAll (i := 0) rfl (.slice none 0 0))
    clear hw4 r5 f5 HL3
    go_upto_region 19 with fail
    obtain ⟨w5, hw5⟩ : ∃ w5, w5 = w4.setCell ⟨gp, 3, none⟩ (.slice none 0 0) := ⟨_, rfl⟩
    rw [← hw5] at HL5 ⊢
    have q5 := (HL5.out.pastF (i := 0) rfl).2.2.2.2.2.1
    have z5 := HL5.out.pastFz (i := 0) rfl 4
    have HL6 := Lib.hid (HL5.out.pastSyn (i := 0) rfl 0)
    clear hw5 q4 z4 HL4
    go_wp2_with fail
    go_ret
    refine ⟨rfl, .slice none 0 0, Q.2.1, Q.2.2, false, ?_, HMV.out, fun hf => (HNF.out hf).2, ?_⟩
    · rcases HSY.out with ⟨-, b, -, -⟩ | ⟨b, -⟩
      · exact b
      · rw [HE1.out] at b; exact absurd b (by omega)
    · rcases HSY.out with ⟨-, -, b, c⟩ | ⟨b, -⟩
      · rw [c, b]
        exact HL6.out.weaken (i := 1) (o' := recsO (.slice none 0 0) []) rfl (fun B _ => ⟨none, fun _ => False, Recs.nil _, (fun _ h => by cases h), (fun _ h => h.elim)⟩)
      · rw [HE1.out] at b; exact absurd b (by omega)
  · rw [e1] at HC
    have HE1 := Lib.hid e1
    have hoff : Q.2.2.on = false := by
      rcases HSY.out with ⟨b, -⟩ | ⟨-, -, b, -⟩
      · rw [b] at e1; exact absurd e1 (by omega)
      · exact b
    have HOF := Lib.hid hoff
    clear e1 hoff
    go_enter Try.func26, Try.ntmps26
    go_upto_region 1 with fail
    rw [← HW1.out, ← HGA.out]
    go_upto_region 17 with (have x1 := HL1.out; go_at_call 17; refine (HC.out _ x1).mono ?_; rintro e w3 ⟨rfl, hl3⟩; have HL3 := Lib.hid hl3; obtain ⟨_, _, _, _, _, _, r5⟩ := hl3.pastF (i := 0) rfl; have f5 := hl3.pastFz (i := 0) rfl 5; have HL4 := Lib.hid (hl3.pastRst (i := 0) rfl true); clear hl3 x1 HL1)
    obtain ⟨w4, hw4⟩ : ∃ w4, w4 = w3.setCell ⟨gp, 5, none⟩ (.bool true) := ⟨_, rfl⟩
    rw [← hw4] at HL4 ⊢
    have q4 := (HL4.out.pastF (i := 0) rfl).2.1
    clear hw4 r5 f5 HL3
    go_wp2_with (go_at_call 35; refine (on_lv HL4.out (i := 3) (d := Q.2.2) rfl).mono ?_; rintro e w4 ⟨rfl, rfl⟩; rw [HOF.out])
    go_ret
    refine ⟨rfl, .slice a1 rl c1, m, Q.2.2, true, ?_, HMV.out, fun hf => by have := (HNF.out hf).1; rw [HE1.out] at this; exact absurd this (by omega), ?_⟩
    · rcases HSY.out with ⟨b, -⟩ | ⟨-, -, -, b⟩
      · rw [HE1.out] at b; exact absurd b (by omega)
      · exact b
    · rcases HSY.out with ⟨b, -⟩ | ⟨-, b, -, -⟩
      · rw [HE1.out] at b; exact absurd b (by omega)
      · rw [← HRS.out]; have := HL4.out; rw [b] at this; exact this
end
end Go.Proofs.Ythffegfcgmhppaa
namespace Go.Proofs.Ythffegfcgmhppaa
open Go.RowKit
set_option linter.unusedSimpArgs false
set_option linter.unusedVariables false
theorem run_mkB (n : Nat) (hn : n ≤ 1000000) (W : World) :
    (Instr.makeSlice 32 (.int .i64 (n : Int)) (.int .i64 (n : Int))).run Try.prog W = .ok (.slice (some ⟨W.heap.size, 0, none⟩) n n) (W.alloc (.cells (madeCells #[.int .u8 0] n) 5)) := by
  obtain ⟨i0, hi, hz0, hz1, hz2⟩ := info_parts info5
  have h := run_make (P := Try.prog) W 32 5 i0 (.int .u8 0) Try.underlying32 hi hz0 .i64 .i64 (n : Int) (n : Int) (by omega) (Int.le_refl _) (by rw [hz2]; omega) (by omega)
  rw [h, hz1]
  simp [Value.cells]
theorem madeB_vals (n : Nat) : madeCells #[.int .u8 0] n = (vals (List.replicate n 0)).toArray := by
  apply Array.ext
  · rw [size_madeCells, List.size_toArray, vals_len, List.length_replicate]
  · intro i h1 h2
    simp [madeCells, vals, Nat.mod_one]
theorem Bs.made {w : World} (n : Nat) (hn : n ≤ 1000000) : Bs (fun b => b = w.heap.size) (w.alloc (.cells (madeCells #[.int .u8 0] n) 5)) (some ⟨w.heap.size, 0, none⟩) n n (List.replicate n 0) := by
  have h := bs_block (w := w.alloc (.cells (madeCells #[.int .u8 0] n) 5)) (g := w.heap.size) (l := List.replicate n 0) (t := 5) (by rw [← madeB_vals]; exact heap_new rfl) (by rw [List.length_replicate]; unfold maxLen; omega)
  rwa [List.length_replicate] at h
def lf0 : DM := DM.new 104
def lf1 : DM := (fmtR 0 4 lf0).2.2
def lf2 : DM := (fmtR 4 100 lf1).2.2
theorem lf1_e : (fmtR 0 4 lf0).1 = 0 := by kernel_rfl
theorem lf1_m : (fmtR 0 4 lf0).2.1 = ⟨0, 4, 2, 128, [], 0, 0⟩ := by kernel_rfl
theorem lf1_on : lf1.on = true := by kernel_rfl
theorem lf1_len : lf1.S.length = 104 := by kernel_rfl
theorem lf2_e : (fmtR 4 100 lf1).1 = 0 := by kernel_rfl
theorem lf2_m : (fmtR 4 100 lf1).2.1 = ⟨4, 100, 2, 128, [], 0, 0⟩ := by kernel_rfl
theorem lf2_on : lf2.on = true := by kernel_rfl
theorem lf1_bad : newOk (lastB (lf1.S.getD 4 [])) (lastB (lf1.S.getD 5 [])) = false := by kernel_rfl
theorem lf2_len : lf2.S.length = 104 := by kernel_rfl
theorem fmtR_ok (f n : Nat) (d : DM) (h : d.Ok 0) (he : (fmtR f n d).1 = 0) : (fmtR f n d).2.2.Ok 0 := by
  have key : ∀ (m : LM) (d : DM) (e : Nat), d.Ok 0 → (desR m d e).1 = 0 → (desR m d e).2.2.Ok 0 := by
    intro m d e hd h0
    unfold desR at *
    split at h0
    · split at h0
      · rename_i a b; rw [if_pos a, if_pos b]; exact DM.flush_ok (DM.write_ok hd (desB_len _ _))
      · simp at h0
    · simp at h0
  unfold fmtR at *
  split at he
  · rename_i a
    rw [if_pos a]
    exact key _ _ _ (key _ _ _ h a) he
  · rename_i a; exact absurd he a
theorem lf1_ok : lf1.Ok 0 := fmtR_ok _ _ _ (DM.new_ok (by omega) (by omega)) lf1_e
theorem room1 : roomZ 4 ((0 : Nat) : Int) = 116 := by decide
theorem room2 : roomZ 100 ((0 : Nat) : Int) = 4000 := by decide
theorem room3 : roomZ 4 ((112 : Nat) : Int) = 4 := by decide
theorem room4 : roomZ 4 ((128 : Nat) : Int) = -1 := by decide
def lr1 : List UInt8 := List.replicate 100 0
def lr2 : List UInt8 := List.replicate 4 0
def lm0 : LM := ⟨0, 4, 2, 128, [], 0, 0⟩
def lm1 : LM := ⟨0, 4, 2, 128, [lr1], 0, 112⟩
def lm2 : LM := ⟨0, 4, 2, 128, [lr1, lr2], 0, 128⟩
def ln0 : LM := ⟨4, 100, 2, 128, [], 0, 0⟩
theorem lm2_small : ∀ r ∈ lm2.recs, r.length ≤ 1000000 := by
  intro r hr
  have hr : r = lr1 ∨ r = lr2 := by simpa [lm2] using hr
  rcases hr with rfl | rfl <;> simp [lr1, lr2]
theorem lap1 : appE lm0 true 100 = 0 ∧ appM lm0 true lr1 = lm1 := ⟨by decide, by kernel_rfl⟩
theorem lap2 : appE lm1 true 4 = 0 ∧ appM lm1 true lr2 = lm2 := ⟨by decide, by kernel_rfl⟩
theorem lap3 : appE lm2 true 0 = 9 ∧ appM lm2 true [] = lm2 := ⟨by decide, by kernel_rfl⟩
set_option maxRecDepth 100000 in
set_option maxHeartbeats 8000000 in
theorem lives4_any (w : World) : Calls Try.prog 19 #[] w fun e w' => e = .returned (.bool true) ∧ Below w.heap.size w w' := by
  have HL0 := Lib.hid (Lv.refl w)
  have hm1 : ∀ W : World, (Instr.makeSlice 32 (.int .i64 100) (.int .i64 100)).run Try.prog W = .ok (.slice (some ⟨W.heap.size, 0, none⟩) 100 100) (W.alloc (.cells (madeCells #[.int .u8 0] 100) 5)) := run_mkB 100 (by omega)
  have hm2 : ∀ W : World, (Instr.makeSlice 32 (.int .i64 4) (.int .i64 4)).run Try.prog W = .ok (.slice (some ⟨W.heap.size, 0, none⟩) 4 4) (W.alloc (.cells (madeCells #[.int .u8 0] 4) 5)) := run_mkB 4 (by omega)
  have hv1 : validB lf0.S.length ((0 : Nat) : Int) ((4 : Nat) : Int) = true := by decide
  have hv2 : validB lf1.S.length ((4 : Nat) : Int) ((100 : Nat) : Int) = true := by rw [lf1_len]; decide
  have hv3 : validB lf2.S.length ((0 : Nat) : Int) ((3 : Nat) : Int) = false := by rw [lf2_len]; decide
  have HF1 : Hid (∀ u g, Lv w u [diskO g lf0] → Calls Try.prog 11 #[.pointer (some ⟨g, 0, none⟩), .int .i64 0, .int .i64 4] u fun x w' => ∃ gl, x = .returned (.tuple #[.pointer (some ⟨gl, 0, none⟩), .int .i64 0]) ∧ Lv w w' [logO gl g lm0, diskO g lf1]) := Lib.hid (fun u g hl => by
    refine (format_ok hl (j := 0) rfl 0 4 (by omega) (by omega) hv1 ((DM.new_ok (by omega) (by omega)).mono (by omega))).mono ?_
    rintro x w' (⟨-, gl, hx, hl2⟩ | ⟨he, -⟩)
    · rw [lf1_m] at hl2; exact ⟨gl, hx, hl2⟩
    · rw [lf1_e] at he; exact absurd he (by omega))
  have HO1 : Hid (∀ u g gl, Lv w u [logO gl g lm0, diskO g lf1] → Calls Try.prog 18 #[.pointer (some ⟨g, 0, none⟩), .int .i64 4, .int .i64 100] u fun x w' => x = .returned (.tuple #[.pointer none, .int .i64 7]) ∧ Lv w w' [logO gl g lm0, diskO g lf1]) := Lib.hid (fun u g gl hl => open_form hl (j := 1) rfl 4 100 (by omega) (by omega) hv2 lf1_on (.inl lf1_bad))
  have HF2 : Hid (∀ u g gl, Lv w u [logO gl g lm0, diskO g lf1] → Calls Try.prog 11 #[.pointer (some ⟨g, 0, none⟩), .int .i64 4, .int .i64 100] u fun x w' => ∃ gn, x = .returned (.tuple #[.pointer (some ⟨gn, 0, none⟩), .int .i64 0]) ∧ Lv w w' [logO gn g ln0, logO gl g lm0, diskO g lf2]) := Lib.hid (fun u g gl hl => by
    refine (format_ok hl (j := 1) rfl 4 100 (by omega) (by omega) hv2 (lf1_ok.mono (by omega))).mono ?_
    rintro x w' (⟨-, gn, hx, hl2⟩ | ⟨he, -⟩)
    · rw [lf2_m] at hl2; exact ⟨gn, hx, hl2⟩
    · rw [lf2_e] at he; exact absurd he (by omega))
  have HF3 : Hid (∀ u g gl gn, Lv w u [logO gn g ln0, logO gl g lm0, diskO g lf2] → Calls Try.prog 11 #[.pointer (some ⟨g, 0, none⟩), .int .i64 0, .int .i64 3] u fun x w' => x = .returned (.tuple #[.pointer none, .int .i64 5]) ∧ u = w') := Lib.hid (fun u g gl gn hl => format_bad hl (j := 2) rfl 0 3 (by omega) (by omega) (by omega) (by omega) hv3)
  clear hv1 hv2 hv3
  go_enter Try.func19, Try.ntmps19
  go_upto_region 10 with (first
    | (have x1 := HL0.out; go_at_call 10; refine (made4_lv x1 104 (by omega) (by omega)).mono ?_; rintro e w1 ⟨g, rfl, hl⟩; have HL1 := Lib.hid hl; clear hl x1 HL0)
    | (have x1 := HL1.out; go_at_call 11; refine (HF1.out _ _ x1).mono ?_; rintro e w2 ⟨gl, rfl, hl⟩; have HL2 := Lib.hid hl; clear hl x1 HL1)
    | (have x1 := HL2.out; go_at_call 18; refine (HO1.out _ _ _ x1).mono ?_; rintro e w3 ⟨rfl, hl⟩; have HL3 := Lib.hid hl; clear hl x1 HL2)
    | (have x1 := HL3.out; go_at_call 11; refine (HF2.out _ _ _ x1).mono ?_; rintro e w4 ⟨gn, rfl, hl⟩; have HL4 := Lib.hid hl; have HG4 : Hid True := Lib.hid trivial; clear hl x1 HL3)
    | (have x1 := HG4; go_at_call 11; refine (HF3.out _ _ _ _ HL4.out).mono ?_; rintro e w5 ⟨rfl, rfl⟩; clear x1 HG4))
  clear HF1 HO1 HF2 HF3
  have HG1 : Hid True := Lib.hid trivial
  go_upto_region 11 with (first
    | (have x1 := HG1; go_at_call 29; refine (room_lv HL4.out (i := 1) (m := lm0) rfl (show 4 ≤ 4096 by omega) (show 0 ≤ 1000000 by omega)).mono ?_; rintro e w6 ⟨rfl, hb⟩; rw [show roomZ lm0.n lm0.tak = 116 from room1]; have HL5 := Lib.hid (HL4.out.below hb); clear hb x1 HG1)
    | (have x1 := HL5.out; go_at_call 29; refine (room_lv x1 (i := 0) (m := ln0) rfl (show 100 ≤ 4096 by omega) (show 0 ≤ 1000000 by omega)).mono ?_; rintro e w7 ⟨rfl, hb⟩; rw [show roomZ ln0.n ln0.tak = 4000 from room2]; have HL6 := Lib.hid (x1.below hb); clear hb x1 HL5))
  have HL7 : Hid (Lv w (w7.alloc (.cells (madeCells #[.int .u8 0] 100) 5)) [logO gn g ln0, logO gl g lm0, diskO g lf2]) := Lib.hid (HL6.out.below ((Below.refl _ _).alloc (Nat.le_refl _) _))
  have HG2 : Hid True := Lib.hid trivial
  have HG3 : Hid True := Lib.hid trivial
  clear HL6 HL4
  go_upto_region 12 with (first
    | (have x1 := HG2; go_at_call 15; refine (append_lv HL7.out (i := 1) (j := 2) (m := lm0) (d := lf2) (r := lr1) rfl rfl (Bs.made 100 (by omega)) (show 4 ≤ 4096 by omega) (show 0 ≤ 1000000 by omega) (by omega) (show 0 ≤ 100000 by omega)).mono ?_; rintro e w8 ⟨rfl, hl⟩; rw [lf2_on] at hl ⊢; rw [lap1.2] at hl; rw [lap1.1]; have HL8 := Lib.hid hl; clear hl x1 HG2 HL7)
    | (have x1 := HL8.out; go_at_call 29; refine (room_lv x1 (i := 1) (m := lm1) rfl (show 4 ≤ 4096 by omega) (show 112 ≤ 1000000 by omega)).mono ?_; rintro e w9 ⟨rfl, hb⟩; rw [show roomZ lm1.n lm1.tak = 4 from room3]; have HL9 := Lib.hid ((HL8.out.below hb).below ((Below.refl _ _).alloc (Nat.le_refl _) (.cells (madeCells #[.int .u8 0] 4) 5))); clear hb x1 HL8)
    | (have x1 := HG3; go_at_call 15; refine (append_lv HL9.out (i := 1) (j := 2) (m := lm1) (d := lf2) (r := lr2) rfl rfl (Bs.made 4 (by omega)) (show 4 ≤ 4096 by omega) (show 112 ≤ 1000000 by omega) (by omega) (show 1 ≤ 100000 by omega)).mono ?_; rintro e w10 ⟨rfl, hl⟩; rw [lf2_on] at hl ⊢; rw [lap2.2] at hl; rw [lap2.1]; have HL10 := Lib.hid hl; clear hl x1 HG3 HL9)
    | (have x1 := HL10.out; go_at_call 29; refine (room_lv x1 (i := 1) (m := lm2) rfl (show 4 ≤ 4096 by omega) (show 128 ≤ 1000000 by omega)).mono ?_; rintro e w11 ⟨rfl, hb⟩; rw [show roomZ lm2.n lm2.tak = -1 from room4]; have HL11 := Lib.hid (x1.below hb); clear hb x1 HL10))
  go_wp2_with (first
    | (have x1 := HL11.out; go_at_call 15; refine (append_lv x1 (i := 1) (j := 2) (m := lm2) (d := lf2) (r := []) rfl rfl (Bs.empty (fun _ => False) _ none 0 (by unfold maxLen; omega) (fun _ => rfl)) (show 4 ≤ 4096 by omega) (show 128 ≤ 1000000 by omega) (by omega) (show 2 ≤ 100000 by omega)).mono ?_; rintro e w12 ⟨rfl, hl⟩; rw [lf2_on] at hl ⊢; rw [lap3.2] at hl; rw [lap3.1]; have HL12 := Lib.hid hl; clear hl x1 HL11)
    | (have x1 := HL12.out; go_at_call 27; refine (records_lv x1 (ii := 1) (m := lm2) rfl (show 2 ≤ 100000 by omega) lm2_small).mono ?_; rintro e w13 ⟨ra, rc, rfl, hl⟩; rw [show lm2.recs.length = 2 from rfl]; have HL13 := Lib.hid hl; clear hl x1 HL12)
    | (have x1 := HL13.out; go_at_call 42; refine (synced_lv x1 (i := 2) (m := lm2) rfl).mono ?_; rintro e w14 ⟨rfl, rfl⟩; rw [show ((lm2.syn : Nat) : Int) = 0 from rfl]; clear x1))
  go_ret
  exact ⟨rfl, HL13.out.args⟩
end Go.Proofs.Ythffegfcgmhppaa
namespace Go.Proofs.Ythffegfcgmhppaa
open Go.RowKit
set_option linter.unusedSimpArgs false
set_option linter.unusedVariables false
attribute [local go_sem ↓] exec_loadAct exec_at_zero' exec_at_succ' Go.wp_at_zero Go.wp_at_succ
/-- a log and its disk with no fuse -/
structure Calm (n : Nat) (m : LM) (d : DM) : Prop where
  fine : Fine m d
  frm : m.frm = 2
  n_ : m.n = n
  on : d.on = true
  fuse : d.fuse = 0
  len : d.S.length = n + 3
theorem Calm.sync {n : Nat} {m : LM} {d : DM} (h : Calm n m d) : (syncR m d).1 = 0 ∧ Calm n (syncR m d).2.1 (syncR m d).2.2 ∧ (syncR m d).2.1.recs = m.recs ∧ (syncR m d).2.1.syn = m.recs.length := by
  obtain ⟨z1, z2⟩ := sync_fine h.fine
  obtain ⟨z3, z4, z5⟩ := sync_nf m d h.on h.fuse
  rcases z2 with ⟨-, y2, y3, y4, y5, y6⟩ | ⟨y1, -⟩
  · exact ⟨z3, ⟨y2, y5.trans h.frm, y6.trans h.n_, z4, z5, z1.trans h.len⟩, y3, y4⟩
  · rw [y1] at z3; exact absurd z3 (by omega)
theorem Calm.reset {n : Nat} {m : LM} {d : DM} (h : Calm n m d) : (resetR m d).1 = 0 ∧ Calm n (resetR m d).2.1 (resetR m d).2.2 ∧ (resetR m d).2.1.recs = [] ∧ (resetR m d).2.1.syn = 0 := by
  obtain ⟨z1, z2⟩ := reset_fine h.fine
  obtain ⟨z3, z4, z5⟩ := reset_nf m d h.on h.fuse
  rcases z2 with ⟨-, y2, y3, y4, y5, y6⟩ | ⟨y1, -⟩
  · exact ⟨z3, ⟨y2, y5.trans h.frm, y6.trans h.n_, z4, z5, z1.trans h.len⟩, y3, y4⟩
  · rw [y1] at z3; exact absurd z3 (by omega)
theorem Calm.append {n : Nat} {m : LM} {d : DM} (h : Calm n m d) (r : List UInt8) (h0 : appE m true r.length = 0) : Calm n (appM m true r) d ∧ (appM m true r).recs = m.recs ++ [r] ∧ (appM m true r).syn = m.syn := by
  obtain ⟨a, b, c, e, f⟩ := append_fine h.fine r true h0
  exact ⟨⟨a, e.trans h.frm, f.trans h.n_, h.on, h.fuse, h.len⟩, b, c⟩
theorem Calm.open_ {n : Nat} {m : LM} {d : DM} (h : Calm n m d) (hs : m.syn = m.recs.length) : Calm n (mOpen 2 n m.rnd m.recs) d ∧ GA 2 n d m.rnd m.en m.recs := by
  have hga := h.fine.ga
  have hc := h.fine.cap
  have h4 := h.fine.n4
  rw [h.frm, h.n_, hs, List.take_of_length_le (Nat.le_refl _)] at hga
  rw [h.n_] at hc h4
  exact ⟨⟨open_fine hga h4.1 h4.2 h.fine.ok hc h.fine.small, rfl, rfl, h.on, h.fuse, h.len⟩, hga⟩
theorem Calm.bd {n : Nat} {m : LM} {d : DM} (h : Calm n m d) : m.n ≤ 4096 ∧ m.tak ≤ 1000000 ∧ m.recs.length ≤ 100000 ∧ (∀ r ∈ m.recs, r.length ≤ 1000000) ∧ takR m.recs ≤ 1000000 := by
  have hb := h.fine.bounds
  have h4 := h.fine.n4
  have ht := h.fine.tak
  obtain ⟨b1, b2, b3⟩ := lenB_facts m.recs
  exact ⟨by omega, by omega, by omega, fun r hr => by have := b1 r hr; omega, by omega⟩
section
variable {w0 w : World} {L : List Obj} {gl g i j n : Nat} {m : LM} {d : DM}
theorem Calm.sync_lv (hc : Calm n m d) (h : Lv w0 w L) (hi : L[i]? = some (logO gl g m)) (hj : L[j]? = some (diskO g d)) (hij : i ≠ j) (hn : 4 ≤ n) :
    Calls Try.prog 16 #[.pointer (some ⟨gl, 0, none⟩)] w fun x w' => x = .returned (.int .i64 0) ∧ Lv w0 w' ((L.set j (diskO g (syncR m d).2.2)).set i (logO gl g (syncR m d).2.1)) := by
  have hf := hc.fine
  have hb := hf.bounds
  have h1 := hc.frm
  have h2 := hc.n_
  have h3 := hc.len
  have h4 := hf.addLen
  obtain ⟨b1, b2, b3⟩ := lenB_facts m.recs
  have := Go.Proofs.Ythffegfcgmhppaa.sync_lv h hi hj hij hf.ga.rb (by rw [h3, h1]; omega) (hf.ok.mono (by omega)) hf.syn (fun r hr => by have := b1 r hr; omega) (by omega) (by omega) (by rw [h3, h1]; omega)
  rw [hc.sync.1] at this
  exact this
theorem Calm.reset_lv (hc : Calm n m d) (h : Lv w0 w L) (hi : L[i]? = some (logO gl g m)) (hj : L[j]? = some (diskO g d)) (hij : i ≠ j) (hn : 4 ≤ n) :
    Calls Try.prog 17 #[.pointer (some ⟨gl, 0, none⟩)] w fun x w' => x = .returned (.int .i64 0) ∧ Lv w0 w' ((L.set j (diskO g (resetR m d).2.2)).set i (logO gl g (resetR m d).2.1)) := by
  have hf := hc.fine
  have h1 := hc.frm
  have h3 := hc.len
  have := Go.Proofs.Ythffegfcgmhppaa.reset_lv h hi hj hij hf.ga.rb (by rw [h3, h1]; omega) (hf.ok.mono (by omega))
  rw [hc.reset.1] at this
  exact this
end
theorem rappE_cases (k : Nat) (rs : List (List UInt8)) (n : Nat) : rappE k rs n = 0 ∨ rappE k rs n = 2 ∨ rappE k rs n = 9 := by
  unfold rappE
  split
  · exact .inr (.inl rfl)
  · split
    · exact .inr (.inr rfl)
    · exact .inl rfl
set_option maxRecDepth 100000 in
set_option maxHeartbeats 1500000 in
theorem walacts_any (s : Int) (aa : Option Addr) (an ac : Nat) (ms : List AM) (w : World) (s1 : -9223372036854775808 ≤ s) (s2 : s ≤ 9223372036854775807) (hA : Acts (Old w) w aa an ac ms) :
    Calls Try.prog 3 #[.int .i64 s, .slice aa an ac] w fun e w' => e = .returned (.bool true) ∧ Below w.heap.size w w' := by
  obtain ⟨a, ha, ha2⟩ := around_nat s 16 (by omega)
  have hAR := around_any s 16 w s1 s2 (by omega) (by omega)
  rw [ha] at hAR
  obtain ⟨n, hn⟩ : ∃ n, n = 4 + a := ⟨_, rfl⟩
  have hn1 : 4 ≤ n := by omega
  have hn2 : n ≤ 19 := by omega
  have hw1 : IntKind.i64.wrap (4 + (a : Int)) = (n : Int) := by rw [i64_id _ (by omega) (by omega)]; omega
  have hw2 : IntKind.i64.wrap ((n : Int) + 3) = ((n + 3 : Nat) : Int) := by rw [i64_id _ (by omega) (by omega)]; omega
  have hs : (DM.new (n + 3)).S.length = n + 3 := by simp [DM.new]
  have hv : validB (DM.new (n + 3)).S.length ((2 : Nat) : Int) (n : Int) = true := by unfold validB; rw [hs]; apply decide_eq_true; omega
  obtain ⟨f1, f2, f3, f4, f5, f6⟩ := fmt_fine 2 n (DM.new (n + 3)) rfl rfl (by rw [hs]; omega) hn1 (by omega) (DM.new_ok (by omega) (by omega))
  have HF : Hid (∀ u g, Lv w u [diskO g (DM.new (n + 3))] → Calls Try.prog 11 #[.pointer (some ⟨g, 0, none⟩), .int .i64 2, .int .i64 (n : Int)] u fun x w' => ∃ gl, x = .returned (.tuple #[.pointer (some ⟨gl, 0, none⟩), .int .i64 0]) ∧ Lv w w' [logO gl g (mFresh 2 n), diskO g (fmtR 2 n (DM.new (n + 3))).2.2]) := Lib.hid (fun u g hl => by
    refine (format_ok hl (j := 0) rfl 2 n (by omega) (by omega) hv ((DM.new_ok (by omega) (by omega)).mono (by omega))).mono ?_
    rintro x w' (⟨-, gl, hx, hl2⟩ | ⟨he, -⟩)
    · rw [f2] at hl2; exact ⟨gl, hx, hl2⟩
    · rw [f1] at he; exact absurd he (by omega))
  obtain ⟨d0, hd0⟩ : ∃ d0, d0 = (fmtR 2 n (DM.new (n + 3))).2.2 := ⟨_, rfl⟩
  obtain ⟨m0, hm0⟩ : ∃ m0, m0 = mFresh 2 n := ⟨_, rfl⟩
  rw [← hd0, ← hm0] at HF
  rw [← hd0] at f3 f4 f5 f6
  rw [← hm0] at f3
  have HC0 : Hid (Calm n m0 d0 ∧ m0.recs = [] ∧ m0.syn = 0) := Lib.hid ⟨⟨f3, by rw [hm0]; rfl, by rw [hm0]; rfl, f4, f5, f6.trans hs⟩, by rw [hm0]; rfl, by rw [hm0]; rfl⟩
  have HAR := Lib.hid hAR
  have HA := Lib.hid hA
  have HMS := Lib.hid hA.1
  have hac : an ≤ ac := hA.2.1.2.1
  have ham : ac ≤ 9223372036854775807 := hA.2.1.2.2.1
  obtain ⟨N3, hN3⟩ : ∃ N3, N3 = n + 3 := ⟨_, rfl⟩
  rw [← hN3] at hw2 HF
  have HN3 : Hid (1 ≤ N3 ∧ N3 ≤ 4096) := Lib.hid (by omega)
  have hw3 : IntKind.i64.wrap (64 * (n : Int)) = ((64 * n : Nat) : Int) := by rw [i64_id _ (by omega) (by omega)]; omega
  obtain ⟨MX, hMX⟩ : ∃ MX, MX = 64 * n := ⟨_, rfl⟩
  rw [← hMX] at hw3
  have hMX2 : MX ≤ 100000 := by omega
  have hbs56 := run_bs56
  have HL0 := Lib.hid (Lv.refl w)
  clear hA hAR ha ha2 hn hs hv f1 f2 f3 f4 f5 f6 hd0 hm0 hN3 hMX
  go_enter Try.func3, Try.ntmps3
  go_upto_region 8 with (first
    | (go_at_call 9; refine HAR.out.mono ?_; rintro e w1 ⟨rfl, rfl⟩)
    | (have x1 := HL0.out; go_at_call 10; refine (made4_lv x1 N3 HN3.out.1 HN3.out.2).mono ?_; rintro e w1 ⟨g, rfl, hl⟩; have HL1 := Lib.hid hl; clear hl x1 HL0)
    | (have x1 := HL1.out; go_at_call 11; refine (HF.out _ _ x1).mono ?_; rintro e w2 ⟨gl, rfl, hl⟩; have HL2 := Lib.hid hl.recs0; clear hl x1 HL1))
  go_upto_region 10 with (have x1 := HL2.out; go_at_call 12; refine (agrees_fine x1 (i := 1) (k := 0) (n := n) (S := 0) (nn := 0) (rs := []) rfl rfl HC0.out.1.fine HC0.out.2.1 rfl HC0.out.1.n_ HC0.out.2.2).mono ?_; rintro e w3 ⟨rfl, hl⟩; have HL3 := Lib.hid hl; clear hl x1 HL2)
  go_wp2_with fail
  go_loopw [7, 9, 10, 11] (fun ul uw us ut wr => ∃ (i gk : Nat) (v0 : Value) (m : LM) (d : DM), i ≤ 30 ∧ ul = .pointer (some ⟨gk, 0, none⟩) ∧ v0 = uw ∧ us = .int .i64 (m.syn : Int) ∧ ut = .int .i64 (i : Int) ∧ Calm n m d ∧ Lv w wr [recsO v0 m.recs, logO gk g m, diskO g d]) (fun _ _ _ t _ => 30 - (intOf t).toNat)
  case atStart => exact ⟨0, gl, _, m0, d0, Nat.zero_le _, rfl, rfl, by rw [HC0.out.2.2]; rfl, rfl, HC0.out.1, by rw [HC0.out.2.1]; exact HL3.out⟩
  case round =>
    clear HL3 HC0
    obtain ⟨i, gk, v0, m, d, hi, rfl, hv0, rfl, rfl, hC, hL⟩ := hrel
    subst hv0
    have HC := Lib.hid hC
    have HB := Lib.hid hC.bd
    obtain ⟨D1, a1, c1, hv1, hrd1⟩ := hL.recsR (i := 0) rfl
    subst hv1
    have ha1c := hrd1.2.1
    have ha1m := hrd1.2.2.1
    have HL := Lib.hid hL
    obtain ⟨rs, hrs⟩ : ∃ rs, rs = m.recs := ⟨_, rfl⟩
    rw [← hrs] at HL HB ha1c ⊢
    obtain ⟨rl, hrl⟩ : ∃ rl, rl = rs.length := ⟨_, rfl⟩
    rw [← hrl] at HL HB ha1c ⊢
    have HRS := Lib.hid hrs
    have HRL := Lib.hid hrl
    clear hL hrd1 hC hrs hrl
    by_cases hia : i < an
    · have hia2 : (i : Int) < (an : Int) := by omega
      by_cases hi30 : i < 30
      · have hi302 : (i : Int) < 30 := by omega
        have hwi : IntKind.i64.wrap ((i : Int) + 1) = (i : Int) + 1 := i64_id _ (by omega) (by omega)
        have him : i < ms.length := by rw [HMS.out]; exact hia
        obtain ⟨mo, hmo⟩ : ∃ mo, mo = ms[i]'him := ⟨_, rfl⟩
        have hbw := HL.out.args
        obtain ⟨b, off, -, hbs, rfl, hcell⟩ := (HA.out.kept (Kept.of_below (fun _ => False) hbw) (fun _ _ _ h => h)).at (by omega)
        have hr := hcell i him
        have hmk := (HA.out.kept (Kept.of_below (fun _ => False) hbw) (fun _ _ _ h => h)).2.2 mo (by rw [hmo]; exact List.getElem_mem _)
        rw [← hmo] at hr
        obtain ⟨ob, hob⟩ : ∃ ob, ob = off + i * 3 := ⟨_, rfl⟩
        rw [← hob] at hr
        have hob2 : off + i * 3 = ob := hob.symm
        have ld0 := run_loadAct hr
        have c0 : wr.cell? ⟨b, ob, none⟩ = some (.int .i64 mo.kind) := hr 0 _ rfl
        have HMK := Lib.hid hmk
        have HMO := Lib.hid hmo
        clear hcell hr hmk hmo hob hbw
        obtain ⟨kd, hkd⟩ : ∃ kd, kd = mo.kind := ⟨_, rfl⟩
        rw [← hkd] at c0
        by_cases hk01 : kd = 0 ∨ kd = 1
        · obtain ⟨RB, hRB⟩ : ∃ RB, RB = recB (around mo.n ((MX : Int) + 1)).toNat mo.b := ⟨_, rfl⟩
          obtain ⟨K, hK⟩ : ∃ K, K = RB.length := ⟨_, rfl⟩
          have hKb : K ≤ MX := by
            have := around_bd mo.n ((MX : Int) + 1) (by omega)
            rw [hK, hRB, recB_len]
            omega
          have HRC : Hid (Calls Try.prog 13 #[.agg #[.int .i64 mo.kind, .int .i64 mo.n, .slice mo.ba mo.bn mo.bc], .int .i64 (MX : Int)] wr fun e w' => ∃ v, e = .returned v ∧ Made wr v RB w') := Lib.hid (by rw [hRB]; exact record_any _ mo.kind mo.n MX mo.ba mo.bn mo.bc mo.b wr HMK.out.2.1.1 HMK.out.2.1.2 hMX2 HMK.out.2.2)
          have HKL := Lib.hid hK.symm
          have HE1 : Hid (appE m true K = rappE n rs K) := Lib.hid (by
            rw [HRS.out, ← HC.out.n_]
            rcases appE_on m K with e | e
            · exact e
            · exact absurd HC.out.fine.tak e)
          have hEc := rappE_cases n rs K
          obtain ⟨E, hE⟩ : ∃ E, E = rappE n rs K := ⟨_, rfl⟩
          rw [← hE] at HE1 hEc
          have HRE : Hid (∀ u c a2 c2, Lv w u [bytesO (.slice a2 K c2) RB, recsO (.slice a1 rl c) rs, logO gk g m, diskO g d] → Calls Try.prog 14 #[.int .i64 (n : Int), .slice a1 rl c, .slice a2 K c2] u fun x w' => x = .returned (.int .i64 E) ∧ u = w') := Lib.hid (fun u c a2 c2 hl => by
            obtain ⟨D9, a9, c9, hv9, hrd9⟩ := hl.recsR (i := 1) rfl
            rw [← HRL.out] at hv9 hrd9
            cases hv9
            rw [hE]
            exact rappend_any D9 a1 rl c n rs a2 K c2 (by omega) u hrd9 (by omega) (by have := HB.out.2.2.2.2; rw [HRS.out]; have := HC.out.bd.2.2.2.2; omega) (by have := HB.out.2.2.1; omega) HB.out.2.2.2.1)
          clear hRB hK hE
          rcases hEc with rfl | hEn
          · have HAP := Lib.hid (HC.out.append RB (by rw [HKL.out]; exact HE1.out))
            rcases hk01 with hk0 | hk1
            · have hkk : kd = 0 := hk0
              subst hkk
              clear hkd HMO
              go_wp2_with (first
                | (have x1 := HRC.out; go_at_call 13; refine x1.mono ?_; rintro e w3 ⟨v3, rfl, hm⟩; have hl3 := HL.out.made hm; obtain ⟨ba, bc, rfl, hbb⟩ := hm.bs; rw [HKL.out] at hbb hl3 ⊢; have HL3 := Lib.hid hl3; have HBB := Lib.hid hbb; have hbc := hbb.2.2.1; have hbm := hbb.2.2.2.1; clear hm hl3 hbb x1 HRC)
                | (go_at_call 14; refine (HRE.out _ _ _ _ HL3.out).mono ?_; rintro e w4 ⟨rfl, rfl⟩)
                | (have x1 := HL3.out; go_at_call 15; refine (append_lv x1 (i := 2) (j := 3) (m := m) (d := d) rfl rfl HBB.out HB.out.1 HB.out.2.1 (by omega) HC.out.bd.2.2.1).mono ?_; rintro e w5 ⟨rfl, hl5⟩; rw [HC.out.on] at hl5 ⊢; rw [HE1.out]; have HL5 := Lib.hid hl5; have HL6 : Hid (Lv w (w5.alloc (.cells #[.slice ba K bc] 32)) [bytesO (.slice ba K bc) RB, recsO (.slice a1 rl c1) rs, logO gk g (appM m true RB), diskO g d]) := Lib.hid (hl5.below ((Below.refl _ _).alloc (Nat.le_refl _) _)); have HSRC : Hid (Src Try.prog 1 30 (.slice (some ⟨w5.heap.size, 0, none⟩) 1 1) 1 [.slice ba K bc] (w5.alloc (.cells #[.slice ba K bc] 32))) := Lib.hid (src_one Try.underlying30 (heap_new rfl)); clear hl5 x1 HL3)
                | (at_builtin; refine wpList_racc HL6.out (rs := rs) (i := 1) (j := 0) (by omega) rfl rfl rfl (.tmp 95) (.tmp 97) rfl rfl HSRC.out (by have := HC.out.bd.2.2.1; rw [← HRS.out] at this; omega) ?_; clear HL6 HSRC; intro a7 c7 w7 hl7; rw [← HRL.out] at hl7 ⊢; have HL7 : Hid (Lv w w7 [recsO (.slice a7 (rl + 1) c7) (rs ++ [RB]), logO gk g (appM m true RB), diskO g d]) := Lib.hid hl7.tail; clear hl7)
                | (have x1 := HL7.out; go_at_call 12; refine (agrees_fine x1 (i := 1) (k := 0) (n := n) (S := m.syn) (nn := (rl + 1)) (rs := (rs ++ [RB])) rfl rfl HAP.out.1.fine (by rw [HAP.out.2.1, ← HRS.out]) (by rw [List.length_append, ← HRL.out]; rfl) HAP.out.1.n_ HAP.out.2.2).mono ?_; rintro e w9 ⟨rfl, hl9⟩; have HL9 := Lib.hid hl9; clear hl9 x1 HL7))
              go_roundw
              case rel => exact ⟨i + 1, gk, _, appM m true RB, d, by omega, rfl, rfl, by rw [HAP.out.2.2], by go_num, HAP.out.1, by rw [HAP.out.2.1, ← HRS.out]; exact HL9.out⟩
              case measure => simp [intOf]; omega
            · have hkk : kd = 1 := hk1
              subst hkk
              clear hkd HMO
              go_wp2_with (first
                | (have x1 := HRC.out; go_at_call 13; refine x1.mono ?_; rintro e w3 ⟨v3, rfl, hm⟩; have hl3 := HL.out.made hm; obtain ⟨ba, bc, rfl, hbb⟩ := hm.bs; rw [HKL.out] at hbb hl3 ⊢; have HL3 := Lib.hid hl3; have HBB := Lib.hid hbb; have hbc := hbb.2.2.1; have hbm := hbb.2.2.2.1; clear hm hl3 hbb x1 HRC)
                | (go_at_call 14; refine (HRE.out _ _ _ _ HL3.out).mono ?_; rintro e w4 ⟨rfl, rfl⟩)
                | (have x1 := HL3.out; go_at_call 15; refine (append_lv x1 (i := 2) (j := 3) (m := m) (d := d) rfl rfl HBB.out HB.out.1 HB.out.2.1 (by omega) HC.out.bd.2.2.1).mono ?_; rintro e w5 ⟨rfl, hl5⟩; rw [HC.out.on] at hl5 ⊢; rw [HE1.out]; have HL5 := Lib.hid hl5; have HL6 : Hid (Lv w (w5.alloc (.cells #[.slice ba K bc] 32)) [bytesO (.slice ba K bc) RB, recsO (.slice a1 rl c1) rs, logO gk g (appM m true RB), diskO g d]) := Lib.hid (hl5.below ((Below.refl _ _).alloc (Nat.le_refl _) _)); have HSRC : Hid (Src Try.prog 1 30 (.slice (some ⟨w5.heap.size, 0, none⟩) 1 1) 1 [.slice ba K bc] (w5.alloc (.cells #[.slice ba K bc] 32))) := Lib.hid (src_one Try.underlying30 (heap_new rfl)); clear hl5 x1 HL3)
                | (at_builtin; refine wpList_racc HL6.out (rs := rs) (i := 1) (j := 0) (by omega) rfl rfl rfl (.tmp 95) (.tmp 97) rfl rfl HSRC.out (by have := HC.out.bd.2.2.1; rw [← HRS.out] at this; omega) ?_; clear HL6 HSRC; intro a7 c7 w7 hl7; rw [← HRL.out] at hl7 ⊢; have HL7 : Hid (Lv w w7 [recsO (.slice a7 (rl + 1) c7) (rs ++ [RB]), logO gk g (appM m true RB), diskO g d]) := Lib.hid hl7.tail; clear hl7)
                | (have x1 := HL7.out; go_at_call 12; refine (agrees_fine x1 (i := 1) (k := 0) (n := n) (S := m.syn) (nn := (rl + 1)) (rs := (rs ++ [RB])) rfl rfl HAP.out.1.fine (by rw [HAP.out.2.1, ← HRS.out]) (by rw [List.length_append, ← HRL.out]; rfl) HAP.out.1.n_ HAP.out.2.2).mono ?_; rintro e w9 ⟨rfl, hl9⟩; have HL9 := Lib.hid hl9; clear hl9 x1 HL7))
              go_roundw
              case rel => exact ⟨i + 1, gk, _, appM m true RB, d, by omega, rfl, rfl, by rw [HAP.out.2.2], by go_num, HAP.out.1, by rw [HAP.out.2.1, ← HRS.out]; exact HL9.out⟩
              case measure => simp [intOf]; omega
          · have hE0 : ¬ E = 0 := by omega
            have HAM : Hid (appM m true RB = m) := Lib.hid (by unfold appM; rw [HKL.out, HE1.out, if_neg hE0])
            rcases hk01 with hk0 | hk1
            · have hkk : kd = 0 := hk0
              subst hkk
              clear hkd HMO
              go_wp2_with (first
                | (have x1 := HRC.out; go_at_call 13; refine x1.mono ?_; rintro e w3 ⟨v3, rfl, hm⟩; have hl3 := HL.out.made hm; obtain ⟨ba, bc, rfl, hbb⟩ := hm.bs; rw [HKL.out] at hbb hl3 ⊢; have HL3 := Lib.hid hl3; have HBB := Lib.hid hbb; have hbc := hbb.2.2.1; have hbm := hbb.2.2.2.1; clear hm hl3 hbb x1 HRC)
                | (go_at_call 14; refine (HRE.out _ _ _ _ HL3.out).mono ?_; rintro e w4 ⟨rfl, rfl⟩)
                | (have x1 := HL3.out; go_at_call 15; refine (append_lv x1 (i := 2) (j := 3) (m := m) (d := d) rfl rfl HBB.out HB.out.1 HB.out.2.1 (by omega) HC.out.bd.2.2.1).mono ?_; rintro e w5 ⟨rfl, hl5⟩; rw [HC.out.on] at hl5 ⊢; rw [HE1.out]; rw [HAM.out] at hl5; have HL5 : Hid (Lv w w5 [recsO (.slice a1 rl c1) rs, logO gk g m, diskO g d]) := Lib.hid hl5.tail; clear hl5 x1 HL3)
                | (have x1 := HL5.out; go_at_call 12; refine (agrees_fine x1 (i := 1) (k := 0) (n := n) (S := m.syn) (nn := rl) (rs := rs) rfl rfl HC.out.fine HRS.out.symm HRL.out HC.out.n_ rfl).mono ?_; rintro e w9 ⟨rfl, hl9⟩; have HL9 := Lib.hid hl9; clear hl9 x1 HL5))
              go_roundw
              case rel => exact ⟨i + 1, gk, _, m, d, by omega, rfl, rfl, rfl, by go_num, HC.out, by rw [← HRS.out]; exact HL9.out⟩
              case measure => simp [intOf]; omega
            · have hkk : kd = 1 := hk1
              subst hkk
              clear hkd HMO
              go_wp2_with (first
                | (have x1 := HRC.out; go_at_call 13; refine x1.mono ?_; rintro e w3 ⟨v3, rfl, hm⟩; have hl3 := HL.out.made hm; obtain ⟨ba, bc, rfl, hbb⟩ := hm.bs; rw [HKL.out] at hbb hl3 ⊢; have HL3 := Lib.hid hl3; have HBB := Lib.hid hbb; have hbc := hbb.2.2.1; have hbm := hbb.2.2.2.1; clear hm hl3 hbb x1 HRC)
                | (go_at_call 14; refine (HRE.out _ _ _ _ HL3.out).mono ?_; rintro e w4 ⟨rfl, rfl⟩)
                | (have x1 := HL3.out; go_at_call 15; refine (append_lv x1 (i := 2) (j := 3) (m := m) (d := d) rfl rfl HBB.out HB.out.1 HB.out.2.1 (by omega) HC.out.bd.2.2.1).mono ?_; rintro e w5 ⟨rfl, hl5⟩; rw [HC.out.on] at hl5 ⊢; rw [HE1.out]; rw [HAM.out] at hl5; have HL5 : Hid (Lv w w5 [recsO (.slice a1 rl c1) rs, logO gk g m, diskO g d]) := Lib.hid hl5.tail; clear hl5 x1 HL3)
                | (have x1 := HL5.out; go_at_call 12; refine (agrees_fine x1 (i := 1) (k := 0) (n := n) (S := m.syn) (nn := rl) (rs := rs) rfl rfl HC.out.fine HRS.out.symm HRL.out HC.out.n_ rfl).mono ?_; rintro e w9 ⟨rfl, hl9⟩; have HL9 := Lib.hid hl9; clear hl9 x1 HL5))
              go_roundw
              case rel => exact ⟨i + 1, gk, _, m, d, by omega, rfl, rfl, rfl, by go_num, HC.out, by rw [← HRS.out]; exact HL9.out⟩
              case measure => simp [intOf]; omega
        · have hk0 : ¬ kd = 0 := fun e => hk01 (.inl e)
          have hk1 : ¬ kd = 1 := fun e => hk01 (.inr e)
          clear hk01 hkd ld0
          by_cases hk2 : kd = 2
          · subst hk2
            have HSY := Lib.hid HC.out.sync
            obtain ⟨m2, hm2⟩ : ∃ m2, m2 = (syncR m d).2.1 := ⟨_, rfl⟩
            obtain ⟨d2, hd2⟩ : ∃ d2, d2 = (syncR m d).2.2 := ⟨_, rfl⟩
            have HM2 := Lib.hid hm2
            have HD2 := Lib.hid hd2
            rw [← hm2, ← hd2] at HSY
            clear hm2 hd2
            have HS2 : Hid (m2.syn = rl) := Lib.hid (HSY.out.2.2.2.trans (by rw [HRL.out, HRS.out]))
            have HR2 : Hid (m2.recs = rs) := Lib.hid (HSY.out.2.2.1.trans HRS.out.symm)
            go_wp2_with (first
              | (have x1 := HL.out; go_at_call 16; refine (HC.out.sync_lv x1 (i := 1) (j := 2) rfl rfl (by omega) hn1).mono ?_; rintro e w3 ⟨rfl, hl3⟩; rw [← HM2.out, ← HD2.out] at hl3; have HL3 := Lib.hid hl3; clear hl3 x1 HL)
              | (have x1 := HL3.out; go_at_call 12; refine (agrees_fine x1 (i := 1) (k := 0) (n := n) (S := rl) (nn := rl) (rs := rs) rfl rfl HSY.out.2.1.fine HR2.out HRL.out HSY.out.2.1.n_ HS2.out).mono ?_; rintro e w9 ⟨rfl, hl9⟩; have HL9 := Lib.hid hl9; clear hl9 x1 HL3))
            go_roundw
            case rel => exact ⟨i + 1, gk, _, m2, d2, by omega, rfl, rfl, by rw [HS2.out], by go_num, HSY.out.2.1, by rw [HR2.out]; exact HL9.out⟩
            case measure => simp [intOf]; omega
          · by_cases hk3 : kd = 3
            · subst hk3
              have HSY := Lib.hid HC.out.reset
              obtain ⟨m2, hm2⟩ : ∃ m2, m2 = (resetR m d).2.1 := ⟨_, rfl⟩
              obtain ⟨d2, hd2⟩ : ∃ d2, d2 = (resetR m d).2.2 := ⟨_, rfl⟩
              have HM2 := Lib.hid hm2
              have HD2 := Lib.hid hd2
              rw [← hm2, ← hd2] at HSY
              clear hm2 hd2
              go_wp2_with (first
                | (have x1 := HL.out; go_at_call 17; refine (HC.out.reset_lv x1 (i := 1) (j := 2) rfl rfl (by omega) hn1).mono ?_; rintro e w3 ⟨rfl, hl3⟩; rw [← HM2.out, ← HD2.out] at hl3; have HL3 := Lib.hid hl3.tail.recs0; clear hl3 x1 HL)
                | (have x1 := HL3.out; go_at_call 12; refine (agrees_fine x1 (i := 1) (k := 0) (n := n) (S := 0) (nn := 0) (rs := []) rfl rfl HSY.out.2.1.fine HSY.out.2.2.1 rfl HSY.out.2.1.n_ HSY.out.2.2.2).mono ?_; rintro e w9 ⟨rfl, hl9⟩; have HL9 := Lib.hid hl9; clear hl9 x1 HL3))
              go_roundw
              case rel => exact ⟨i + 1, gk, _, m2, d2, by omega, rfl, rfl, by rw [HSY.out.2.2.2]; rfl, by go_num, HSY.out.2.1, by rw [HSY.out.2.2.1]; exact HL9.out⟩
              case measure => simp [intOf]; omega
            · have HSY := Lib.hid HC.out.sync
              obtain ⟨m2, hm2⟩ : ∃ m2, m2 = (syncR m d).2.1 := ⟨_, rfl⟩
              obtain ⟨d2, hd2⟩ : ∃ d2, d2 = (syncR m d).2.2 := ⟨_, rfl⟩
              have HM2 := Lib.hid hm2
              have HD2 := Lib.hid hd2
              rw [← hm2, ← hd2] at HSY
              clear hm2 hd2
              have HS2 : Hid (m2.syn = rl) := Lib.hid (HSY.out.2.2.2.trans (by rw [HRL.out, HRS.out]))
              have HR2 : Hid (m2.recs = rs) := Lib.hid (HSY.out.2.2.1.trans HRS.out.symm)
              have HOO := Lib.hid (HSY.out.2.1.open_ (by rw [HS2.out, HR2.out]; exact HRL.out))
              rw [HR2.out] at HOO
              obtain ⟨r2, hr2⟩ : ∃ r2, r2 = m2.rnd := ⟨_, rfl⟩
              rw [← hr2] at HOO
              clear hr2
              have HOP : Hid (∀ u, Lv w u [recsO (.slice a1 rl c1) rs, logO gk g m2, diskO g d2] → Calls Try.prog 18 #[.pointer (some ⟨g, 0, none⟩), .int .i64 2, .int .i64 (n : Int)] u fun x w' => ∃ go, x = .returned (.tuple #[.pointer (some ⟨go, 0, none⟩), .int .i64 0]) ∧ Lv w w' [logO go g (mOpen 2 n r2 rs), recsO (.slice a1 rl c1) rs, logO gk g m2, diskO g d2]) := Lib.hid (fun u hl => open_ga hl (j := 2) rfl HOO.out.2 (show 2 ≤ 4096 by omega) hn1 (show n ≤ 200 by omega) HSY.out.2.1.on)
              go_wp2_with (first
                | (have x1 := HL.out; go_at_call 16; refine (HC.out.sync_lv x1 (i := 1) (j := 2) rfl rfl (by omega) hn1).mono ?_; rintro e w3 ⟨rfl, hl3⟩; rw [← HM2.out, ← HD2.out] at hl3; have HL3 := Lib.hid hl3; clear hl3 x1 HL)
                | (have x1 := HL3.out; go_at_call 18; refine (HOP.out _ x1).mono ?_; rintro e w4 ⟨go, rfl, hl4⟩; have HL4 := Lib.hid hl4.third; clear hl4 x1 HL3)
                | (have x1 := HL4.out; go_at_call 12; refine (agrees_fine x1 (i := 1) (k := 0) (n := n) (S := rl) (nn := rl) (rs := rs) rfl rfl HOO.out.1.fine rfl HRL.out HOO.out.1.n_ HRL.out.symm).mono ?_; rintro e w9 ⟨rfl, hl9⟩; have HL9 := Lib.hid hl9; clear hl9 x1 HL4))
              go_roundw
              case rel => exact ⟨i + 1, go, _, mOpen 2 n r2 rs, d2, by omega, rfl, rfl, by show Value.int _ _ = Value.int _ _; rw [HRL.out]; rfl, by go_num, HOO.out.1, HL9.out⟩
              case measure => simp [intOf]; omega
      · have hi302 : (30 : Int) ≤ (i : Int) := by omega
        go_wp2_with (go_at_call 19; refine (lives4_any _).mono ?_; rintro e w13 ⟨rfl, hb⟩; have HZ := Lib.hid (HL.out.args.trans (hb.mono HL.out.args.size)); clear hb)
        go_ret
        exact ⟨rfl, HZ.out⟩
    · have hia2 : (an : Int) ≤ (i : Int) := by omega
      go_wp2_with (go_at_call 19; refine (lives4_any _).mono ?_; rintro e w13 ⟨rfl, hb⟩; have HZ := Lib.hid (HL.out.args.trans (hb.mono HL.out.args.size)); clear hb)
      go_ret
      exact ⟨rfl, HZ.out⟩
end Go.Proofs.Ythffegfcgmhppaa
namespace Go.Proofs.Ythffegfcgmhppaa
open Go.RowKit
set_option linter.unusedSimpArgs false
set_option linter.unusedVariables false
attribute [local go_sem ↓] exec_loadAct exec_at_zero' exec_at_succ' Go.wp_at_zero Go.wp_at_succ
section
variable {OT : List Obj} {w0 w : World} {FR DS gp g gl n : Nat} {m : LM} {d : DM} {rst : Bool} {v : Value}
set_option maxRecDepth 100000 in
set_option maxHeartbeats 2000000 in
theorem act_app (h : Lv w0 w (pastO gp g gl n v m.syn rst :: recsO v m.recs :: logO gl g m :: diskO g d :: OT)) (hP : Past FR DS n m d rst) (hon : d.on = true) (D : Nat → Prop) (mo : AM) (hA : AOk D w mo) (hk : mo.kind = 0 ∨ mo.kind = 1) :
    Calls Try.prog 26 #[.pointer (some ⟨gp, 0, none⟩), .agg #[.int .i64 mo.kind, .int .i64 mo.n, .slice mo.ba mo.bn mo.bc]] w fun x w' => x = .returned (.bool true) ∧ Acted OT FR DS n d w0 gp g gl w' := by
  obtain ⟨w1, hw1⟩ : ∃ w1, w1 = w.alloc (.cells #[.int .i64 mo.kind, .int .i64 mo.n, .slice mo.ba mo.bn mo.bc] 34) := ⟨_, rfl⟩
  obtain ⟨ga, hga⟩ : ∃ ga, ga = w.heap.size := ⟨_, rfl⟩
  have hblk : w1.heap[ga]? = some (.cells #[.int .i64 mo.kind, .int .i64 mo.n, .slice mo.ba mo.bn mo.bc] 34 (0, 0)) := by rw [hw1, hga]; exact heap_new rfl
  have hbw : Below w.heap.size w w1 := by rw [hw1]; exact (Below.refl _ _).alloc (Nat.le_refl _) _
  have hL1 : Lv w0 w1 (pastO gp g gl n v m.syn rst :: recsO v m.recs :: logO gl g m :: diskO g d :: OT) := h.below hbw
  have hrg : w1.rangeAt ga 0 mo.cells := fun j u hu => by rw [Nat.zero_add, cell_of_row w1 ga j _ _ _ hblk]; simpa [AM.cells] using hu
  have ld0 := run_loadAct hrg
  have c0 : w1.cell? ⟨ga, 0, none⟩ = some (.int .i64 mo.kind) := cell_of_row w1 ga 0 _ _ _ hblk
  obtain ⟨RB, hRB⟩ : ∃ RB, RB = recB (around mo.n 151).toNat mo.b := ⟨_, rfl⟩
  obtain ⟨K, hK⟩ : ∃ K, K = RB.length := ⟨_, rfl⟩
  have hKb : K ≤ 150 := by
    have := around_bd mo.n 151 (by omega)
    rw [hK, hRB, recB_len]
    omega
  have HRC : Hid (Calls Try.prog 13 #[.agg #[.int .i64 mo.kind, .int .i64 mo.n, .slice mo.ba mo.bn mo.bc], .int .i64 150] w1 fun e w' => ∃ v, e = .returned v ∧ Made w1 v RB w') := Lib.hid (by rw [hRB]; exact record_any D mo.kind mo.n 150 mo.ba mo.bn mo.bc mo.b w1 hA.2.1.1 hA.2.1.2 (by omega) (hA.2.2.kept (Kept.of_below (fun _ => False) hbw) (fun _ _ _ h => h)))
  have HKL := Lib.hid hK.symm
  obtain ⟨D1, a1, c1, hv1, hrd1⟩ := hL1.recsR (i := 1) rfl
  subst hv1
  have hrc1 := hrd1.2.1
  have hrc2 := hrd1.2.2.1
  have hF := hP.live hon
  have HMV := Lib.hid (Moved.refl (F := FR) (n := n) hF.ok)
  have HE1 : Hid (appE m true K = rappE n m.recs K) := Lib.hid (by
    rw [← hP.n_]
    rcases appE_on m K with e | e
    · exact e
    · exact absurd hF.tak e)
  have hEc := rappE_cases n m.recs K
  obtain ⟨E, hE⟩ : ∃ E, E = rappE n m.recs K := ⟨_, rfl⟩
  rw [← hE] at HE1 hEc
  have hb := hP.bd
  have hn4 := hP.n4
  have HRE : Hid (∀ u a2 c2 o, Lv w0 u (bytesO (.slice a2 K c2) RB :: o :: recsO (.slice a1 m.recs.length c1) m.recs :: logO gl g m :: diskO g d :: OT) → Calls Try.prog 14 #[.int .i64 (n : Int), .slice a1 m.recs.length c1, .slice a2 K c2] u fun x w' => x = .returned (.int .i64 E) ∧ u = w') := Lib.hid (fun u a2 c2 o hl => by
    obtain ⟨D9, a9, c9, hv9, hrd9⟩ := hl.recsR (i := 2) rfl
    cases hv9
    rw [hE]
    exact rappend_any D9 a1 m.recs.length c1 n m.recs a2 K c2 (by omega) u hrd9 (by omega) (by omega) (by omega) hb.2.1)
  have HMB : Hid (m.n ≤ 4096 ∧ m.tak ≤ 1000000 ∧ m.recs.length ≤ 100000) := Lib.hid ⟨by rw [hP.n_]; omega, by rw [hF.tak]; omega, hb.1⟩
  have HW1 := Lib.hid hw1
  have HGA := Lib.hid hga
  have HL1 := Lib.hid hL1
  have HP := Lib.hid hP
  have HON := Lib.hid hon
  have hbs56 := run_bs56
  obtain ⟨rs, hrs⟩ : ∃ rs, rs = m.recs := ⟨_, rfl⟩
  obtain ⟨rl, hrl⟩ : ∃ rl, rl = rs.length := ⟨_, rfl⟩
  rw [← hrs] at HRE HL1 hrc1 HMB
  rw [← hrl] at HRE HL1 hrc1 HMB
  have HRL := Lib.hid hrl
  have HRS := Lib.hid hrs
  obtain ⟨kd, hkd⟩ : ∃ kd, kd = mo.kind := ⟨_, rfl⟩
  rw [← hkd] at hk c0
  have HWF : Hid (Lv w0 w1 (pastO gp g gl n (.slice a1 rl c1) m.syn rst :: recsO (.slice a1 rl c1) rs :: logO gl g m :: diskO g d :: OT)) := HL1
  clear h hP hon hblk hw1 hga hL1 hrd1 hrs hrl hA hrg hbw hRB hK hF hE hb hkd HWF
  rcases hEc with rfl | hEn
  · have HAP := Lib.hid (HP.out.append HON.out RB (by rw [HKL.out]; exact HE1.out))
    rcases hk with rfl | rfl
    · go_enter Try.func26, Try.ntmps26
      go_upto_region 1 with fail
      rw [← HW1.out, ← HGA.out]
      go_upto_region 9 with (have x1 := HRC.out; go_at_call 13; refine x1.mono ?_; rintro e w3 ⟨v3, rfl, hm⟩; have hl3 := HL1.out.made hm; obtain ⟨ba, bc, rfl, hbb⟩ := hm.bs; rw [HKL.out] at hbb hl3 ⊢; have HL3 := Lib.hid hl3; have HBB := Lib.hid hbb; have hbc := hbb.2.2.1; have hbm := hbb.2.2.2.1; obtain ⟨_, _, _, n3, a3, _, _⟩ := hl3.pastF (i := 1) rfl; clear hm hl3 hbb x1 HRC HL1)
      go_still_tail 9, (by kernel_rfl)
      change wpList _ _ _ _ _ w3.drew
      have HL4 : Hid (Lv w0 w3.drew (bytesO (.slice ba K bc) RB :: pastO gp g gl n (.slice a1 rl c1) m.syn rst :: recsO (.slice a1 rl c1) rs :: logO gl g m :: diskO g d :: OT)) := Lib.hid (HL3.out.below (Below.refl _ _).drew)
      have HBD := Lib.hid (HBB.out.kept (Kept.of_below (fun _ => False) ((Below.refl w3.heap.size w3).drew)) (fun _ _ _ h => h))
      obtain ⟨_, _, q4, _, _, _, _⟩ := HL4.out.pastF (i := 1) rfl
      clear HL3 HBB
      go_wp2_with (first
        | (go_at_call 14; refine (HRE.out _ _ _ _ HL4.out).mono ?_; rintro e w4 ⟨rfl, rfl⟩)
        | (have x1 := HL4.out; go_at_call 15; refine (append_lv x1 (i := 3) (j := 4) (m := m) (d := d) rfl rfl HBD.out HMB.out.1 HMB.out.2.1 (by omega) (by rw [← HRS.out, ← HRL.out]; exact HMB.out.2.2)).mono ?_; rintro e w5 ⟨rfl, hl5⟩; rw [HON.out] at hl5 ⊢; rw [HE1.out]; have HL5 := Lib.hid hl5; have r5 := (hl5.pastF (i := 1) rfl).2.2.2.2.1; have HL6 : Hid (Lv w0 (w5.alloc (.cells #[.slice ba K bc] 32)) (bytesO (.slice ba K bc) RB :: pastO gp g gl n (.slice a1 rl c1) m.syn rst :: recsO (.slice a1 rl c1) rs :: logO gl g (appM m true RB) :: diskO g d :: OT)) := Lib.hid (hl5.below ((Below.refl _ _).alloc (Nat.le_refl _) _)); have HSRC : Hid (Src Try.prog 1 30 (.slice (some ⟨w5.heap.size, 0, none⟩) 1 1) 1 [.slice ba K bc] (w5.alloc (.cells #[.slice ba K bc] 32))) := Lib.hid (src_one Try.underlying30 (heap_new rfl)); clear hl5 x1 HL4)
        | (at_builtin; refine wpList_racc HL6.out (i := 2) (j := 0) (rs := rs) (by omega) rfl rfl rfl (.tmp 55) (.tmp 57) rfl rfl HSRC.out (by rw [← HRL.out]; have := HMB.out.2.2; omega) ?_; clear HL6 HSRC; intro a7 c7 w7 hl7; rw [← HRL.out] at hl7 ⊢; have HL7 : Hid (Lv w0 w7 (pastO gp g gl n (.slice a1 rl c1) m.syn rst :: recsO (.slice a7 (rl + 1) c7) (rs ++ [RB]) :: logO gl g (appM m true RB) :: diskO g d :: OT)) := Lib.hid hl7.tail; have r7 := (HL7.out.pastF (i := 0) rfl).2.2.2.2.1; have z7 := HL7.out.pastFz (i := 0) rfl 3; have HL8 := Lib.hid (HL7.out.pastAll (i := 0) rfl (.slice a7 (rl + 1) c7)); clear hl7))
      go_ret
      refine ⟨rfl, .slice a7 (rl + 1) c7, appM m true RB, d, rst, HAP.out.1, HMV.out, fun hf => ⟨HON.out, hf⟩, ?_⟩
      rw [HAP.out.2.2, HAP.out.2.1, ← HRS.out]
      exact HL8.out
    · go_enter Try.func26, Try.ntmps26
      go_upto_region 1 with fail
      rw [← HW1.out, ← HGA.out]
      go_upto_region 9 with (have x1 := HRC.out; go_at_call 13; refine x1.mono ?_; rintro e w3 ⟨v3, rfl, hm⟩; have hl3 := HL1.out.made hm; obtain ⟨ba, bc, rfl, hbb⟩ := hm.bs; rw [HKL.out] at hbb hl3 ⊢; have HL3 := Lib.hid hl3; have HBB := Lib.hid hbb; have hbc := hbb.2.2.1; have hbm := hbb.2.2.2.1; obtain ⟨_, _, _, n3, a3, _, _⟩ := hl3.pastF (i := 1) rfl; clear hm hl3 hbb x1 HRC HL1)
      go_still_tail 9, (by kernel_rfl)
      change wpList _ _ _ _ _ w3.drew
      have HL4 : Hid (Lv w0 w3.drew (bytesO (.slice ba K bc) RB :: pastO gp g gl n (.slice a1 rl c1) m.syn rst :: recsO (.slice a1 rl c1) rs :: logO gl g m :: diskO g d :: OT)) := Lib.hid (HL3.out.below (Below.refl _ _).drew)
      have HBD := Lib.hid (HBB.out.kept (Kept.of_below (fun _ => False) ((Below.refl w3.heap.size w3).drew)) (fun _ _ _ h => h))
      obtain ⟨_, _, q4, _, _, _, _⟩ := HL4.out.pastF (i := 1) rfl
      clear HL3 HBB
      go_wp2_with (first
        | (go_at_call 14; refine (HRE.out _ _ _ _ HL4.out).mono ?_; rintro e w4 ⟨rfl, rfl⟩)
        | (have x1 := HL4.out; go_at_call 15; refine (append_lv x1 (i := 3) (j := 4) (m := m) (d := d) rfl rfl HBD.out HMB.out.1 HMB.out.2.1 (by omega) (by rw [← HRS.out, ← HRL.out]; exact HMB.out.2.2)).mono ?_; rintro e w5 ⟨rfl, hl5⟩; rw [HON.out] at hl5 ⊢; rw [HE1.out]; have HL5 := Lib.hid hl5; have r5 := (hl5.pastF (i := 1) rfl).2.2.2.2.1; have HL6 : Hid (Lv w0 (w5.alloc (.cells #[.slice ba K bc] 32)) (bytesO (.slice ba K bc) RB :: pastO gp g gl n (.slice a1 rl c1) m.syn rst :: recsO (.slice a1 rl c1) rs :: logO gl g (appM m true RB) :: diskO g d :: OT)) := Lib.hid (hl5.below ((Below.refl _ _).alloc (Nat.le_refl _) _)); have HSRC : Hid (Src Try.prog 1 30 (.slice (some ⟨w5.heap.size, 0, none⟩) 1 1) 1 [.slice ba K bc] (w5.alloc (.cells #[.slice ba K bc] 32))) := Lib.hid (src_one Try.underlying30 (heap_new rfl)); clear hl5 x1 HL4)
        | (at_builtin; refine wpList_racc HL6.out (i := 2) (j := 0) (rs := rs) (by omega) rfl rfl rfl (.tmp 55) (.tmp 57) rfl rfl HSRC.out (by rw [← HRL.out]; have := HMB.out.2.2; omega) ?_; clear HL6 HSRC; intro a7 c7 w7 hl7; rw [← HRL.out] at hl7 ⊢; have HL7 : Hid (Lv w0 w7 (pastO gp g gl n (.slice a1 rl c1) m.syn rst :: recsO (.slice a7 (rl + 1) c7) (rs ++ [RB]) :: logO gl g (appM m true RB) :: diskO g d :: OT)) := Lib.hid hl7.tail; have r7 := (HL7.out.pastF (i := 0) rfl).2.2.2.2.1; have z7 := HL7.out.pastFz (i := 0) rfl 3; have HL8 := Lib.hid (HL7.out.pastAll (i := 0) rfl (.slice a7 (rl + 1) c7)); clear hl7))
      go_ret
      refine ⟨rfl, .slice a7 (rl + 1) c7, appM m true RB, d, rst, HAP.out.1, HMV.out, fun hf => ⟨HON.out, hf⟩, ?_⟩
      rw [HAP.out.2.2, HAP.out.2.1, ← HRS.out]
      exact HL8.out
  · have hE0 : ¬ E = 0 := by omega
    have HAM : Hid (appM m true RB = m) := Lib.hid (by unfold appM; rw [HKL.out, HE1.out, if_neg hE0])
    rcases hk with rfl | rfl
    · go_enter Try.func26, Try.ntmps26
      go_upto_region 1 with fail
      rw [← HW1.out, ← HGA.out]
      go_upto_region 9 with (have x1 := HRC.out; go_at_call 13; refine x1.mono ?_; rintro e w3 ⟨v3, rfl, hm⟩; have hl3 := HL1.out.made hm; obtain ⟨ba, bc, rfl, hbb⟩ := hm.bs; rw [HKL.out] at hbb hl3 ⊢; have HL3 := Lib.hid hl3; have HBB := Lib.hid hbb; have hbc := hbb.2.2.1; have hbm := hbb.2.2.2.1; obtain ⟨_, _, _, n3, a3, _, _⟩ := hl3.pastF (i := 1) rfl; clear hm hl3 hbb x1 HRC HL1)
      go_still_tail 9, (by kernel_rfl)
      change wpList _ _ _ _ _ w3.drew
      have HL4 : Hid (Lv w0 w3.drew (bytesO (.slice ba K bc) RB :: pastO gp g gl n (.slice a1 rl c1) m.syn rst :: recsO (.slice a1 rl c1) rs :: logO gl g m :: diskO g d :: OT)) := Lib.hid (HL3.out.below (Below.refl _ _).drew)
      have HBD := Lib.hid (HBB.out.kept (Kept.of_below (fun _ => False) ((Below.refl w3.heap.size w3).drew)) (fun _ _ _ h => h))
      obtain ⟨_, _, q4, _, _, _, _⟩ := HL4.out.pastF (i := 1) rfl
      clear HL3 HBB
      go_wp2_with (first
        | (go_at_call 14; refine (HRE.out _ _ _ _ HL4.out).mono ?_; rintro e w4 ⟨rfl, rfl⟩)
        | (have x1 := HL4.out; go_at_call 15; refine (append_lv x1 (i := 3) (j := 4) (m := m) (d := d) rfl rfl HBD.out HMB.out.1 HMB.out.2.1 (by omega) (by rw [← HRS.out, ← HRL.out]; exact HMB.out.2.2)).mono ?_; rintro e w5 ⟨rfl, hl5⟩; rw [HON.out] at hl5 ⊢; rw [HE1.out]; have HL5 := Lib.hid hl5; rw [HAM.out] at hl5; have HL6 : Hid (Lv w0 w5 (pastO gp g gl n (.slice a1 rl c1) m.syn rst :: recsO (.slice a1 rl c1) rs :: logO gl g m :: diskO g d :: OT)) := Lib.hid hl5.tail; clear hl5 x1 HL4))
      go_ret
      refine ⟨rfl, .slice a1 rl c1, m, d, rst, HP.out, HMV.out, fun hf => ⟨HON.out, hf⟩, ?_⟩
      rw [← HRS.out]
      exact HL6.out
    · go_enter Try.func26, Try.ntmps26
      go_upto_region 1 with fail
      rw [← HW1.out, ← HGA.out]
      go_upto_region 9 with (have x1 := HRC.out; go_at_call 13; refine x1.mono ?_; rintro e w3 ⟨v3, rfl, hm⟩; have hl3 := HL1.out.made hm; obtain ⟨ba, bc, rfl, hbb⟩ := hm.bs; rw [HKL.out] at hbb hl3 ⊢; have HL3 := Lib.hid hl3; have HBB := Lib.hid hbb; have hbc := hbb.2.2.1; have hbm := hbb.2.2.2.1; obtain ⟨_, _, _, n3, a3, _, _⟩ := hl3.pastF (i := 1) rfl; clear hm hl3 hbb x1 HRC HL1)
      go_still_tail 9, (by kernel_rfl)
      change wpList _ _ _ _ _ w3.drew
      have HL4 : Hid (Lv w0 w3.drew (bytesO (.slice ba K bc) RB :: pastO gp g gl n (.slice a1 rl c1) m.syn rst :: recsO (.slice a1 rl c1) rs :: logO gl g m :: diskO g d :: OT)) := Lib.hid (HL3.out.below (Below.refl _ _).drew)
      have HBD := Lib.hid (HBB.out.kept (Kept.of_below (fun _ => False) ((Below.refl w3.heap.size w3).drew)) (fun _ _ _ h => h))
      obtain ⟨_, _, q4, _, _, _, _⟩ := HL4.out.pastF (i := 1) rfl
      clear HL3 HBB
      go_wp2_with (first
        | (go_at_call 14; refine (HRE.out _ _ _ _ HL4.out).mono ?_; rintro e w4 ⟨rfl, rfl⟩)
        | (have x1 := HL4.out; go_at_call 15; refine (append_lv x1 (i := 3) (j := 4) (m := m) (d := d) rfl rfl HBD.out HMB.out.1 HMB.out.2.1 (by omega) (by rw [← HRS.out, ← HRL.out]; exact HMB.out.2.2)).mono ?_; rintro e w5 ⟨rfl, hl5⟩; rw [HON.out] at hl5 ⊢; rw [HE1.out]; have HL5 := Lib.hid hl5; rw [HAM.out] at hl5; have HL6 : Hid (Lv w0 w5 (pastO gp g gl n (.slice a1 rl c1) m.syn rst :: recsO (.slice a1 rl c1) rs :: logO gl g m :: diskO g d :: OT)) := Lib.hid hl5.tail; clear hl5 x1 HL4))
      go_ret
      refine ⟨rfl, .slice a1 rl c1, m, d, rst, HP.out, HMV.out, fun hf => ⟨HON.out, hf⟩, ?_⟩
      rw [← HRS.out]
      exact HL6.out
end
end Go.Proofs.Ythffegfcgmhppaa
namespace Go.Proofs.Ythffegfcgmhppaa
open Go.RowKit
set_option linter.unusedSimpArgs false
set_option linter.unusedVariables false
/-- the states of Bytes -/
def stB (s : Int) : Nat → Int
  | 0 => bits BinOp.or IntKind.u32 (s % 4294967296) 1
  | i + 1 => (stB s i * 1664525 + 1013904223) % 4294967296
def bytesB (n : Nat) (s : Int) : List UInt8 := (List.range n).map fun i => UInt8.ofNat (stB s (i + 1) / 16777216).toNat
theorem bytesB_len (n : Nat) (s : Int) : (bytesB n s).length = n := by simp [bytesB]
theorem bytesB_succ (n : Nat) (s : Int) : bytesB (n + 1) s = bytesB n s ++ [UInt8.ofNat (stB s (n + 1) / 16777216).toNat] := by simp [bytesB, List.range_succ]
set_option maxRecDepth 100000 in
set_option maxHeartbeats 2000000 in
theorem bytes1_any (n : Nat) (s : Int) (w : World) (hn : n ≤ 100000) (s1 : -9223372036854775808 ≤ s) (s2 : s ≤ 9223372036854775807) :
    Calls Try.prog 31 #[.int .i64 (n : Int), .int .i64 s] w fun e w' => ∃ v, e = .returned v ∧ Made w v (bytesB n s) w' := by
  have hbs1 := run_bs1b
  obtain ⟨X0, hX0⟩ : ∃ X0, X0 = stB s 0 := ⟨_, rfl⟩
  have hx0 : bits BinOp.or IntKind.u32 (s % 4294967296) 1 = X0 := hX0.symm
  have HX0 := Lib.hid hX0
  clear hX0
  go_enter Try.func31, Try.ntmps31
  go_wp2_with fail
  go_loopw [5, 6, 7] (fun u x t wr => ∃ (i : Nat) (v0 : Value) (X : Int), i ≤ n ∧ v0 = u ∧ x = .int .u32 X ∧ X = stB s i ∧ t = .int .i64 (i : Int) ∧ Lv w wr [baccO v0 (bytesB i s)]) (fun _ _ t _ => n - (intOf t).toNat)
  case atStart => exact ⟨0, _, X0, Nat.zero_le _, rfl, rfl, HX0.out, rfl, (Lv.refl w).bacc0⟩
  case round =>
    obtain ⟨i, v0, X, hi, hv0, rfl, hXs, rfl, hL⟩ := hrel
    subst hv0
    have HL := Lib.hid hL
    by_cases hlt : i < n
    · have hn3 : (i : Int) < (n : Int) := by omega
      have hwi : IntKind.i64.wrap ((i : Int) + 1) = (i : Int) + 1 := i64_id _ (by omega) (by omega)
      obtain ⟨Y, hY⟩ : ∃ Y, Y = (X * 1664525 + 1013904223) % 4294967296 := ⟨_, rfl⟩
      have HYS : Hid (Y = stB s (i + 1)) := Lib.hid (by rw [hY, hXs]; rfl)
      have hy0 : 0 ≤ Y := by omega
      have hy1 : Y < 4294967296 := by omega
      obtain ⟨Z, hZ⟩ : ∃ Z : Nat, (Z : Int) = Y / 16777216 := ⟨(Y / 16777216).toNat, by omega⟩
      have hz1 : Z < 256 := by omega
      have e1 : (X * 1664525 % 4294967296 + 1013904223) % 4294967296 = Y := by omega
      have e2 : (X * 1664525 + 1013904223) % 4294967296 = Y := hY.symm
      have e3 : Y / 16777216 = (Z : Int) := hZ.symm
      have e4 : IntKind.u8.wrap (Z : Int) = (Z : Int) := by rw [IntKind.wrap_u8]; omega
      obtain ⟨x, hx⟩ : ∃ x, x = UInt8.ofNat Z := ⟨_, rfl⟩
      have hxz : ((x.toNat : Nat) : Int) = (Z : Int) := by rw [hx, u8_ofNat]; omega
      have HSU : Hid (bytesB (i + 1) s = bytesB i s ++ [x]) := Lib.hid (by rw [bytesB_succ, ← HYS.out, e3, hx]; rfl)
      have HLE : Hid ((bytesB i s).length + 1 ≤ 1000000) := Lib.hid (by rw [bytesB_len]; omega)
      obtain ⟨RB, hRB⟩ : ∃ RB, RB = bytesB i s := ⟨_, rfl⟩
      rw [← hRB] at HL HSU HLE
      have HSRC : Hid (Src Try.prog 1 32 (.slice (some ⟨wr.heap.size, 0, none⟩) 1 1) [x].length (vals [x]) (wr.alloc (.cells #[.int .u8 (Z : Int)] 5))) := Lib.hid (by
        exact src_bytes (us := [x]) (g := wr.heap.size) (w := wr.alloc (.cells #[.int .u8 (Z : Int)] 5)) (by rw [← hxz]; exact heap_new rfl))
      have HLn : Hid (Lv w (wr.alloc (.cells #[.int .u8 (Z : Int)] 5)) [baccO v0 RB]) := Lib.hid (HL.out.below ((Below.refl _ _).alloc (Nat.le_refl _) _))
      clear hL hRB hx HL hY hXs hxz hZ
      go_wp2_with (at_builtin; refine wpList_bacc HLn.out (i := 0) (v := v0) (l := RB) rfl rfl (.tmp 19) (.tmp 23) rfl rfl [x] HSRC.out HLE.out ?_; clear HLn HSRC; intro v2 w2 hl2; have HL2 := Lib.hid hl2; clear hl2)
      go_roundw
      case rel => exact ⟨i + 1, _, Y, by omega, rfl, (by first | rfl | (simp only [e1, e2])), HYS.out, by go_num, by rw [HSU.out]; exact HL2.out⟩
      case measure => simp [intOf]; omega
    · obtain rfl : i = n := by omega
      have HM := Lib.hid HL.out.madeOf
      clear hL HL
      go_wp2
      go_ret
      exact ⟨_, rfl, HM.out⟩
end Go.Proofs.Ythffegfcgmhppaa

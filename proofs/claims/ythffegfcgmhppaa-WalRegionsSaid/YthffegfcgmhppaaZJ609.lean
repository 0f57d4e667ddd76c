/-
  Texts Q6, one behind the other.
-/
import Derived.WalkKit
import Derived.WalkSpells
import Derived.WalkLawsBesides
import Derived.Laws.AppendOwn
import Derived.Laws.OwnMore
import Derived.Deep.AppendSrc
import Derived.Deep.MidRow
import Derived.Lib.Hide
import Derived.Deep.QuietTactic
import Derived.BigQuiet
import Derived.Laws.ResultCell
import GoSem.Claim
import Derived.Deep.CutBlock
import Derived.OwnWalk
import Derived.Deep.Grids
import Derived.Orders
import Derived.Tactics
import Derived.Maps.RangeRun
import Derived.Maps.Range
import Derived.Maps.OwnOps
import Derived.Maps.RangeWalk
import Derived.Deep.Cut
import Derived.Deep.RegionWith
import Derived.Deep.DrawnRows
import Derived.StillTailTactics
import Derived.Carry
import Derived.Laws.CopyOwn
import Derived.Lib.AppendZerosOnto
import Derived.Laws.BytesString
import Derived.Laws.AppendOwnNone
import Derived.ProofKit
import Derived.OpenShut
import Derived.Deep.Slices
import Derived.Deep.Fields
import Derived.JoinedCond
import Derived.Laws.ShiftsVarLaws
import Derived.Laws.BitsAllLaws
import Derived.Test.YthffegfcgmhppaaRows
import Derived.Test.YthffegfcgmhppaaZJ608
namespace Go.Proofs.Ythffegfcgmhppaa
open Go.ChangeShapes Go.WideShapes Go.ChangeAt Go.RowKit
set_option linter.unusedSimpArgs false
set_option linter.unusedVariables false
attribute [local go_sem ↓] exec_loadAct exec_at_zero' exec_at_succ' Go.wp_at_zero Go.wp_at_succ
def DofR25 : List (Option Tmp) := [some 148, some 149, some 150, some 151, some 152, some 153, some 154, some 155, some 156, some 157, some 158, some 159, some 160, some 161, some 162, some 163, some 164, some 165, some 166, some 167, some 168, some 169, some 170, some 22]
def LofR25 : List (List Nat) := [[], [0], [], [2], [3], [4], [], [6], [7], [8], [1, 5, 9], [10], [11], [12, 11], [13, 11], [14, 11], [15, 11], [16], [17, 16], [18, 16], [19, 16], [16, 20, 11], [11, 21], [22]]
def DofR26 : List (Option Tmp) := [some 171, some 172, some 173, some 174, some 175, some 176, some 177, some 178, some 179, some 180, some 181, some 182, some 183, some 184, some 185, some 186, some 187, some 188, some 189, some 190, some 191, some 192, some 193, some 23]
def LofR26 : List (List Nat) := [[], [0], [], [2], [3], [4], [], [6], [7], [8], [1, 5, 9], [10], [11], [12, 11], [13, 11], [14, 11], [15, 11], [16], [17, 16], [18, 16], [19, 16], [16, 20, 11], [11, 21], [22]]
/-- a slice of truth values -/
def Bls (D : Nat → Prop) (w : World) (a : Option Addr) (n c : Nat) (l : List Bool) : Prop := l.length = n ∧ Sl D w a n c (l.map Value.bool) 1
theorem Bls.kept {D S : Nat → Prop} {w w' : World} {a : Option Addr} {n c : Nat} {l : List Bool} (h : Bls D w a n c l) (hk : Kept S w w') (hd : ∀ b, b < w.heap.size → D b → ¬ S b) : Bls D w' a n c l := ⟨h.1, h.2.kept (by decide) hk hd⟩
theorem Bls.cells {D : Nat → Prop} {w : World} {a : Option Addr} {n c : Nat} {l : List Bool} (h : Bls D w a n c l) (hn : 0 < n) : ∃ b off, D b ∧ b < w.heap.size ∧ a = some ⟨b, off, none⟩ ∧ ∀ i (hi : i < l.length), w.cell? ⟨b, off + i, none⟩ = some (.bool l[i]) := by
  obtain ⟨h1, h2, h3, h4, h5, h6⟩ := h
  obtain ⟨b, off, hD, ha, hr⟩ := h6 hn
  exact ⟨b, off, hD, range_lt hr (by rw [List.length_map]; omega), ha, fun i hi => hr i _ (by simp [hi])⟩
section
variable {H : Type} {enc : TypeId × Value → H} {W : World} {base : Nat} {held : Bool}
set_option maxRecDepth 100000 in
theorem open_bls {base0 : Nat} {v : Value} {d : DataW H} {p : List MemPlace} (hval : Value.okWide Try.prog W .any base0 65 v) (h : DataW.Trod enc Try.prog W base (fun _ => true) held 65 v d p) :
    ∃ a n c l, v = .slice a n c ∧ Bls (Old W) W a n c l := by
  obtain ⟨aR1, n1, c1, rfl⟩ := okWide_slice Try.underlying65 hval
  obtain ⟨fuel, hf⟩ := h
  rcases Go.Deep.open_bools Try.underlying65 Try.underlying4 (by kernel_rfl) hf with ⟨hcs, hx⟩ | ⟨a, n, c, B, hcs, _, hl, hm, hx, hcell⟩
  · simp [Value.cells] at hcs
    obtain ⟨rfl, rfl, rfl⟩ := hcs
    exact ⟨none, 0, 0, [], rfl, rfl, Sl.empty _ _ _ _ _ (Nat.zero_le _) (fun _ => rfl)⟩
  · simp [Value.cells] at hcs
    obtain ⟨rfl, rfl, rfl⟩ := hcs
    refine ⟨some a, n1, c1, (List.range n1).map B, rfl, by simp, Sl.of_cells (by decide) (by simp) hl hm fun j u hu => ?_⟩
    have hj : j < n1 := by
      have := (List.getElem?_eq_some_iff.1 hu).1
      simpa using this
    rw [hcell j (by omega)]
    rw [← hu]
    simp [hj]
end
/-- the two logs change places -/
theorem Lv.sides {w0 w : World} {a0 aR1 aR2 d b0 b1 b2 : Obj} (h : Lv w0 w [a0, aR1, aR2, d, b0, b1, b2]) : Lv w0 w [b0, b1, b2, d, a0, aR1, aR2] :=
  h.pick [b0, b1, b2, d, a0, aR1, aR2] (fun i => if i = 3 then 3 else if i < 3 then i + 4 else i - 4) (fun i j hi hj => by
    have hi : i < 7 := hi
    have hj : j < 7 := hj
    intro e
    split at e <;> split at e <;> (try split at e) <;> (try split at e) <;> omega) (fun i hi => by
    have hi : i < 7 := hi
    have hi3 : i = 0 ∨ i = 1 ∨ i = 2 ∨ i = 3 ∨ i = 4 ∨ i = 5 ∨ i = 6 := by omega
    rcases hi3 with rfl | rfl | rfl | rfl | rfl | rfl | rfl <;> rfl)
theorem Past.moved {FR DS n F2 n2 : Nat} {m : LM} {d d' : DM} {r : Bool} (h : Past FR DS n m d r) (hon : d.on = true) (hm : Moved F2 n2 d d') (ha : FR + n ≤ F2 ∨ F2 + n2 ≤ FR) (hok : d'.on = true → d'.Ok 0) : Past FR DS n m d' r := by
  have hf := h.live hon
  have hg : GA m.frm m.n d' m.rnd m.en (m.recs.take m.syn) := hf.ga.moved hf.n4.1 hm (by rw [h.frm, h.n_]; exact ha)
  refine ⟨h.frm, h.n_, hm.len.trans h.len, h.fit, h.n4, fun ho => ⟨hf.n4, hf.syn, hf.tak, hf.cap, hf.small, hg, hok ho⟩, fun ts => ?_, h.cap, h.small, h.syn⟩
  have hl : (m.recs.take m.syn).length = m.syn := by rw [List.length_take]; have := h.syn; omega
  exact ⟨_, _, _, hg.restart ts, .inl ⟨by rw [hl]; exact Nat.le_refl _, by rw [hl]; exact h.syn, by rw [hl]⟩⟩
theorem Moved.one {F n : Nat} {d d' : DM} (h : Moved F n d d') {k : Nat} (hk : k < F ∨ F + n ≤ k) {l : List UInt8} (hs : sec d k = [l]) : sec d' k = [l] := by
  rcases h.out k hk with a | a
  · rw [a, hs]
  · rw [a, hs]; rfl
def b7 : List UInt8 := bytesB 64 7
def b8 : List UInt8 := bytesB 64 8
def rgD : DM := (((DM.new 20).write 0 b7).write 19 b8).flush
theorem rg0 : rgD.Ok 0 ∧ rgD.on = true ∧ rgD.fuse = 0 ∧ rgD.S.length = 20 ∧ sec rgD 0 = [b7] ∧ sec rgD 19 = [b8] := by
  have h7 : b7.length = 64 := bytesB_len _ _
  have h8 : b8.length = 64 := bytesB_len _ _
  have l0 : (DM.new 20).S.length = 20 := by simp [DM.new]
  have l1 : ((DM.new 20).write 0 b7).S.length = 20 := by rw [write_len, l0]
  have l2 : (((DM.new 20).write 0 b7).write 19 b8).S.length = 20 := by rw [write_len, l1]
  refine ⟨DM.flush_ok (DM.write_ok (DM.write_ok (DM.new_ok (by omega) (by omega)) h7) h8), ?_, ?_, by unfold rgD; rw [flush_len, l2], ?_, ?_⟩
  · have := (nf_flush (nf_write (d := (DM.new 20).write 0 b7) (k := 19) (b := b8) (nf_write (d := DM.new 20) (k := 0) (b := b7) rfl).2).2).1
    unfold rgD
    rw [this, (nf_write (nf_write (d := DM.new 20) (k := 0) (b := b7) rfl).2).1, (nf_write (d := DM.new 20) (k := 0) (b := b7) rfl).1]
    rfl
  · exact (nf_flush (nf_write (nf_write (d := DM.new 20) (k := 0) (b := b7) rfl).2).2).2
  · unfold rgD
    rw [sec_flush _ _ (by omega), sec_write _ _ _ _ (by omega), if_neg (by omega), sec_write _ _ _ _ (by omega), if_pos rfl, lastB_snoc]
  · unfold rgD
    rw [sec_flush _ _ (by omega), sec_write _ _ _ _ (by omega), if_pos rfl, lastB_snoc]
theorem fmt_moved (f n : Nat) (d : DM) (hon : d.on = true) (hf : d.fuse = 0) (hfit : f + n ≤ d.S.length) (h4 : 4 ≤ n) (hok : d.Ok 0) : Moved f n d (fmtR f n d).2.2 := by
  obtain ⟨e1, e2, e3, e4, e5⟩ := fmtR_on f n d hon hf
  rw [e3]
  have h0 : Moved f n d d := Moved.refl hok
  have h1 := (h0.write (f + 1) (desB 1 128) (by omega) (desB_len _ _) (by omega)).flush
  exact (h1.write f (desB 2 128) (by have := h1.len; omega) (desB_len _ _) (by omega)).flush
/-- the disk with both logs -/
def rgA : DM := (fmtR 1 9 rgD).2.2
def rgB : DM := (fmtR 10 9 rgA).2.2
theorem rg1 : (fmtR 1 9 rgD).1 = 0 ∧ (fmtR 1 9 rgD).2.1 = mFresh 1 9 ∧ rgA.on = true ∧ rgA.fuse = 0 ∧ rgA.S.length = 20 ∧ rgA.Ok 0 ∧ GA 1 9 rgA 2 128 [] ∧ sec rgA 0 = [b7] ∧ sec rgA 19 = [b8] := by
  obtain ⟨o, p, f, l, s0, s1⟩ := rg0
  obtain ⟨a, b, c, d, e, g⟩ := fmt_fine 1 9 rgD p f (by omega) (by omega) (by omega) o
  have hm := fmt_moved 1 9 rgD p f (by omega) (by omega) o
  exact ⟨a, b, d, e, g.trans l, c.ok, c.ga, hm.one (.inl (by omega)) s0, hm.one (.inr (by omega)) s1⟩
theorem rg2 : (fmtR 10 9 rgA).1 = 0 ∧ (fmtR 10 9 rgA).2.1 = mFresh 10 9 ∧ rgB.on = true ∧ rgB.S.length = 20 ∧ Past 1 20 9 (mFresh 1 9) rgB false ∧ Past 10 20 9 (mFresh 10 9) rgB false ∧ Fine (mFresh 1 9) rgB ∧ Fine (mFresh 10 9) rgB ∧ sec rgB 0 = [b7] ∧ sec rgB 19 = [b8] := by
  obtain ⟨-, -, p, f, l, o, ga, s0, s1⟩ := rg1
  obtain ⟨a, b, c, d, e, g⟩ := fmt_fine 10 9 rgA p f (by omega) (by omega) (by omega) o
  have hm := fmt_moved 10 9 rgA p f (by omega) (by omega) o
  have hl : rgB.S.length = 20 := g.trans l
  have hF : Fine (mFresh 1 9) rgB := ⟨⟨by show 4 ≤ 9; omega, by show 9 ≤ 200; omega⟩, Nat.le_refl _, rfl, by show takR [] + 128 ≤ 64 * 9; simp [takR], (fun r hr => by cases hr), ga.moved (by omega) hm (by omega), c.ok⟩
  exact ⟨a, b, d, hl, hF.past (FR := 1) (DS := 20) (n := 9) rfl rfl hl ⟨by omega, by omega⟩ ⟨by omega, by omega⟩ false, c.past (FR := 10) (DS := 20) (n := 9) rfl rfl hl ⟨by omega, by omega⟩ ⟨by omega, by omega⟩ false, hF, c, hm.one (.inl (by omega)) s0, hm.one (.inr (by omega)) s1⟩
theorem sec_cut {d : DM} {k : Nat} {l : List UInt8} (hk : k < d.S.length) (h : sec d k = [l]) (ts : List TM) : ∃ hk2 : k < (cutD d ts).S.length, lastB (cutD d ts).S[k] = l := by
  have hk2 : k < (cutD d ts).S.length := by rw [cutD_len]; exact hk
  refine ⟨hk2, ?_⟩
  obtain ⟨b, b1, b2⟩ := sec_restart (d.setFuse 0) ts k (by rw [setFuse_S]; exact hk)
  have : sec (d.setFuse 0) k = [l] := by unfold sec at h ⊢; rw [setFuse_S]; exact h
  rw [this] at b2
  have hb := poss_one b2
  have h3 : sec (cutD d ts) k = [b] := b1
  rw [sec_eq hk2] at h3
  rw [h3, hb]
  rfl
/-- what the law's loop keeps -/
def RL (gpa gla gpb glb g : Nat) (va : Value) (ma : LM) (ra : Bool) (vb : Value) (mb : LM) (rb : Bool) (d : DM) : List Obj := PL gpa g gla 9 va ma d ra [pastO gpb g glb 9 vb mb.syn rb, recsO vb mb.recs, logO glb g mb]
structure Both (ma mb : LM) (ra rb : Bool) (d : DM) : Prop where
  a : Past 1 20 9 ma d ra
  b : Past 10 20 9 mb d rb
  s0 : sec d 0 = [b7]
  s1 : sec d 19 = [b8]
theorem Both.fuse {ma mb : LM} {d : DM} (h : Both ma mb false false d) (ha : Fine ma d) (hb : Fine mb d) (k : Int) (hk : k ≤ 9223372036854775807) : Both ma mb false false (d.setFuse k) :=
  ⟨h.a.fused ha k hk false, h.b.fused hb k hk false, by have := h.s0; unfold sec at this ⊢; rw [setFuse_S]; exact this, by have := h.s1; unfold sec at this ⊢; rw [setFuse_S]; exact this⟩
theorem Both.one {ma mb m' : LM} {ra rb r' : Bool} {d d' : DM} (h : Both ma mb ra rb d) (hon : d.on = true) (hp : Past 1 20 9 m' d' r') (hm : Moved 1 9 d d') : Both m' mb r' rb d' :=
  ⟨hp, h.b.moved hon hm (.inr (by omega)) (fun ho => (hp.live ho).ok), hm.one (.inl (by omega)) h.s0, hm.one (.inr (by omega)) h.s1⟩
theorem Both.two {ma mb m' : LM} {ra rb r' : Bool} {d d' : DM} (h : Both ma mb ra rb d) (hon : d.on = true) (hp : Past 10 20 9 m' d' r') (hm : Moved 10 9 d d') : Both ma m' ra r' d' :=
  ⟨h.a.moved hon hm (.inl (by omega)) (fun ho => (hp.live ho).ok), hp, hm.one (.inl (by omega)) h.s0, hm.one (.inr (by omega)) h.s1⟩
set_option maxRecDepth 100000 in
set_option maxHeartbeats 32000000 in
theorem walregions_any (aa : Option Addr) (an ac : Nat) (ms : List AM) (ba : Option Addr) (bn bc : Nat) (bl : List Bool) (fu : Int) (ta : Option Addr) (tn tc : Nat) (tl : List Int) (w : World) (hA : Acts (Old w) w aa an ac ms) (hB : Bls (Old w) w ba bn bc bl) (u1 : -9223372036854775808 ≤ fu) (u2 : fu ≤ 9223372036854775807) (hI : Is (Old w) w ta tn tc tl) (hl64 : Ok64 tl) :
    Calls Try.prog 8 #[.slice aa an ac, .slice ba bn bc, .int .i64 fu, .slice ta tn tc] w fun e w' => e = .returned (.bool true) ∧ Below w.heap.size w w' := by
  obtain ⟨K, hK, hK2⟩ := around_nat fu 80 (by omega)
  have HAR : Hid (∀ u, Calls Try.prog 9 #[.int .i64 fu, .int .i64 80] u fun e w' => e = .returned (.int .i64 (K : Int)) ∧ u = w') := Lib.hid (fun u => by rw [← hK]; exact around_any fu 80 u u1 u2 (by omega) (by omega))
  have HA := Lib.hid hA
  have HMS := Lib.hid hA.1
  have HB := Lib.hid hB
  have HBL := Lib.hid hB.1
  have hac : an ≤ ac := hA.2.1.2.1
  have ham : ac ≤ 9223372036854775807 := hA.2.1.2.2.1
  have hbc : bn ≤ bc := hB.2.2.1
  have hbm : bc ≤ 9223372036854775807 := hB.2.2.2.1
  have HTN : Hid (∀ u, Below w.heap.size w u → Is (Old w) u ta tn tc tl) := Lib.hid (fun u hu => hI.kept (Kept.of_below (fun x => w.heap.size ≤ x) hu) (fun x hx ho h => by have : x < w.heap.size := ho; omega))
  have H64 := Lib.hid hl64
  have HTO : Hid (∀ u L, Lv w u L → Calls Try.prog 25 #[.slice ta tn tc, .int .i64 20] u fun x w' => ∃ v ts, x = .returned v ∧ Lv w w' (tornO v ts :: L)) := Lib.hid (fun u L hl => (torn_any (Old w) ta tn tc tl 20 u (HTN.out u hl.args) H64.out (by omega) (by omega)).mono (fun e w' ⟨v, ts, he, _, hlv⟩ => ⟨v, ts, he, hl.onto hlv⟩))
  have HBY : Hid (∀ u (s : Int), (s = 7 ∨ s = 8) → Calls Try.prog 31 #[.int .i64 64, .int .i64 s] u fun e w' => ∃ v, e = .returned v ∧ Made u v (bytesB 64 s) w') := Lib.hid (fun u s hs => bytes1_any 64 s u (by omega) (by omega) (by omega))
  have HL0 := Lib.hid (Lv.refl w)
  have hb1 := run_buildP
  clear hA hB hI hl64 hK
  go_enter Try.func8, Try.ntmps8
  go_upto_region 2 with (have x1 := HL0.out; go_at_call 10; refine (made4_lv x1 20 (by omega) (by omega)).mono ?_; rintro e w1 ⟨g, rfl, hl⟩; have HL1 := Lib.hid hl; clear hl x1 HL0)
  go_upto_region 4 with (first
    | (have x1 := HL1.out; go_at_call 31; refine (HBY.out _ 7 (.inl rfl)).mono ?_; rintro e w2 ⟨v2, rfl, hm⟩; have hl2 := x1.made hm; obtain ⟨ba2, bc2, rfl, hbb⟩ := hm.bs; rw [show (bytesB 64 7).length = 64 from bytesB_len _ _] at hbb hl2 ⊢; have HL2 := Lib.hid hl2; have HBB := Lib.hid hbb; clear hm hl2 hbb x1 HL1)
    | (have x1 := HL2.out; go_at_call 33; refine (write_lv x1 (i := 1) (d := DM.new 20) rfl HBB.out 0 (show 0 < (DM.new 20).S.length by simp [DM.new]) rfl ((DM.new_ok (by omega) (by omega)).mono (by omega))).mono ?_; rintro e w3 ⟨rfl, hl3⟩; have HL3 : Hid (Lv w w3 [diskO g ((DM.new 20).write 0 b7)]) := Lib.hid hl3.tail; clear hl3 x1 HL2 HBB)
    | (have x1 := HL3.out; go_at_call 31; refine (HBY.out _ 8 (.inr rfl)).mono ?_; rintro e w4 ⟨v4, rfl, hm⟩; have hl4 := x1.made hm; obtain ⟨ba4, bc4, rfl, hbb⟩ := hm.bs; rw [show (bytesB 64 8).length = 64 from bytesB_len _ _] at hbb hl4 ⊢; have HL4 := Lib.hid hl4; have HBB4 := Lib.hid hbb; clear hm hl4 hbb x1 HL3)
    | (have x1 := HL4.out; go_at_call 33; refine (write_lv x1 (i := 1) (d := (DM.new 20).write 0 b7) rfl HBB4.out 19 (by rw [write_len]; simp [DM.new]) (nf_write (d := DM.new 20) (k := 0) (b := b7) rfl).1 ((DM.write_ok (DM.new_ok (by omega) (by omega)) (bytesB_len _ _)).mono (by omega))).mono ?_; rintro e w5 ⟨rfl, hl5⟩; have HL5 : Hid (Lv w w5 [diskO g (((DM.new 20).write 0 b7).write 19 b8)]) := Lib.hid hl5.tail; clear hl5 x1 HL4 HBB4)
    | (have x1 := HL5.out; go_at_call 34; refine (flush_lv x1 (i := 0) (d := ((DM.new 20).write 0 b7).write 19 b8) rfl ((nf_write (nf_write (d := DM.new 20) (k := 0) (b := b7) rfl).2).1.trans (nf_write (d := DM.new 20) (k := 0) (b := b7) rfl).1)).mono ?_; rintro e w6 ⟨rfl, hl6⟩; have HL6 : Hid (Lv w w6 [diskO g rgD]) := Lib.hid hl6; clear hl6 x1 HL5))
  have HFA : Hid (∀ u, Lv w u [diskO g rgD] → Calls Try.prog 11 #[.pointer (some ⟨g, 0, none⟩), .int .i64 1, .int .i64 9] u fun x w' => ∃ gl, x = .returned (.tuple #[.pointer (some ⟨gl, 0, none⟩), .int .i64 0]) ∧ Lv w w' [logO gl g (mFresh 1 9), diskO g rgA]) := Lib.hid (fun u hl => by
    obtain ⟨o, p, f, l, -, -⟩ := rg0
    refine (format_ok hl (j := 0) rfl 1 9 (by omega) (by omega) (by unfold validB; apply decide_eq_true; omega) (o.mono (by omega))).mono ?_
    rintro x w' (⟨-, gl, hx, hl2⟩ | ⟨he, -⟩)
    · rw [rg1.2.1] at hl2; exact ⟨gl, hx, hl2⟩
    · rw [rg1.1] at he; exact absurd he (by omega))
  have HFB : Hid (∀ u gl, Lv w u [logO gl g (mFresh 1 9), diskO g rgA] → Calls Try.prog 11 #[.pointer (some ⟨g, 0, none⟩), .int .i64 10, .int .i64 9] u fun x w' => ∃ gm, x = .returned (.tuple #[.pointer (some ⟨gm, 0, none⟩), .int .i64 0]) ∧ Lv w w' [logO gm g (mFresh 10 9), logO gl g (mFresh 1 9), diskO g rgB]) := Lib.hid (fun u gl hl => by
    obtain ⟨-, -, p, f, l, o, -, -, -⟩ := rg1
    refine (format_ok hl (j := 1) rfl 10 9 (by omega) (by omega) (by unfold validB; apply decide_eq_true; omega) (o.mono (by omega))).mono ?_
    rintro x w' (⟨-, gm, hx, hl2⟩ | ⟨he, -⟩)
    · rw [rg2.2.1] at hl2; exact ⟨gm, hx, hl2⟩
    · rw [rg2.1] at he; exact absurd he (by omega))
  clear HBY
  go_upto_region 8 with (first
    | (have x1 := HL6.out; go_at_call 11; refine (HFA.out _ x1).mono ?_; rintro e w7 ⟨gla, rfl, hl⟩; have HL7a := Lib.hid hl; clear hl x1 HL6)
    | (have x1 := HL7a.out; go_at_call 11; refine (HFB.out _ _ x1).mono ?_; rintro e w8 ⟨glb, rfl, hl⟩; have HL8 := Lib.hid hl; clear hl x1 HL7a))
  clear HFA HFB
  go_upto_region 9 with fail
  obtain ⟨w9, hw9⟩ : ∃ w9, w9 = w8.alloc (.cells #[.pointer (some ⟨g, 0, none⟩), .pointer (some ⟨gla, 0, none⟩), .int .i64 9, .slice none 0 0, .int .i64 0, .bool false] 54) := ⟨_, rfl⟩
  obtain ⟨gpa, hgpa⟩ : ∃ gpa, gpa = w8.heap.size := ⟨_, rfl⟩
  have HL9 : Hid (Lv w w9 [pastO gpa g gla 9 (.slice none 0 0) 0 false, logO glb g (mFresh 10 9), logO gla g (mFresh 1 9), diskO g rgB]) := Lib.hid (by
    rw [hw9]
    exact HL8.out.cons ((Below.refl _ _).alloc (Nat.le_refl _) _) (B := fun x => x = gpa) ⟨heap_new hgpa, rfl⟩ (fun x hx => by subst hx; rw [hgpa]; exact ⟨Nat.le_refl _, by rw [size_alloc1]; omega⟩))
  rw [← hw9, ← hgpa]
  clear hw9 hgpa HL8
  go_upto_region 10 with fail
  obtain ⟨w10, hw10⟩ : ∃ w10, w10 = w9.alloc (.cells #[.pointer (some ⟨g, 0, none⟩), .pointer (some ⟨glb, 0, none⟩), .int .i64 9, .slice none 0 0, .int .i64 0, .bool false] 54) := ⟨_, rfl⟩
  obtain ⟨gpb, hgpb⟩ : ∃ gpb, gpb = w9.heap.size := ⟨_, rfl⟩
  have HL10 : Hid (Lv w w10 (RL gpa gla gpb glb g (.slice none 0 0) (mFresh 1 9) false (.slice none 0 0) (mFresh 10 9) false rgB)) := Lib.hid (by
    rw [hw10]
    have := (HL9.out.cons ((Below.refl _ _).alloc (Nat.le_refl _) _) (B := fun x => x = gpb) (o := pastO gpb g glb 9 (.slice none 0 0) 0 false) ⟨heap_new hgpb, rfl⟩ (fun x hx => by subst hx; rw [hgpb]; exact ⟨Nat.le_refl _, by rw [size_alloc1]; omega⟩)).recs0.recs0
    exact this.pick (RL gpa gla gpb glb g (.slice none 0 0) (mFresh 1 9) false (.slice none 0 0) (mFresh 10 9) false rgB) (fun i => if i = 0 then 3 else if i = 1 then 0 else if i = 2 then 5 else if i = 3 then 6 else if i = 4 then 2 else if i = 5 then 1 else 4) (fun i j hi hj => by
      have hi : i < 7 := hi
      have hj : j < 7 := hj
      have hi3 : i = 0 ∨ i = 1 ∨ i = 2 ∨ i = 3 ∨ i = 4 ∨ i = 5 ∨ i = 6 := by omega
      have hj3 : j = 0 ∨ j = 1 ∨ j = 2 ∨ j = 3 ∨ j = 4 ∨ j = 5 ∨ j = 6 := by omega
      rcases hi3 with rfl | rfl | rfl | rfl | rfl | rfl | rfl <;> rcases hj3 with rfl | rfl | rfl | rfl | rfl | rfl | rfl <;> simp) (fun i hi => by
      have hi : i < 7 := hi
      have hi3 : i = 0 ∨ i = 1 ∨ i = 2 ∨ i = 3 ∨ i = 4 ∨ i = 5 ∨ i = 6 := by omega
      rcases hi3 with rfl | rfl | rfl | rfl | rfl | rfl | rfl <;> rfl))
  rw [← hw10, ← hgpb]
  have HBO : Hid (Both (mFresh 1 9) (mFresh 10 9) false false (rgB.setFuse (K : Int))) := Lib.hid (by
    obtain ⟨-, -, -, -, a, b, fa, fb, c, d⟩ := rg2
    exact Both.fuse ⟨a, b, c, d⟩ fa fb _ (by omega))
  clear hw10 hgpb HL9 hb1
  go_upto_region 11 with (first
    | (go_at_call 9; refine (HAR.out _).mono ?_; rintro e w11 ⟨rfl, rfl⟩)
    | (have x1 := HL10.out; go_at_call 21; refine (fuse_lv x1 (i := 3) (d := rgB) rfl (K : Int) (by omega) (by omega)).mono ?_; rintro e w12 ⟨rfl, hl⟩; have HL12 : Hid (Lv w w12 (RL gpa gla gpb glb g (.slice none 0 0) (mFresh 1 9) false (.slice none 0 0) (mFresh 10 9) false (rgB.setFuse (K : Int)))) := Lib.hid hl; clear hl x1 HL10))
  go_upto_block 0 with fail
  go_cut [16] from 29 (fun u wx => ∃ (i : Nat) (va : Value) (ma : LM) (ra : Bool) (vb : Value) (mb : LM) (rb : Bool) (d : DM), u = .int .i64 (i : Int) ∧ Both ma mb ra rb d ∧ Lv w wx (RL gpa gla gpb glb g va ma ra vb mb rb d))
  case first =>
    go_wp2_with fail
    go_loopw [16, 17] (fun t u17 wr => ∃ (i : Nat) (va : Value) (ma : LM) (ra : Bool) (vb : Value) (mb : LM) (rb : Bool) (d : DM), i ≤ 20 ∧ t = .int .i64 (i : Int) ∧ Both ma mb ra rb d ∧ Lv w wr (RL gpa gla gpb glb g va ma ra vb mb rb d)) (fun t _ _ => 20 - (intOf t).toNat)
    case atStart => exact ⟨0, _, _, false, _, _, false, _, Nat.zero_le _, rfl, HBO.out, HL12.out⟩
    case round =>
      clear HL12 HBO
      obtain ⟨i, va, ma, ra, vb, mb, rb, d, hi, rfl, hBo, hL⟩ := hrel
      have HBO := Lib.hid hBo
      have HL := Lib.hid hL
      clear hBo hL
      by_cases hia : i < an
      · have hia2 : (i : Int) < (an : Int) := by omega
        by_cases hi20 : i < 20
        · have hi202 : (i : Int) < 20 := by omega
          by_cases hon : d.on = true
          · have hwi : IntKind.i64.wrap ((i : Int) + 1) = (i : Int) + 1 := i64_id _ (by omega) (by omega)
            have him : i < ms.length := by rw [HMS.out]; exact hia
            obtain ⟨mo, hmo⟩ : ∃ mo, mo = ms[i]'him := ⟨_, rfl⟩
            have hbw := HL.out.args
            obtain ⟨b, off, -, hbs, rfl, hcell⟩ := (HA.out.kept (Kept.of_below (fun _ => False) hbw) (fun _ _ _ h => h)).at (by omega)
            have hr := hcell i him
            have hmk := (HA.out.kept (Kept.of_below (fun _ => False) hbw) (fun _ _ _ h => h)).2.2 mo (by rw [hmo]; exact List.getElem_mem _)
            rw [← hmo] at hr
            obtain ⟨ob, hob⟩ : ∃ ob, ob = off + i * 3 := ⟨_, rfl⟩
            rw [← hob] at hr
            have hob2 : off + i * 3 = ob := hob.symm
            have ld0 := run_loadAct hr
            have HMK := Lib.hid hmk
            have HON := Lib.hid hon
            clear hcell hr hmk hmo hob hon hia him
            by_cases hib : i < bn
            · have hib2 : (i : Int) < (bn : Int) := by omega
              have him2 : i < bl.length := by rw [HBL.out]; exact hib
              obtain ⟨bo, hbo⟩ : ∃ bo, bo = bl[i]'him2 := ⟨_, rfl⟩
              obtain ⟨b2, off2, -, hbs2, rfl, hcell2⟩ := (HB.out.kept (Kept.of_below (fun _ => False) hbw) (fun _ _ _ h => h)).cells (by omega)
              have c2 := hcell2 i him2
              rw [← hbo] at c2
              clear hcell2 hbo him2 hib hbw
              cases bo with
              | true =>
                go_wp2_with (first
                  | (go_at_call 35; refine (on_lv HL.out (i := 3) (d := d) rfl).mono ?_; rintro e w3 ⟨rfl, rfl⟩; rw [HON.out])
                  | (have x1 := Lv.sides HL.out; go_at_call 26; refine (act_lv (OT := [pastO gpa g gla 9 va ma.syn ra, recsO va ma.recs, logO gla g ma]) x1 HBO.out.b HON.out _ mo HMK.out).mono ?_; rintro e w4 ⟨rfl, v', m', d', r', hP', hmv, -, hl'⟩; have HB4 := Lib.hid (HBO.out.two HON.out hP' hmv); have HL4 : Hid (Lv w w4 (RL gpa gla gpb glb g va ma ra v' m' r' d')) := Lib.hid (Lv.sides hl'); clear hP' hmv hl' x1 HL))
                go_roundw
                case rel => exact ⟨i + 1, va, ma, ra, v', m', r', d', by omega, by go_num, HB4.out, HL4.out⟩
                case measure => simp [intOf]; omega
              | false =>
                go_wp2_with (first
                  | (go_at_call 35; refine (on_lv HL.out (i := 3) (d := d) rfl).mono ?_; rintro e w3 ⟨rfl, rfl⟩; rw [HON.out])
                  | (have x1 := HL.out; go_at_call 26; refine (act_lv (OT := [pastO gpb g glb 9 vb mb.syn rb, recsO vb mb.recs, logO glb g mb]) x1 HBO.out.a HON.out _ mo HMK.out).mono ?_; rintro e w4 ⟨rfl, v', m', d', r', hP', hmv, -, hl'⟩; have HB4 := Lib.hid (HBO.out.one HON.out hP' hmv); have HL4 : Hid (Lv w w4 (RL gpa gla gpb glb g v' m' r' vb mb rb d')) := Lib.hid hl'; clear hP' hmv hl' x1 HL))
                go_roundw
                case rel => exact ⟨i + 1, v', m', r', vb, mb, rb, d', by omega, by go_num, HB4.out, HL4.out⟩
                case measure => simp [intOf]; omega
            · have hib2 : (bn : Int) ≤ (i : Int) := by omega
              clear hib hbw
              go_wp2_with (first
                | (go_at_call 35; refine (on_lv HL.out (i := 3) (d := d) rfl).mono ?_; rintro e w3 ⟨rfl, rfl⟩; rw [HON.out])
                | (have x1 := HL.out; go_at_call 26; refine (act_lv (OT := [pastO gpb g glb 9 vb mb.syn rb, recsO vb mb.recs, logO glb g mb]) x1 HBO.out.a HON.out _ mo HMK.out).mono ?_; rintro e w4 ⟨rfl, v', m', d', r', hP', hmv, -, hl'⟩; have HB4 := Lib.hid (HBO.out.one HON.out hP' hmv); have HL4 : Hid (Lv w w4 (RL gpa gla gpb glb g v' m' r' vb mb rb d')) := Lib.hid hl'; clear hP' hmv hl' x1 HL))
              go_roundw
              case rel => exact ⟨i + 1, v', m', r', vb, mb, rb, d', by omega, by go_num, HB4.out, HL4.out⟩
              case measure => simp [intOf]; omega
          · have hon2 : d.on = false := by simpa using hon
            have HON := Lib.hid hon2
            clear hon hon2
            go_wp2_with (go_at_call 35; refine (on_lv HL.out (i := 3) (d := d) rfl).mono ?_; rintro e w3 ⟨rfl, rfl⟩; rw [HON.out])
            go_meet
            exact ⟨i, va, ma, ra, vb, mb, rb, d, rfl, HBO.out, HL.out⟩
        · have hi202 : (20 : Int) ≤ (i : Int) := by omega
          go_wp2_with fail
          go_meet
          exact ⟨i, va, ma, ra, vb, mb, rb, d, rfl, HBO.out, HL.out⟩
      · have hia2 : (an : Int) ≤ (i : Int) := by omega
        go_wp2_with fail
        go_meet
        exact ⟨i, va, ma, ra, vb, mb, rb, d, rfl, HBO.out, HL.out⟩
  case rest =>
    obtain ⟨i, va, ma, ra, vb, mb, rb, d, rfl, hBo, hL⟩ := hcut
    clear HL12 HBO HA HMS hac ham HB HBL hbc hbm HAR
    rename World => w13
    have HL := Lib.hid hL
    have HBO := Lib.hid hBo
    clear hL hBo
    go_upto_region 21 with (first
      | (have x1 := HL.out; go_at_call 21; refine (fuse_lv x1 (i := 3) (d := d) rfl 0 (by omega) (by omega)).mono ?_; rintro e w6 ⟨rfl, hl6⟩; have HL6 : Hid (Lv w w6 (RL gpa gla gpb glb g va ma ra vb mb rb (d.setFuse 0))) := Lib.hid hl6; clear hl6 x1 HL)
      | (have x1 := HL6.out; go_at_call 25; refine (HTO.out _ _ x1).mono ?_; rintro e w7 ⟨tv, ts, rfl, hl7⟩; have HL7 := Lib.hid hl7; clear hl7 x1 HL6)
      | (have x1 := HL7.out; go_at_call 28; obtain ⟨BT, ⟨ta2, tc2, htv, hTS⟩, -, -, -⟩ := HL7.out.get (i := 0) (o := tornO tv ts) rfl; subst htv; refine (restart_lv x1 (i := 4) (d := d.setFuse 0) rfl hTS (.inr ⟨0, _, by omega, rfl, rfl⟩)).mono ?_; rintro e w8 ⟨rfl, hl8⟩; have HL8 : Hid (Lv w w8 (RL gpa gla gpb glb g va ma ra vb mb rb (cutD d ts))) := Lib.hid hl8.tail; clear hl8 hTS x1 HL7))
    obtain ⟨r1, e1, rsa, hga1, hca⟩ := HBO.out.a.crash ts
    obtain ⟨r2, e2, rsb, hga2, hcb⟩ := HBO.out.b.crash ts
    have HGA1 := Lib.hid hga1
    have HGA2 := Lib.hid hga2
    have HCA := Lib.hid hca
    have HCB := Lib.hid hcb
    have HRA : Hid (rsa.length ≤ 100000 ∧ (∀ q ∈ rsa, q.length ≤ 1000000)) := Lib.hid (by
      have h1 := hga1.en
      have h2 := hga1.room
      obtain ⟨b1, b2, b3⟩ := lenB_facts rsa
      exact ⟨by omega, fun q hq => by have := b1 q hq; omega⟩)
    have HRB : Hid (rsb.length ≤ 100000 ∧ (∀ q ∈ rsb, q.length ≤ 1000000)) := Lib.hid (by
      have h1 := hga2.en
      have h2 := hga2.room
      obtain ⟨b1, b2, b3⟩ := lenB_facts rsb
      exact ⟨by omega, fun q hq => by have := b1 q hq; omega⟩)
    have HS0 := Lib.hid (sec_cut (by rw [HBO.out.a.len]; omega) HBO.out.s0 ts)
    have HS1 := Lib.hid (sec_cut (by rw [HBO.out.a.len]; omega) HBO.out.s1 ts)
    have HBA := Lib.hid HBO.out.a.bd
    have HBB := Lib.hid HBO.out.b.bd
    have HSA := Lib.hid HBO.out.a.syn
    have HSB := Lib.hid HBO.out.b.syn
    clear hga1 hga2 hca hcb HTO
    obtain ⟨dc, hdc⟩ : ∃ dc, dc = cutD d ts := ⟨_, rfl⟩
    rw [← hdc] at HL8 HGA1 HGA2 HS0 HS1
    have HDO : Hid (dc.on = true) := Lib.hid (by rw [hdc]; rfl)
    clear hdc HBO
    obtain ⟨_, aR1, c1, hv1, hrd1⟩ := HL8.out.recsR (i := 1) rfl
    subst hv1
    obtain ⟨_, aR2, c2, hv2, hrd2⟩ := HL8.out.recsR (i := 5) rfl
    subst hv2
    have ha1c := hrd1.2.1
    have ha1m := hrd1.2.2.1
    have ha2c := hrd2.2.1
    have ha2m := hrd2.2.2.1
    clear hrd1 hrd2
    go_upto_region 23 with (first
      | (have x1 := HL8.out; go_at_call 18; refine (open_ga x1 (j := 3) (d := dc) rfl HGA1.out (by omega) (by omega) (by omega) HDO.out).mono ?_; rintro e w9 ⟨gx, rfl, hl9⟩; have HL9 := Lib.hid hl9; clear hl9 x1 HL8)
      | (have x1 := HL9.out; go_at_call 18; refine (open_ga x1 (j := 4) (d := dc) rfl HGA2.out (by omega) (by omega) (by omega) HDO.out).mono ?_; rintro e w10 ⟨gy, rfl, hl10⟩; have HL10 := Lib.hid hl10; clear hl10 x1 HL9))
    go_upto_region 25 with fail
    obtain ⟨LST, hLST⟩ : ∃ LST, LST = logO gy g (mOpen 10 9 r2 rsb) :: logO gx g (mOpen 1 9 r1 rsa) :: RL gpa gla gpb glb g (.slice aR1 ma.recs.length c1) ma ra (.slice aR2 mb.recs.length c2) mb rb dc := ⟨_, rfl⟩
    have HL7 : Hid (Lv w w10 LST) := Lib.hid (by rw [hLST]; exact HL10.out)
    have HLST := Lib.hid hLST
    clear hLST HL10 HGA1 HGA2
    go_cut [22] from 29 (fun u wx => u = .bool true ∧ Lv w wx LST)
    case first =>
      have HPA : Hid (∀ u, Lv w u LST → u.cell? ⟨gpa, 4, none⟩ = some (.int .i64 (ma.syn : Int)) ∧ u.cell? ⟨gpa, 3, none⟩ = some (.slice aR1 ma.recs.length c1) ∧ u.cell? ⟨gpa, 5, none⟩ = some (.bool ra)) := Lib.hid (fun u hl => by rw [HLST.out] at hl; have := hl.pastF (i := 2) rfl; exact ⟨this.2.2.2.2.2.1, this.2.2.2.2.1, this.2.2.2.2.2.2⟩)
      have HBET : Hid (∀ u a9 c9, Lv w u (recsO (.slice a9 rsa.length c9) rsa :: LST) → Calls Try.prog 36 #[.slice a9 rsa.length c9, .int .i64 (ma.syn : Int), .slice aR1 ma.recs.length c1] u fun x w' => x = .returned (.bool (decide (ma.syn ≤ rsa.length ∧ rsa.length ≤ ma.recs.length) && (rsa == ma.recs.take rsa.length))) ∧ Below u.heap.size u w') := Lib.hid (fun u a9 c9 hl => by
        rw [HLST.out] at hl
        obtain ⟨D9, a8, c8, hv9, hrd9⟩ := hl.recsR (i := 0) rfl
        obtain ⟨D8, a7, c7, hv8, hrd8⟩ := hl.recsR (i := 4) rfl
        cases hv9
        cases hv8
        have h1 := HRA.out.1
        have h2 := HBA.out.1
        have h3 := HSA.out
        exact between_any _ _ _ _ _ _ _ _ _ _ _ hrd9 hrd8 (by omega) (by omega))
      have HRC : Hid (∀ u L, Lv w u (L ++ LST) → Calls Try.prog 27 #[.pointer (some ⟨gx, 0, none⟩)] u fun x w' => ∃ a9 c9, x = .returned (.slice a9 rsa.length c9) ∧ Lv w w' (recsO (.slice a9 rsa.length c9) rsa :: (L ++ LST))) := Lib.hid (fun u L hl => by
        have hg : (L ++ LST)[L.length + 1]? = some (logO gx g (mOpen 1 9 r1 rsa)) := by rw [List.getElem?_append_right (by omega), show L.length + 1 - L.length = 1 by omega, HLST.out]; rfl
        exact records_lv hl hg HRA.out.1 HRA.out.2)
      obtain ⟨rn, hrn⟩ : ∃ rn, rn = rsa.length := ⟨_, rfl⟩
      obtain ⟨rs, hrs⟩ : ∃ rs, rs = rsa := ⟨_, rfl⟩
      rw [← hrn] at HBET HRC
      rw [← hrs] at HBET HRC hrn
      have HRN := Lib.hid hrn
      have HCX := HCA
      rw [← hrs] at HCX
      have HPX := HPA
      have HPC : Hid (∀ u, Lv w u LST → u.cell? ⟨gpa, 4, none⟩ = some (.int .i64 (ma.syn : Int)) ∧ u.cell? ⟨gpa, 3, none⟩ = some (.slice aR1 ma.recs.length c1)) := Lib.hid (fun u hl => ⟨(HPA.out u hl).1, (HPA.out u hl).2.1⟩)
      have HRC2 := HRC
      have HRC : Hid (∀ u, Lv w u LST → Calls Try.prog 27 #[.pointer (some ⟨gx, 0, none⟩)] u fun x w' => ∃ a9 c9, x = .returned (.slice a9 rn c9) ∧ Lv w w' (recsO (.slice a9 rn c9) rs :: LST)) := Lib.hid (fun u hl => HRC2.out u [] hl)
      clear hrn hrs HPA HRC2
      refine Roll.region_x 10 230 DofR25 LofR25 [(14, .pointer (some ⟨gpa, 0, none⟩)), (18, .pointer (some ⟨gx, 0, none⟩))] 1 [true, false, true, true, true, true, true, true, true, true] (fun p => Lv w p LST) (fun vv p => ∃ a9 c9, vv = .slice a9 rn c9 ∧ Lv w p (recsO (.slice a9 rn c9) rs :: LST)) (fun p => p.cell? ⟨gpa, 4, none⟩ = some (.int .i64 (ma.syn : Int)) ∧ p.cell? ⟨gpa, 3, none⟩ = some (.slice aR1 ma.recs.length c1)) (fun _ _ => True) [fun vv p => (vv 0) = .pointer (some ⟨gx, 0, none⟩), fun vv p => ∃ x, (vv 1) = x, fun vv p => (vv 2) = .pointer (some ⟨gpa, 0, none⟩), fun vv p => (vv 3) = .pointer (some ⟨gpa, 0, none⟩), fun vv p => (vv 4) = .pointer (some ⟨gpa, 4, none⟩), fun vv p => (vv 5) = .int .i64 (ma.syn : Int), fun vv p => (vv 6) = .pointer (some ⟨gpa, 0, none⟩), fun vv p => (vv 7) = .pointer (some ⟨gpa, 0, none⟩), fun vv p => (vv 8) = .pointer (some ⟨gpa, 3, none⟩), fun vv p => (vv 9) = .slice aR1 ma.recs.length c1] (by kernel_rfl) (by kernel_rfl) rfl ⟨rfl, rfl, trivial⟩ (HL7.out.below (Below.refl _ _).drew) (by decide) (by kernel_rfl) (fun p hp => HPC.out p hp) (fun u p hp => by obtain ⟨a9, c9, -, hl⟩ := hp; exact HPC.out p hl.tail) (fun _ => trivial) ?_ ?_ ?_
      · exact ⟨fun _ _ _ _ h => h, fun _ _ _ _ h => h, fun _ _ _ _ h => h, fun _ _ _ _ h => h, fun _ _ _ _ h => h, fun _ _ _ _ h => h, fun _ _ _ _ h => h, fun _ _ _ _ h => h, fun _ _ _ _ h => h, fun _ _ _ _ h => h, trivial⟩
      · intro b0 hN hlv
        refine ⟨?_, ?_, ?_, ?_, ?_, ?_, ?_, ?_, ?_, ?_, trivial⟩
        · intro vs p hI0 hp
          have hI := Roll.inw_pure (by decide) rfl hI0
          clear hI0
          have e18 : (Roll.putD DofR25 vs [] b0).eval (.tmp 18) = .pointer (some ⟨gx, 0, none⟩) := (Roll.eval_old rfl).trans (hlv.at 1 (18, .pointer (some ⟨gx, 0, none⟩)) rfl)
          clear hp hlv hN
          unfold Roll.Goes
          simp only [LofR25, List.getD_cons_zero, List.getD_cons_succ]
          generalize Roll.putD DofR25 vs [] b0 = a1 at *
          refine Roll.goes_val (w' := p) (.pointer (some ⟨gx, 0, none⟩)) rfl ?_ ⟨(Roll.outw_pure (by decide) rfl), rfl⟩
          (have ec : ∀ x, a1.eval (.const x) = x := fun _ => rfl); (have ef : ∀ x, a1.eval (.func x) = .func (.func x) #[] #[] := fun _ => rfl); generalize a1.eval = ρ at *
          skip
          go_simp <;> (intros; first | (exfalso; omega) | rfl)
        · intro vs p hI0 hp
          have hI := Roll.inw_k0 rfl hI0
          clear hI0
          have h0 : (vs 0) = .pointer (some ⟨gx, 0, none⟩) := hp 0 (by simp [LofR25])
          have e148 : (Roll.putD DofR25 vs [0] b0).eval (.tmp 148) = .pointer (some ⟨gx, 0, none⟩) := (Roll.eval_new 0 rfl (by decide) (by decide) (by omega)).trans h0
          clear hp hlv hN
          unfold Roll.Goes
          simp only [LofR25, List.getD_cons_zero, List.getD_cons_succ]
          generalize Roll.putD DofR25 vs [0] b0 = a1 at *
          refine Roll.goes_call 27 #[.pointer (some ⟨gx, 0, none⟩)] p rfl (by have ec : ∀ x, a1.eval (.const x) = x := fun _ => rfl; have ef : ∀ x, a1.eval (.func x) = .func (.func x) #[] #[] := fun _ => rfl; generalize a1.eval = ρ at *; go_simp) ?_
          refine (HRC.out p hI).mono ?_
          rintro y p2 ⟨a9, c9, rfl, hl⟩
          exact ⟨_, rfl, Roll.outw_k0 rfl ⟨a9, c9, rfl, hl⟩ trivial, _, rfl⟩
        · intro vs p hI0 hp
          have hI := Roll.inw_pure (by decide) rfl hI0
          clear hI0
          have e14 : (Roll.putD DofR25 vs [] b0).eval (.tmp 14) = .pointer (some ⟨gpa, 0, none⟩) := (Roll.eval_old rfl).trans (hlv.at 0 (14, .pointer (some ⟨gpa, 0, none⟩)) rfl)
          clear hp hlv hN
          unfold Roll.Goes
          simp only [LofR25, List.getD_cons_zero, List.getD_cons_succ]
          generalize Roll.putD DofR25 vs [] b0 = a1 at *
          refine Roll.goes_val (w' := p) (.pointer (some ⟨gpa, 0, none⟩)) rfl ?_ ⟨(Roll.outw_pure (by decide) rfl), rfl⟩
          (have ec : ∀ x, a1.eval (.const x) = x := fun _ => rfl); (have ef : ∀ x, a1.eval (.func x) = .func (.func x) #[] #[] := fun _ => rfl); generalize a1.eval = ρ at *
          skip
          go_simp <;> (intros; first | (exfalso; omega) | rfl)
        · intro vs p hI0 hp
          have hI := Roll.inw_pure (by decide) rfl hI0
          clear hI0
          have h2 : (vs 2) = .pointer (some ⟨gpa, 0, none⟩) := hp 2 (by simp [LofR25])
          have e150 : (Roll.putD DofR25 vs [2] b0).eval (.tmp 150) = .pointer (some ⟨gpa, 0, none⟩) := (Roll.eval_new 2 rfl (by decide) (by decide) (by omega)).trans h2
          clear hp hlv hN
          unfold Roll.Goes
          simp only [LofR25, List.getD_cons_zero, List.getD_cons_succ]
          generalize Roll.putD DofR25 vs [2] b0 = a1 at *
          refine Roll.goes_val (w' := p) (.pointer (some ⟨gpa, 0, none⟩)) rfl ?_ ⟨(Roll.outw_pure (by decide) rfl), rfl⟩
          (have ec : ∀ x, a1.eval (.const x) = x := fun _ => rfl); (have ef : ∀ x, a1.eval (.func x) = .func (.func x) #[] #[] := fun _ => rfl); generalize a1.eval = ρ at *
          clear h2
          go_simp <;> (intros; first | (exfalso; omega) | rfl)
        · intro vs p hI0 hp
          have hI := Roll.inw_pure (by decide) rfl hI0
          clear hI0
          have h3 : (vs 3) = .pointer (some ⟨gpa, 0, none⟩) := hp 3 (by simp [LofR25])
          have e151 : (Roll.putD DofR25 vs [3] b0).eval (.tmp 151) = .pointer (some ⟨gpa, 0, none⟩) := (Roll.eval_new 3 rfl (by decide) (by decide) (by omega)).trans h3
          clear hp hlv hN
          unfold Roll.Goes
          simp only [LofR25, List.getD_cons_zero, List.getD_cons_succ]
          generalize Roll.putD DofR25 vs [3] b0 = a1 at *
          refine Roll.goes_val (w' := p) (.pointer (some ⟨gpa, 4, none⟩)) rfl ?_ ⟨(Roll.outw_pure (by decide) rfl), rfl⟩
          (have ec : ∀ x, a1.eval (.const x) = x := fun _ => rfl); (have ef : ∀ x, a1.eval (.func x) = .func (.func x) #[] #[] := fun _ => rfl); generalize a1.eval = ρ at *
          clear h3
          go_simp <;> (intros; first | (exfalso; omega) | rfl)
        · intro vs p hI0 hp
          have hI := Roll.inw_pure (by decide) rfl hI0
          clear hI0
          have h4 : (vs 4) = .pointer (some ⟨gpa, 4, none⟩) := hp 4 (by simp [LofR25])
          have e152 : (Roll.putD DofR25 vs [4] b0).eval (.tmp 152) = .pointer (some ⟨gpa, 4, none⟩) := (Roll.eval_new 4 rfl (by decide) (by decide) (by omega)).trans h4
          clear hp hlv hN
          unfold Roll.Goes
          simp only [LofR25, List.getD_cons_zero, List.getD_cons_succ]
          generalize Roll.putD DofR25 vs [4] b0 = a1 at *
          have cf := hI.1
          refine Roll.goes_val (w' := p) (.int .i64 (ma.syn : Int)) rfl ?_ ⟨(Roll.outw_pure (by decide) rfl), rfl⟩
          (have ec : ∀ x, a1.eval (.const x) = x := fun _ => rfl); (have ef : ∀ x, a1.eval (.func x) = .func (.func x) #[] #[] := fun _ => rfl); generalize a1.eval = ρ at *
          go_simp <;> (intros; first | (exfalso; omega) | rfl)
        · intro vs p hI0 hp
          have hI := Roll.inw_pure (by decide) rfl hI0
          clear hI0
          have e14 : (Roll.putD DofR25 vs [] b0).eval (.tmp 14) = .pointer (some ⟨gpa, 0, none⟩) := (Roll.eval_old rfl).trans (hlv.at 0 (14, .pointer (some ⟨gpa, 0, none⟩)) rfl)
          clear hp hlv hN
          unfold Roll.Goes
          simp only [LofR25, List.getD_cons_zero, List.getD_cons_succ]
          generalize Roll.putD DofR25 vs [] b0 = a1 at *
          refine Roll.goes_val (w' := p) (.pointer (some ⟨gpa, 0, none⟩)) rfl ?_ ⟨(Roll.outw_pure (by decide) rfl), rfl⟩
          (have ec : ∀ x, a1.eval (.const x) = x := fun _ => rfl); (have ef : ∀ x, a1.eval (.func x) = .func (.func x) #[] #[] := fun _ => rfl); generalize a1.eval = ρ at *
          skip
          go_simp <;> (intros; first | (exfalso; omega) | rfl)
        · intro vs p hI0 hp
          have hI := Roll.inw_pure (by decide) rfl hI0
          clear hI0
          have h6 : (vs 6) = .pointer (some ⟨gpa, 0, none⟩) := hp 6 (by simp [LofR25])
          have e154 : (Roll.putD DofR25 vs [6] b0).eval (.tmp 154) = .pointer (some ⟨gpa, 0, none⟩) := (Roll.eval_new 6 rfl (by decide) (by decide) (by omega)).trans h6
          clear hp hlv hN
          unfold Roll.Goes
          simp only [LofR25, List.getD_cons_zero, List.getD_cons_succ]
          generalize Roll.putD DofR25 vs [6] b0 = a1 at *
          refine Roll.goes_val (w' := p) (.pointer (some ⟨gpa, 0, none⟩)) rfl ?_ ⟨(Roll.outw_pure (by decide) rfl), rfl⟩
          (have ec : ∀ x, a1.eval (.const x) = x := fun _ => rfl); (have ef : ∀ x, a1.eval (.func x) = .func (.func x) #[] #[] := fun _ => rfl); generalize a1.eval = ρ at *
          clear h6
          go_simp <;> (intros; first | (exfalso; omega) | rfl)
        · intro vs p hI0 hp
          have hI := Roll.inw_pure (by decide) rfl hI0
          clear hI0
          have h7 : (vs 7) = .pointer (some ⟨gpa, 0, none⟩) := hp 7 (by simp [LofR25])
          have e155 : (Roll.putD DofR25 vs [7] b0).eval (.tmp 155) = .pointer (some ⟨gpa, 0, none⟩) := (Roll.eval_new 7 rfl (by decide) (by decide) (by omega)).trans h7
          clear hp hlv hN
          unfold Roll.Goes
          simp only [LofR25, List.getD_cons_zero, List.getD_cons_succ]
          generalize Roll.putD DofR25 vs [7] b0 = a1 at *
          refine Roll.goes_val (w' := p) (.pointer (some ⟨gpa, 3, none⟩)) rfl ?_ ⟨(Roll.outw_pure (by decide) rfl), rfl⟩
          (have ec : ∀ x, a1.eval (.const x) = x := fun _ => rfl); (have ef : ∀ x, a1.eval (.func x) = .func (.func x) #[] #[] := fun _ => rfl); generalize a1.eval = ρ at *
          clear h7
          go_simp <;> (intros; first | (exfalso; omega) | rfl)
        · intro vs p hI0 hp
          have hI := Roll.inw_pure (by decide) rfl hI0
          clear hI0
          have h8 : (vs 8) = .pointer (some ⟨gpa, 3, none⟩) := hp 8 (by simp [LofR25])
          have e156 : (Roll.putD DofR25 vs [8] b0).eval (.tmp 156) = .pointer (some ⟨gpa, 3, none⟩) := (Roll.eval_new 8 rfl (by decide) (by decide) (by omega)).trans h8
          clear hp hlv hN
          unfold Roll.Goes
          simp only [LofR25, List.getD_cons_zero, List.getD_cons_succ]
          generalize Roll.putD DofR25 vs [8] b0 = a1 at *
          have cf := hI.2
          refine Roll.goes_val (w' := p) (.slice aR1 ma.recs.length c1) rfl ?_ ⟨(Roll.outw_pure (by decide) rfl), rfl⟩
          (have ec : ∀ x, a1.eval (.const x) = x := fun _ => rfl); (have ef : ∀ x, a1.eval (.func x) = .func (.func x) #[] #[] := fun _ => rfl); generalize a1.eval = ρ at *
          go_simp <;> (intros; first | (exfalso; omega) | rfl)
      · intro vs p hI hR
        have h0 : (vs 0) = .pointer (some ⟨gx, 0, none⟩) := hR 0 (by omega)
        have h1 : ∃ x, (vs 1) = x := hR 1 (by omega)
        have h2 : (vs 2) = .pointer (some ⟨gpa, 0, none⟩) := hR 2 (by omega)
        have h3 : (vs 3) = .pointer (some ⟨gpa, 0, none⟩) := hR 3 (by omega)
        have h4 : (vs 4) = .pointer (some ⟨gpa, 4, none⟩) := hR 4 (by omega)
        have h5 : (vs 5) = .int .i64 (ma.syn : Int) := hR 5 (by omega)
        have h6 : (vs 6) = .pointer (some ⟨gpa, 0, none⟩) := hR 6 (by omega)
        have h7 : (vs 7) = .pointer (some ⟨gpa, 0, none⟩) := hR 7 (by omega)
        have h8 : (vs 8) = .pointer (some ⟨gpa, 3, none⟩) := hR 8 (by omega)
        have h9 : (vs 9) = .slice aR1 ma.recs.length c1 := hR 9 (by omega)
        clear hR
        simp only [List.range_succ, List.range_zero, List.nil_append, List.cons_append, Roll.putD, Act.put, List.getD_cons_zero, List.getD_cons_succ, List.setIfInBounds_toArray, List.set_cons_zero, List.set_cons_succ, List.drop_succ_cons, List.drop_zero, DofR25]
        simp only [h0, h2, h3, h4, h5, h6, h7, h8, h9]
        clear h0 h2 h3 h4 h5 h6 h7 h8 h9
        clear h1
        generalize vs 1 = v1 at *
        obtain ⟨a9, c9, rfl, hl9⟩ := hI
        have HL9 := Lib.hid hl9
        have c5 := (HPX.out p hl9.tail).2.2
        have HBT := Lib.hid (HBET.out p a9 c9 hl9)
        obtain ⟨B, hB⟩ : ∃ B, B = (decide (ma.syn ≤ rn ∧ rn ≤ ma.recs.length) && (rs == ma.recs.take rn)) := ⟨_, rfl⟩
        rw [← hB] at HBT
        have hcase : B = true ∨ (B = false ∧ ra = true ∧ rn = 0) := by
          have hcx := HCX.out
          rw [← HRN.out] at hcx
          rcases hcx with ⟨z1, z2, z3⟩ | ⟨z1, z2⟩
          · left
            rw [hB, decide_eq_true ⟨z1, z2⟩, Bool.true_and]
            exact beq_iff_eq.2 z3
          · rcases Bool.eq_false_or_eq_true B with e | e
            · exact .inl e
            · exact .inr ⟨e, z1, by rw [HRN.out, z2]; rfl⟩
        clear hl9 hB HL7 HBET
        rcases hcase with rfl | ⟨rfl, hr1, hr2⟩
        · go_wp2_with (have x1 := HBT; go_at_call 36; refine HBT.out.mono ?_; rintro e w20 ⟨rfl, hb⟩; have HLX := Lib.hid (HL9.out.below hb).tail; clear hb x1 HBT HL9)
          go_meet
          exact ⟨rfl, HLX.out⟩
        · subst hr1
          have hr3 : ((rn : Int) == 0) = true := by rw [hr2]; rfl
          clear hr2
          go_wp2_with (first
            | (have x1 := HBT; go_at_call 36; refine HBT.out.mono ?_; rintro e w20 ⟨rfl, hb⟩; have HLX := Lib.hid (HL9.out.below hb).tail; have c6 := (HPX.out w20 HLX.out).2.2; clear hb x1 HBT HL9 c5)
            | (have x1 := HLX.out; go_at_call 27; refine (HRC.out w20 x1).mono ?_; rintro e w21 ⟨a21, c21, rfl, hl21⟩; have HLY := Lib.hid hl21.tail; clear hl21 x1 HLX))
          go_meet
          exact ⟨rfl, HLY.out⟩
    case rest =>
      obtain ⟨rfl, hl7⟩ := hcut
      have HL7b := Lib.hid hl7
      clear hl7 HL7
      rename World => w11
      have HL7 := HL7b
      clear HL7b
      go_upto_region 26 with fail
      go_cut [23] from 29 (fun u wx => u = .bool true ∧ Lv w wx LST)
      case first =>
        have HPA : Hid (∀ u, Lv w u LST → u.cell? ⟨gpb, 4, none⟩ = some (.int .i64 (mb.syn : Int)) ∧ u.cell? ⟨gpb, 3, none⟩ = some (.slice aR2 mb.recs.length c2) ∧ u.cell? ⟨gpb, 5, none⟩ = some (.bool rb)) := Lib.hid (fun u hl => by rw [HLST.out] at hl; have := hl.pastF (i := 6) rfl; exact ⟨this.2.2.2.2.2.1, this.2.2.2.2.1, this.2.2.2.2.2.2⟩)
        have HBET : Hid (∀ u a9 c9, Lv w u (recsO (.slice a9 rsb.length c9) rsb :: LST) → Calls Try.prog 36 #[.slice a9 rsb.length c9, .int .i64 (mb.syn : Int), .slice aR2 mb.recs.length c2] u fun x w' => x = .returned (.bool (decide (mb.syn ≤ rsb.length ∧ rsb.length ≤ mb.recs.length) && (rsb == mb.recs.take rsb.length))) ∧ Below u.heap.size u w') := Lib.hid (fun u a9 c9 hl => by
          rw [HLST.out] at hl
          obtain ⟨D9, a8, c8, hv9, hrd9⟩ := hl.recsR (i := 0) rfl
          obtain ⟨D8, a7, c7, hv8, hrd8⟩ := hl.recsR (i := 8) rfl
          cases hv9
          cases hv8
          have h1 := HRB.out.1
          have h2 := HBB.out.1
          have h3 := HSB.out
          exact between_any _ _ _ _ _ _ _ _ _ _ _ hrd9 hrd8 (by omega) (by omega))
        have HRC : Hid (∀ u L, Lv w u (L ++ LST) → Calls Try.prog 27 #[.pointer (some ⟨gy, 0, none⟩)] u fun x w' => ∃ a9 c9, x = .returned (.slice a9 rsb.length c9) ∧ Lv w w' (recsO (.slice a9 rsb.length c9) rsb :: (L ++ LST))) := Lib.hid (fun u L hl => by
          have hg : (L ++ LST)[L.length]? = some (logO gy g (mOpen 10 9 r2 rsb)) := by rw [List.getElem?_append_right (by omega), show L.length - L.length = 0 by omega, HLST.out]; rfl
          exact records_lv hl hg HRB.out.1 HRB.out.2)
        obtain ⟨rn, hrn⟩ : ∃ rn, rn = rsb.length := ⟨_, rfl⟩
        obtain ⟨rs, hrs⟩ : ∃ rs, rs = rsb := ⟨_, rfl⟩
        rw [← hrn] at HBET HRC
        rw [← hrs] at HBET HRC hrn
        have HRN := Lib.hid hrn
        have HCX := HCB
        rw [← hrs] at HCX
        have HPX := HPA
        have HPC : Hid (∀ u, Lv w u LST → u.cell? ⟨gpb, 4, none⟩ = some (.int .i64 (mb.syn : Int)) ∧ u.cell? ⟨gpb, 3, none⟩ = some (.slice aR2 mb.recs.length c2)) := Lib.hid (fun u hl => ⟨(HPA.out u hl).1, (HPA.out u hl).2.1⟩)
        have HRC2 := HRC
        have HRC : Hid (∀ u, Lv w u LST → Calls Try.prog 27 #[.pointer (some ⟨gy, 0, none⟩)] u fun x w' => ∃ a9 c9, x = .returned (.slice a9 rn c9) ∧ Lv w w' (recsO (.slice a9 rn c9) rs :: LST)) := Lib.hid (fun u hl => HRC2.out u [] hl)
        clear hrn hrs HPA HRC2
        refine Roll.region_x 10 230 DofR26 LofR26 [(15, .pointer (some ⟨gpb, 0, none⟩)), (20, .pointer (some ⟨gy, 0, none⟩))] 1 [true, false, true, true, true, true, true, true, true, true] (fun p => Lv w p LST) (fun vv p => ∃ a9 c9, vv = .slice a9 rn c9 ∧ Lv w p (recsO (.slice a9 rn c9) rs :: LST)) (fun p => p.cell? ⟨gpb, 4, none⟩ = some (.int .i64 (mb.syn : Int)) ∧ p.cell? ⟨gpb, 3, none⟩ = some (.slice aR2 mb.recs.length c2)) (fun _ _ => True) [fun vv p => (vv 0) = .pointer (some ⟨gy, 0, none⟩), fun vv p => ∃ x, (vv 1) = x, fun vv p => (vv 2) = .pointer (some ⟨gpb, 0, none⟩), fun vv p => (vv 3) = .pointer (some ⟨gpb, 0, none⟩), fun vv p => (vv 4) = .pointer (some ⟨gpb, 4, none⟩), fun vv p => (vv 5) = .int .i64 (mb.syn : Int), fun vv p => (vv 6) = .pointer (some ⟨gpb, 0, none⟩), fun vv p => (vv 7) = .pointer (some ⟨gpb, 0, none⟩), fun vv p => (vv 8) = .pointer (some ⟨gpb, 3, none⟩), fun vv p => (vv 9) = .slice aR2 mb.recs.length c2] (by kernel_rfl) (by kernel_rfl) rfl ⟨rfl, rfl, trivial⟩ (HL7.out.below (Below.refl _ _).drew) (by decide) (by kernel_rfl) (fun p hp => HPC.out p hp) (fun u p hp => by obtain ⟨a9, c9, -, hl⟩ := hp; exact HPC.out p hl.tail) (fun _ => trivial) ?_ ?_ ?_
        · exact ⟨fun _ _ _ _ h => h, fun _ _ _ _ h => h, fun _ _ _ _ h => h, fun _ _ _ _ h => h, fun _ _ _ _ h => h, fun _ _ _ _ h => h, fun _ _ _ _ h => h, fun _ _ _ _ h => h, fun _ _ _ _ h => h, fun _ _ _ _ h => h, trivial⟩
        · intro b0 hN hlv
          refine ⟨?_, ?_, ?_, ?_, ?_, ?_, ?_, ?_, ?_, ?_, trivial⟩
          · intro vs p hI0 hp
            have hI := Roll.inw_pure (by decide) rfl hI0
            clear hI0
            have e20 : (Roll.putD DofR26 vs [] b0).eval (.tmp 20) = .pointer (some ⟨gy, 0, none⟩) := (Roll.eval_old rfl).trans (hlv.at 1 (20, .pointer (some ⟨gy, 0, none⟩)) rfl)
            clear hp hlv hN
            unfold Roll.Goes
            simp only [LofR26, List.getD_cons_zero, List.getD_cons_succ]
            generalize Roll.putD DofR26 vs [] b0 = a1 at *
            refine Roll.goes_val (w' := p) (.pointer (some ⟨gy, 0, none⟩)) rfl ?_ ⟨(Roll.outw_pure (by decide) rfl), rfl⟩
            (have ec : ∀ x, a1.eval (.const x) = x := fun _ => rfl); (have ef : ∀ x, a1.eval (.func x) = .func (.func x) #[] #[] := fun _ => rfl); generalize a1.eval = ρ at *
            skip
            go_simp <;> (intros; first | (exfalso; omega) | rfl)
          · intro vs p hI0 hp
            have hI := Roll.inw_k0 rfl hI0
            clear hI0
            have h0 : (vs 0) = .pointer (some ⟨gy, 0, none⟩) := hp 0 (by simp [LofR26])
            have e171 : (Roll.putD DofR26 vs [0] b0).eval (.tmp 171) = .pointer (some ⟨gy, 0, none⟩) := (Roll.eval_new 0 rfl (by decide) (by decide) (by omega)).trans h0
            clear hp hlv hN
            unfold Roll.Goes
            simp only [LofR26, List.getD_cons_zero, List.getD_cons_succ]
            generalize Roll.putD DofR26 vs [0] b0 = a1 at *
            refine Roll.goes_call 27 #[.pointer (some ⟨gy, 0, none⟩)] p rfl (by have ec : ∀ x, a1.eval (.const x) = x := fun _ => rfl; have ef : ∀ x, a1.eval (.func x) = .func (.func x) #[] #[] := fun _ => rfl; generalize a1.eval = ρ at *; go_simp) ?_
            refine (HRC.out p hI).mono ?_
            rintro y p2 ⟨a9, c9, rfl, hl⟩
            exact ⟨_, rfl, Roll.outw_k0 rfl ⟨a9, c9, rfl, hl⟩ trivial, _, rfl⟩
          · intro vs p hI0 hp
            have hI := Roll.inw_pure (by decide) rfl hI0
            clear hI0
            have e15 : (Roll.putD DofR26 vs [] b0).eval (.tmp 15) = .pointer (some ⟨gpb, 0, none⟩) := (Roll.eval_old rfl).trans (hlv.at 0 (15, .pointer (some ⟨gpb, 0, none⟩)) rfl)
            clear hp hlv hN
            unfold Roll.Goes
            simp only [LofR26, List.getD_cons_zero, List.getD_cons_succ]
            generalize Roll.putD DofR26 vs [] b0 = a1 at *
            refine Roll.goes_val (w' := p) (.pointer (some ⟨gpb, 0, none⟩)) rfl ?_ ⟨(Roll.outw_pure (by decide) rfl), rfl⟩
            (have ec : ∀ x, a1.eval (.const x) = x := fun _ => rfl); (have ef : ∀ x, a1.eval (.func x) = .func (.func x) #[] #[] := fun _ => rfl); generalize a1.eval = ρ at *
            skip
            go_simp <;> (intros; first | (exfalso; omega) | rfl)
          · intro vs p hI0 hp
            have hI := Roll.inw_pure (by decide) rfl hI0
            clear hI0
            have h2 : (vs 2) = .pointer (some ⟨gpb, 0, none⟩) := hp 2 (by simp [LofR26])
            have e173 : (Roll.putD DofR26 vs [2] b0).eval (.tmp 173) = .pointer (some ⟨gpb, 0, none⟩) := (Roll.eval_new 2 rfl (by decide) (by decide) (by omega)).trans h2
            clear hp hlv hN
            unfold Roll.Goes
            simp only [LofR26, List.getD_cons_zero, List.getD_cons_succ]
            generalize Roll.putD DofR26 vs [2] b0 = a1 at *
            refine Roll.goes_val (w' := p) (.pointer (some ⟨gpb, 0, none⟩)) rfl ?_ ⟨(Roll.outw_pure (by decide) rfl), rfl⟩
            (have ec : ∀ x, a1.eval (.const x) = x := fun _ => rfl); (have ef : ∀ x, a1.eval (.func x) = .func (.func x) #[] #[] := fun _ => rfl); generalize a1.eval = ρ at *
            clear h2
            go_simp <;> (intros; first | (exfalso; omega) | rfl)
          · intro vs p hI0 hp
            have hI := Roll.inw_pure (by decide) rfl hI0
            clear hI0
            have h3 : (vs 3) = .pointer (some ⟨gpb, 0, none⟩) := hp 3 (by simp [LofR26])
            have e174 : (Roll.putD DofR26 vs [3] b0).eval (.tmp 174) = .pointer (some ⟨gpb, 0, none⟩) := (Roll.eval_new 3 rfl (by decide) (by decide) (by omega)).trans h3
            clear hp hlv hN
            unfold Roll.Goes
            simp only [LofR26, List.getD_cons_zero, List.getD_cons_succ]
            generalize Roll.putD DofR26 vs [3] b0 = a1 at *
            refine Roll.goes_val (w' := p) (.pointer (some ⟨gpb, 4, none⟩)) rfl ?_ ⟨(Roll.outw_pure (by decide) rfl), rfl⟩
            (have ec : ∀ x, a1.eval (.const x) = x := fun _ => rfl); (have ef : ∀ x, a1.eval (.func x) = .func (.func x) #[] #[] := fun _ => rfl); generalize a1.eval = ρ at *
            clear h3
            go_simp <;> (intros; first | (exfalso; omega) | rfl)
          · intro vs p hI0 hp
            have hI := Roll.inw_pure (by decide) rfl hI0
            clear hI0
            have h4 : (vs 4) = .pointer (some ⟨gpb, 4, none⟩) := hp 4 (by simp [LofR26])
            have e175 : (Roll.putD DofR26 vs [4] b0).eval (.tmp 175) = .pointer (some ⟨gpb, 4, none⟩) := (Roll.eval_new 4 rfl (by decide) (by decide) (by omega)).trans h4
            clear hp hlv hN
            unfold Roll.Goes
            simp only [LofR26, List.getD_cons_zero, List.getD_cons_succ]
            generalize Roll.putD DofR26 vs [4] b0 = a1 at *
            have cf := hI.1
            refine Roll.goes_val (w' := p) (.int .i64 (mb.syn : Int)) rfl ?_ ⟨(Roll.outw_pure (by decide) rfl), rfl⟩
            (have ec : ∀ x, a1.eval (.const x) = x := fun _ => rfl); (have ef : ∀ x, a1.eval (.func x) = .func (.func x) #[] #[] := fun _ => rfl); generalize a1.eval = ρ at *
            go_simp <;> (intros; first | (exfalso; omega) | rfl)
          · intro vs p hI0 hp
            have hI := Roll.inw_pure (by decide) rfl hI0
            clear hI0
            have e15 : (Roll.putD DofR26 vs [] b0).eval (.tmp 15) = .pointer (some ⟨gpb, 0, none⟩) := (Roll.eval_old rfl).trans (hlv.at 0 (15, .pointer (some ⟨gpb, 0, none⟩)) rfl)
            clear hp hlv hN
            unfold Roll.Goes
            simp only [LofR26, List.getD_cons_zero, List.getD_cons_succ]
            generalize Roll.putD DofR26 vs [] b0 = a1 at *
            refine Roll.goes_val (w' := p) (.pointer (some ⟨gpb, 0, none⟩)) rfl ?_ ⟨(Roll.outw_pure (by decide) rfl), rfl⟩
            (have ec : ∀ x, a1.eval (.const x) = x := fun _ => rfl); (have ef : ∀ x, a1.eval (.func x) = .func (.func x) #[] #[] := fun _ => rfl); generalize a1.eval = ρ at *
            skip
            go_simp <;> (intros; first | (exfalso; omega) | rfl)
          · intro vs p hI0 hp
            have hI := Roll.inw_pure (by decide) rfl hI0
            clear hI0
            have h6 : (vs 6) = .pointer (some ⟨gpb, 0, none⟩) := hp 6 (by simp [LofR26])
            have e177 : (Roll.putD DofR26 vs [6] b0).eval (.tmp 177) = .pointer (some ⟨gpb, 0, none⟩) := (Roll.eval_new 6 rfl (by decide) (by decide) (by omega)).trans h6
            clear hp hlv hN
            unfold Roll.Goes
            simp only [LofR26, List.getD_cons_zero, List.getD_cons_succ]
            generalize Roll.putD DofR26 vs [6] b0 = a1 at *
            refine Roll.goes_val (w' := p) (.pointer (some ⟨gpb, 0, none⟩)) rfl ?_ ⟨(Roll.outw_pure (by decide) rfl), rfl⟩
            (have ec : ∀ x, a1.eval (.const x) = x := fun _ => rfl); (have ef : ∀ x, a1.eval (.func x) = .func (.func x) #[] #[] := fun _ => rfl); generalize a1.eval = ρ at *
            clear h6
            go_simp <;> (intros; first | (exfalso; omega) | rfl)
          · intro vs p hI0 hp
            have hI := Roll.inw_pure (by decide) rfl hI0
            clear hI0
            have h7 : (vs 7) = .pointer (some ⟨gpb, 0, none⟩) := hp 7 (by simp [LofR26])
            have e178 : (Roll.putD DofR26 vs [7] b0).eval (.tmp 178) = .pointer (some ⟨gpb, 0, none⟩) := (Roll.eval_new 7 rfl (by decide) (by decide) (by omega)).trans h7
            clear hp hlv hN
            unfold Roll.Goes
            simp only [LofR26, List.getD_cons_zero, List.getD_cons_succ]
            generalize Roll.putD DofR26 vs [7] b0 = a1 at *
            refine Roll.goes_val (w' := p) (.pointer (some ⟨gpb, 3, none⟩)) rfl ?_ ⟨(Roll.outw_pure (by decide) rfl), rfl⟩
            (have ec : ∀ x, a1.eval (.const x) = x := fun _ => rfl); (have ef : ∀ x, a1.eval (.func x) = .func (.func x) #[] #[] := fun _ => rfl); generalize a1.eval = ρ at *
            clear h7
            go_simp <;> (intros; first | (exfalso; omega) | rfl)
          · intro vs p hI0 hp
            have hI := Roll.inw_pure (by decide) rfl hI0
            clear hI0
            have h8 : (vs 8) = .pointer (some ⟨gpb, 3, none⟩) := hp 8 (by simp [LofR26])
            have e179 : (Roll.putD DofR26 vs [8] b0).eval (.tmp 179) = .pointer (some ⟨gpb, 3, none⟩) := (Roll.eval_new 8 rfl (by decide) (by decide) (by omega)).trans h8
            clear hp hlv hN
            unfold Roll.Goes
            simp only [LofR26, List.getD_cons_zero, List.getD_cons_succ]
            generalize Roll.putD DofR26 vs [8] b0 = a1 at *
            have cf := hI.2
            refine Roll.goes_val (w' := p) (.slice aR2 mb.recs.length c2) rfl ?_ ⟨(Roll.outw_pure (by decide) rfl), rfl⟩
            (have ec : ∀ x, a1.eval (.const x) = x := fun _ => rfl); (have ef : ∀ x, a1.eval (.func x) = .func (.func x) #[] #[] := fun _ => rfl); generalize a1.eval = ρ at *
            go_simp <;> (intros; first | (exfalso; omega) | rfl)
        · intro vs p hI hR
          have h0 : (vs 0) = .pointer (some ⟨gy, 0, none⟩) := hR 0 (by omega)
          have h1 : ∃ x, (vs 1) = x := hR 1 (by omega)
          have h2 : (vs 2) = .pointer (some ⟨gpb, 0, none⟩) := hR 2 (by omega)
          have h3 : (vs 3) = .pointer (some ⟨gpb, 0, none⟩) := hR 3 (by omega)
          have h4 : (vs 4) = .pointer (some ⟨gpb, 4, none⟩) := hR 4 (by omega)
          have h5 : (vs 5) = .int .i64 (mb.syn : Int) := hR 5 (by omega)
          have h6 : (vs 6) = .pointer (some ⟨gpb, 0, none⟩) := hR 6 (by omega)
          have h7 : (vs 7) = .pointer (some ⟨gpb, 0, none⟩) := hR 7 (by omega)
          have h8 : (vs 8) = .pointer (some ⟨gpb, 3, none⟩) := hR 8 (by omega)
          have h9 : (vs 9) = .slice aR2 mb.recs.length c2 := hR 9 (by omega)
          clear hR
          simp only [List.range_succ, List.range_zero, List.nil_append, List.cons_append, Roll.putD, Act.put, List.getD_cons_zero, List.getD_cons_succ, List.setIfInBounds_toArray, List.set_cons_zero, List.set_cons_succ, List.drop_succ_cons, List.drop_zero, DofR26]
          simp only [h0, h2, h3, h4, h5, h6, h7, h8, h9]
          clear h0 h2 h3 h4 h5 h6 h7 h8 h9
          clear h1
          generalize vs 1 = v1 at *
          obtain ⟨a9, c9, rfl, hl9⟩ := hI
          have HL9 := Lib.hid hl9
          have c5 := (HPX.out p hl9.tail).2.2
          have HBT := Lib.hid (HBET.out p a9 c9 hl9)
          obtain ⟨B, hB⟩ : ∃ B, B = (decide (mb.syn ≤ rn ∧ rn ≤ mb.recs.length) && (rs == mb.recs.take rn)) := ⟨_, rfl⟩
          rw [← hB] at HBT
          have hcase : B = true ∨ (B = false ∧ rb = true ∧ rn = 0) := by
            have hcx := HCX.out
            rw [← HRN.out] at hcx
            rcases hcx with ⟨z1, z2, z3⟩ | ⟨z1, z2⟩
            · left
              rw [hB, decide_eq_true ⟨z1, z2⟩, Bool.true_and]
              exact beq_iff_eq.2 z3
            · rcases Bool.eq_false_or_eq_true B with e | e
              · exact .inl e
              · exact .inr ⟨e, z1, by rw [HRN.out, z2]; rfl⟩
          clear hl9 hB HL7 HBET
          rcases hcase with rfl | ⟨rfl, hr1, hr2⟩
          · go_wp2_with (have x1 := HBT; go_at_call 36; refine HBT.out.mono ?_; rintro e w20 ⟨rfl, hb⟩; have HLX := Lib.hid (HL9.out.below hb).tail; clear hb x1 HBT HL9)
            go_meet
            exact ⟨rfl, HLX.out⟩
          · subst hr1
            have hr3 : ((rn : Int) == 0) = true := by rw [hr2]; rfl
            clear hr2
            go_wp2_with (first
              | (have x1 := HBT; go_at_call 36; refine HBT.out.mono ?_; rintro e w20 ⟨rfl, hb⟩; have HLX := Lib.hid (HL9.out.below hb).tail; have c6 := (HPX.out w20 HLX.out).2.2; clear hb x1 HBT HL9 c5)
              | (have x1 := HLX.out; go_at_call 27; refine (HRC.out w20 x1).mono ?_; rintro e w21 ⟨a21, c21, rfl, hl21⟩; have HLY := Lib.hid hl21.tail; clear hl21 x1 HLX))
            go_meet
            exact ⟨rfl, HLY.out⟩
      case rest =>
        obtain ⟨rfl, hl7⟩ := hcut
        have HL7b := Lib.hid hl7
        clear hl7 HL7
        rename World => w12
        have HL7 : Hid (Lv w w12 (logO gy g (mOpen 10 9 r2 rsb) :: logO gx g (mOpen 1 9 r1 rsa) :: RL gpa gla gpb glb g (.slice aR1 ma.recs.length c1) ma ra (.slice aR2 mb.recs.length c2) mb rb dc)) := Lib.hid (by rw [← HLST.out]; exact HL7b.out)
        clear HL7b HLST
        obtain ⟨hk0, hb0⟩ := HS0.out
        obtain ⟨hk1, hb1⟩ := HS1.out
        have HB0 := Lib.hid hb0
        have HB1 := Lib.hid hb1
        have HK0 := Lib.hid hk0
        have HK1 := Lib.hid hk1
        have HBY : Hid (∀ u (s : Int), (s = 7 ∨ s = 8) → Calls Try.prog 31 #[.int .i64 64, .int .i64 s] u fun e w' => ∃ v, e = .returned v ∧ Made u v (bytesB 64 s) w') := Lib.hid (fun u s hs => bytes1_any 64 s u (by omega) (by omega) (by omega))
        clear hb0 hb1 HS0 HS1
        go_upto_region 29 with (first
          | (have x1 := HL7.out; go_at_call 37; refine (read_lv x1 (i := 5) (d := dc) rfl 0 HK0.out HDO.out).mono ?_; rintro e w13 ⟨v13, rfl, hl13⟩; rw [HB0.out] at hl13; have HL13 := Lib.hid hl13; clear hl13 x1 HL7)
          | (have x1 := HL13.out; go_at_call 37; refine (read_lv x1 (i := 6) (d := dc) rfl 19 HK1.out HDO.out).mono ?_; rintro e w14 ⟨v14, rfl, hl14⟩; rw [HB1.out] at hl14; have HL14 := Lib.hid hl14; clear hl14 x1 HL13))
        obtain ⟨B0, ⟨a14, c14, hv14, hbs14⟩, -, -, -⟩ := HL14.out.get (i := 0) rfl
        obtain ⟨B1, ⟨a13, c13, hv13, hbs13⟩, -, -, -⟩ := HL14.out.get (i := 1) rfl
        subst hv14 hv13
        rw [show b8.length = 64 from bytesB_len _ _, show b7.length = 64 from bytesB_len _ _] at HL14 ⊢
        rw [show b8.length = 64 from bytesB_len _ _] at hbs14
        rw [show b7.length = 64 from bytesB_len _ _] at hbs13
        have HX14 := Lib.hid hbs14
        have HX13 := Lib.hid hbs13
        have HG1 : Hid True := Lib.hid trivial
        clear hbs13 hbs14
        go_wp2_with (first
          | (have x1 := HL14.out; go_at_call 31; refine (HBY.out _ 7 (.inl rfl)).mono ?_; rintro e w15 ⟨v15, rfl, hm⟩; have hl := x1.made hm; obtain ⟨ba5, bc5, rfl, hbb5⟩ := hm.bs; rw [show (bytesB 64 7).length = 64 from bytesB_len _ _] at hbb5 hl ⊢; have HBB5 := Lib.hid hbb5; have HL15 := Lib.hid hl; have HG2 := HG1.out; clear hm hbb5 hl x1 HL14)
          | (have x1 := HG2; go_at_call 38; obtain ⟨BX, ⟨ax, cx, hvx, hbx⟩, -, -, -⟩ := HL15.out.get (i := 2) rfl; rw [show b7.length = 64 from bytesB_len _ _] at hvx hbx; cases hvx; refine (sameBytes_any _ _ _ _ _ _ _ _ _ _ _ hbx HBB5.out).mono ?_; rintro e w16 ⟨rfl, rfl⟩; rw [show (b7 == bytesB 64 7) = true from beq_self_eq_true b7]; have HG3 := x1; clear hbx x1 HG2)
          | (have x1 := HG3; go_at_call 31; refine (HBY.out _ 8 (.inr rfl)).mono ?_; rintro e w17 ⟨v17, rfl, hm⟩; have hl := HL15.out.made hm; obtain ⟨ba7, bc7, rfl, hbb7⟩ := hm.bs; rw [show (bytesB 64 8).length = 64 from bytesB_len _ _] at hbb7 hl ⊢; have HBB7 := Lib.hid hbb7; have HL17 := Lib.hid hl; have HG4 := x1; clear hm hbb7 hl x1 HG3)
          | (have x1 := HG4; go_at_call 38; obtain ⟨BX, ⟨ax, cx, hvx, hbx⟩, -, -, -⟩ := HL17.out.get (i := 2) rfl; rw [show b8.length = 64 from bytesB_len _ _] at hvx hbx; cases hvx; refine (sameBytes_any _ _ _ _ _ _ _ _ _ _ _ hbx HBB7.out).mono ?_; rintro e w18 ⟨rfl, rfl⟩; rw [show (b8 == bytesB 64 8) = true from beq_self_eq_true b8]; have HG5 := x1; clear hbx x1 HG4)
          | (have x1 := HG5; go_at_call 19; refine (lives4_any _).mono ?_; rintro e w19 ⟨rfl, hb⟩; have HZ := Lib.hid (HL17.out.args.trans (hb.mono HL17.out.args.size)); clear hb x1 HG5))
        go_ret
        exact ⟨rfl, HZ.out⟩
end Go.Proofs.Ythffegfcgmhppaa

/-
  What an iterator with cells of its own leaves; the segments of a zone (written by gen_Z2.py).
-/
import Derived.Test.YtcdjilnlmihnhaaDoorZ1
import Derived.Sort.CutIn
namespace Go.Proofs.YtcdjilnlmihnhaaDoor
open Go.RowKit Go.Shelf
set_option linter.unusedSimpArgs false
set_option linter.unusedVariables false
attribute [local go_sem] Oper.semAt_some
attribute [local go_sem ↓] exec_loadShift exec_storeShift exec_loadSeg exec_storeSeg exec_loadZone exec_storeZone
attribute [local go_sem] run_storeShift run_storeSeg run_storeZone
/-- a step of the iterator, or of the loop's own book-keeping: what lay below B lies as it lay, and so do cells that hold neither shifts nor segments -/
structure Stp (B : Nat) (X Y : World) : Prop where
  os : Y.os = X.os
  tape : Y.tape = X.tape
  output : Y.output = X.output
  size : X.heap.size ≤ Y.heap.size
  low : ∀ k, k < B → k < X.heap.size → Y.heap[k]? = X.heap[k]?
  cells : ∀ (k : Nat) (cs : Array Value) (t : TypeId), X.heap[k]? = some (.cells cs t (0, 0)) → t ≠ 38 → t ≠ 58 → Y.heap[k]? = some (.cells cs t (0, 0))
theorem Stp.refl (B : Nat) (X : World) : Stp B X X := ⟨rfl, rfl, rfl, Nat.le_refl _, fun _ _ _ => rfl, fun _ _ _ h _ _ => h⟩
theorem Stp.trans {B : Nat} {X Y Z : World} (h : Stp B X Y) (k : Stp B Y Z) : Stp B X Z :=
  ⟨k.os.trans h.os, k.tape.trans h.tape, k.output.trans h.output, Nat.le_trans h.size k.size, fun i hi hx => (k.low i hi (Nat.lt_of_lt_of_le hx h.size)).trans (h.low i hi hx), fun i cs t hx h1 h2 => k.cells i cs t (h.cells i cs t hx h1 h2) h1 h2⟩
theorem Stp.below {B : Nat} {X Y : World} (h : Below X.heap.size X Y) : Stp B X Y :=
  ⟨h.os, h.tape, h.output, h.size, fun k _ hk => h.block k hk, fun k cs t hx _ _ => (h.block k (Array.getElem?_eq_some_iff.1 hx).1).trans hx⟩
theorem Stp.alloc (B : Nat) (X : World) (o : Obj) : Stp B X (X.alloc o) := .below ((Below.refl _ X).alloc (Nat.le_refl _) _)
theorem Stp.to_below {B : Nat} {X Y : World} (h : Stp B X Y) {n : Nat} (hn : n ≤ B) (hx : n ≤ X.heap.size) : Below n X Y := ⟨h.os, h.tape, h.output, h.size, fun k hk => h.low k (by omega) (by omega)⟩
/-- one block has changed: one that held no cells, or a shift, or a segment -/
theorem Stp.block {B g : Nat} {X Y : World} (hB : B ≤ g) (h1 : Y.os = X.os) (h2 : Y.tape = X.tape) (h3 : Y.output = X.output) (h4 : Y.heap.size = X.heap.size) (h5 : ∀ k, k ≠ g → Y.heap[k]? = X.heap[k]?)
    (hg : ∀ cs t, X.heap[g]? = some (.cells cs t (0, 0)) → t = 38 ∨ t = 58) : Stp B X Y := by
  refine ⟨h1, h2, h3, by omega, fun k hk _ => h5 k (by omega), fun k cs t hx ht1 ht2 => ?_⟩
  by_cases e : k = g
  · subst e
    rcases hg cs t hx with h | h
    · exact absurd h ht1
    · exact absurd h ht2
  · exact (h5 k e).trans hx
theorem Stp.putObj {B l : Nat} {X : World} {o : Obj} (o' : Obj) (hB : B ≤ l) (h : X.heap[l]? = some o) (hc : o.isCells = false) : Stp B X (X.putObj l o') :=
  .block hB rfl rfl rfl (by simp) (fun k hk => World.putObj_heap_other hk) (fun cs t hx => by rw [h] at hx; cases hx; cases hc)
theorem Stp.setRow {B g : Nat} {X : World} {cs0 : Array Value} {t0 : TypeId} (hB : B ≤ g) (h : X.heap[g]? = some (.cells cs0 t0 (0, 0))) (ht : t0 = 38 ∨ t0 = 58) (cs : Array Value) : Stp B X (X.setRow g cs) :=
  .block hB rfl rfl rfl (by simp [World.setRow]) (fun k hk => setRow_other X g k _ hk) (fun cs t hx => by rw [h] at hx; cases hx; exact ht)
theorem Stp.setCell {B g i : Nat} {X : World} {cs0 : Array Value} {t0 : TypeId} (hB : B ≤ g) (h : X.heap[g]? = some (.cells cs0 t0 (0, 0))) (ht : t0 = 38 ∨ t0 = 58) (u : Value) : Stp B X (X.setCell ⟨g, i, none⟩ u) :=
  .block hB rfl rfl rfl (by simp [World.setCell]) (fun k hk => Below.heap_setCell _ _ _ k hk) (fun cs t hx => by rw [h] at hx; cases hx; exact ht)
theorem keeps_block {g : Nat} {X Y : World} (h4 : X.heap.size ≤ Y.heap.size) (h5 : ∀ k, k < X.heap.size → k ≠ g → Y.heap[k]? = X.heap[k]?) {cs : Array Value} {t : TypeId} {z : Nat × Nat} (hg : X.heap[g]? = some (.cells cs t z)) : KeepsOthers X Y := by
  refine ⟨h4, fun k o hk ho => ?_⟩
  by_cases e : k = g
  · subst e
    rw [hg] at hk
    cases hk
    cases ho
  · exact (h5 k (Array.getElem?_eq_some_iff.1 hk).1 e).trans hk
theorem keeps_below {X Y : World} (h : Below X.heap.size X Y) : KeepsOthers X Y := ⟨h.size, fun k o hk _ => (h.block k (Array.getElem?_eq_some_iff.1 hk).1).trans hk⟩
/-- both -/
def It (B : Nat) (X Y : World) : Prop := Stp B X Y ∧ KeepsOthers X Y
theorem It.trans {B : Nat} {X Y Z : World} (h : It B X Y) (k : It B Y Z) : It B X Z := ⟨h.1.trans k.1, h.2.trans k.2⟩
theorem It.below {B : Nat} {X Y : World} (h : Below X.heap.size X Y) : It B X Y := ⟨.below h, keeps_below h⟩
theorem It.setRow {B g : Nat} {X : World} {cs0 : Array Value} {t0 : TypeId} (hB : B ≤ g) (h : X.heap[g]? = some (.cells cs0 t0 (0, 0))) (ht : t0 = 38 ∨ t0 = 58) (cs : Array Value) : It B X (X.setRow g cs) :=
  ⟨.setRow hB h ht cs, keeps_block (by simp [World.setRow]) (fun k _ hk => setRow_other X g k _ hk) h⟩
theorem It.setCell {B g i : Nat} {X : World} {cs0 : Array Value} {t0 : TypeId} (hB : B ≤ g) (h : X.heap[g]? = some (.cells cs0 t0 (0, 0))) (ht : t0 = 38 ∨ t0 = 58) (u : Value) : It B X (X.setCell ⟨g, i, none⟩ u) :=
  ⟨.setCell hB h ht u, KeepsOthers.setCell _ _ _⟩
/-- what the iterator reads: the zone's box, the slice of its shifts -/
structure ZI (n₀ : Nat) (w : World) (bz : Nat) (o : Int) (a : Option Addr) (n c : Nat) (L : List SM) : Prop where
  hz : w.heap[bz]? = some (.cells #[.int .i64 o, .slice a n c] 25 (0, 0))
  hs : Ss (fun b => b < n₀) w a n c L
theorem ZI.kz {n₀ : Nat} {w w' : World} {bz : Nat} {o : Int} {a : Option Addr} {n c : Nat} {L : List SM} (h : ZI n₀ w bz o a n c L) (hk : KZ n₀ w w') : ZI n₀ w' bz o a n c L :=
  ⟨hk.2 _ _ _ (.inr (.inr rfl)) h.hz, h.hs.kept (S := fun b => n₀ ≤ b) ⟨hk.1.os, hk.1.tape, hk.1.output, hk.1.size, fun b hb hs => hk.1.block b (by omega)⟩ (fun b _ hb e => by omega)⟩
theorem ZI.stp {n₀ B : Nat} {w w' : World} {bz : Nat} {o : Int} {a : Option Addr} {n c : Nat} {L : List SM} (h : ZI n₀ w bz o a n c L) (hk : Stp B w w') (hB : n₀ ≤ B) : ZI n₀ w' bz o a n c L :=
  ⟨hk.cells _ _ _ h.hz (by decide) (by decide), h.hs.kept (S := fun b => n₀ ≤ b) ⟨hk.os, hk.tape, hk.output, hk.size, fun b hb hs => hk.low b (by omega) hb⟩ (fun b _ hb e => by omega)⟩
set_option maxRecDepth 100000 in
theorem segments_any {w : World} (o : Int) (a : Option Addr) (n c : Nat) :
    Calls Tryd.prog 22 #[zV o a n c] w fun e w' => e = .returned (.func (.func 31) #[] #[.pointer (some ⟨w.heap.size, 0, none⟩)]) ∧ w' = w.alloc (.cells #[.int .i64 o, .slice a n c] 25) := by
  unfold zV
  go_enter Tryd.func22, Tryd.ntmps22
  go_wp2
  go_ret
  exact ⟨rfl, rfl⟩
theorem heap_newZ {w : World} {o : Obj} : (w.alloc o).heap[w.heap.size]? = some o := by rw [heap_alloc_if, if_pos rfl]
theorem segL_nil (f o : Int) : segL f o [] = [⟨f, maxI, o⟩] := rfl
theorem segL_cons (f o : Int) (s : SM) (l : List SM) : segL f o (s :: l) = ⟨f, s.t, o⟩ :: segL s.t s.o l := rfl
theorem run_bldSeg (f o : Int) (W : World) : (Instr.build 58 #[(0, .int .i64 f), (2, .int .i64 o)]).run Tryd.prog W = .ok (.agg #[.int .i64 f, .int .i64 0, .int .i64 o]) W := by kernel_rfl
set_option maxRecDepth 100000 in
set_option maxHeartbeats 4000000 in
theorem segs_in (n l n₀ B bz : Nat) (o : Int) (a : Option Addr) (nn c : Nat) (L : List SM) (J Jx : List SgM → World → Prop) (W : World) (hI : ZI n₀ W bz o a nn c L) (hn₀ : n₀ ≤ B) (hBW : B ≤ W.heap.size)
    (hJ : ∀ s X Y, J s X → It B X Y → J s Y)
    (hY : ∀ pre x W1, J pre W1 → pre ++ [x] <+: segL minI o L → YieldAt Fence.wide (n - 1) Tryd.prog l #[segV x] W1 fun e W' => (e = .returned (.bool true) ∧ J (pre ++ [x]) W' ∧ KZ n₀ W1 W') ∨ (e = .returned (.bool false) ∧ Jx (pre ++ [x]) W'))
    (h0 : J [] W) :
    CallsIn Fence.wide n Tryd.prog 31 #[.func (.yield l) #[] #[], .pointer (some ⟨bz, 0, none⟩)] W fun e W' => (∃ v, e = .returned v) ∧ (J (segL minI o L) W' ∨ ∃ pre, pre <+: segL minI o L ∧ Jx pre W') := by
  obtain ⟨F, hF⟩ : ∃ F, F = Fence.wide := ⟨_, rfl⟩
  rw [← hF] at hY ⊢
  have h35 : F.fn 31 := by rw [hF]; trivial
  have hro : F.round = none := by rw [hF]; rfl
  have hdd : ∀ k : Nat, (F.depth.isSome = true → 1 ≤ k) := fun k h => by rw [hF] at h; cases h
  have HF := Lib.hid hF
  have HI := Lib.hid hI
  clear hF
  have c0 : W.cell? ⟨bz, 0, none⟩ = some (.int .i64 o) := cell_of_row W bz 0 _ _ _ hI.hz
  have HY := Lib.hid hY
  have HJ := Lib.hid hJ
  have HJ0 := Lib.hid h0
  have HN0 := Lib.hid hn₀
  have HBW := Lib.hid hBW
  clear hI hY hJ h0 hn₀ hBW
  refine callsIn_of_wp Tryd.func31 rfl h35 ?_ hro
  simp only [Tryd.ntmps31, List.size_toArray, List.length_cons, List.length_nil, Nat.reduceAdd, Nat.reduceSub, Array.replicate_succ, Array.replicate_zero, List.push_toArray, List.append_toArray, List.nil_append, List.cons_append]
  have p0 : SegB (W.alloc (.cells #[.int .i64 0, .int .i64 0, .int .i64 0] 58)) W.heap.size := ⟨_, _, _, heap_newZ⟩
  have b0 := run_bldSeg minI o
  gi_upto_region 1 with fail
  obtain ⟨W1, hW1⟩ : ∃ W1, W1 = (W.alloc (.cells #[.int .i64 0, .int .i64 0, .int .i64 0] 58)).setRow W.heap.size #[.int .i64 (-9223372036854775808), .int .i64 0, .int .i64 o] := ⟨_, rfl⟩
  obtain ⟨bs, hbs⟩ : ∃ bs, bs = W.heap.size := ⟨_, rfl⟩
  have hrow : W1.heap[bs]? = some (.cells #[.int .i64 minI, .int .i64 0, .int .i64 o] 58 (0, 0)) := by rw [hW1, hbs]; exact setRow_heap _ _ _ _ _ _ heap_newZ
  have hit : It B W W1 := by rw [hW1]; exact (It.below ((Below.refl _ W).alloc (Nat.le_refl _) _)).trans (It.setRow HBW.out heap_newZ (.inr rfl) _)
  have HBS : Hid (B ≤ bs) := Lib.hid (by rw [hbs]; exact HBW.out)
  rw [← hW1]
  rw [← hbs]
  have hz1 := HI.out.stp hit.1 HN0.out
  have c1 : W1.cell? ⟨bz, 1, none⟩ = some (.slice a nn c) := cell_of_row W1 bz 1 _ _ _ hz1.hz
  have HROW := Lib.hid hrow
  have HZ1 := Lib.hid hz1
  have HJ1 := Lib.hid (HJ.out _ _ _ HJ0.out hit)
  have HL := Lib.hid hz1.hs.1
  have hnc := hz1.hs.2.2.1
  have hc2 : c ≤ 9223372036854775807 := hz1.hs.2.2.2.1
  clear c0 p0 b0 hW1 hbs hrow hit hz1 HBW HI HJ0
  gi_wp2
  clear c1
  gi_loopw [12] (fun t12 wr => ∃ (done rest : List SM) (pre : List SgM) (i : Nat) (f u o' : Int), t12 = .int .i64 (i : Int) ∧ done.length = i ∧ L = done ++ rest ∧ segL minI o L = pre ++ segL f o' rest ∧ pre.length = i ∧ J pre wr ∧ ZI n₀ wr bz o a nn c L ∧ wr.heap[bs]? = some (.cells (segC ⟨f, u, o'⟩) 58 (0, 0))) (fun t12 _ => nn - (intOf t12).toNat)
  case atStart => exact ⟨[], L, [], 0, minI, 0, o, rfl, rfl, rfl, rfl, rfl, HJ1.out, HZ1.out, HROW.out⟩
  case round =>
    obtain ⟨done, rest, pre, i, f, u, o', rfl, hdl, hLd, hseg, hpl, hJw, hzw, hrw⟩ := hrel
    have HLD := Lib.hid hLd
    have HSEG := Lib.hid hseg
    have HDL := Lib.hid hdl
    have HPL := Lib.hid hpl
    have HJW := Lib.hid hJw
    have HZW := Lib.hid hzw
    have HRW := Lib.hid hrw
    have hll : done.length + rest.length = nn := by rw [← HL.out, HLD.out, List.length_append]
    have hin : i + rest.length = nn := by rw [← HDL.out]; exact hll
    have HLL : Hid (L.length = nn) := HL
    clear hLd hseg hdl hpl hJw hzw hrw hll HJ1 HZ1 HROW
    cases rest with
    | nil =>
      obtain rfl : i = nn := by simpa using hin
      have f1 := frozen_of_row wr bs 1 _ _ HRW.out
      have c2 : wr.cell? ⟨bs, 1, none⟩ = some (.int .i64 u) := cell_of_row wr bs 1 _ _ _ HRW.out
      gi_upto_region 9 with fail
      obtain ⟨W5, hW5⟩ : ∃ W5, W5 = wr.setCell ⟨bs, 1, none⟩ (.int .i64 9223372036854775807) := ⟨_, rfl⟩
      have hr5 : W5.heap[bs]? = some (.cells #[.int .i64 f, .int .i64 9223372036854775807, .int .i64 o'] 58 (0, 0)) := by rw [hW5]; exact heap_setCell_same _ _ _ _ _ _ HRW.out
      have hit : It B wr W5 := by rw [hW5]; exact It.setCell HBS.out HRW.out (.inr rfl) _
      rw [← hW5]
      have ld5 := run_loadSeg hr5
      obtain ⟨fn, tmps, assign, body, hy, hR⟩ := HY.out pre ⟨f, maxI, o'⟩ W5 (HJ.out _ _ _ HJW.out hit) (by rw [HSEG.out, segL_nil]; exact List.prefix_refl _)
      dsimp only [segV, maxI] at hy
      clear f1 c2 hW5 hr5 hit
      gi_wp2
      refine ⟨hdd _, hR.mono ?_⟩
      rintro e W6 (⟨rfl, hJ6, -⟩ | ⟨rfl, hx⟩)
      · gi_wp2
        go_end0
        exact ⟨⟨_, rfl⟩, .inl (by rw [HSEG.out, segL_nil]; exact hJ6)⟩
      · gi_wp2
        go_end0
        exact ⟨⟨_, rfl⟩, .inr ⟨_, (by rw [HSEG.out, segL_nil]; exact List.prefix_refl _), hx⟩⟩
    | cons s rest =>
      have hlt : (i : Int) < (nn : Int) := by simp at hin; omega
      obtain ⟨b, off, hbn, hbl, rfl, hat⟩ := HZW.out.hs.at (by omega)
      have hil : i < L.length := by rw [HLL.out]; omega
      have hLi : L[i]'hil = s := by
        have : L[i]? = some s := by rw [HLD.out, List.getElem?_append_right (by rw [HDL.out]; exact Nat.le_refl _), HDL.out, Nat.sub_self]; rfl
        rw [List.getElem?_eq_getElem hil] at this
        exact Option.some.inj this
      have hr := hat i hil
      rw [hLi] at hr
      obtain ⟨ob, hob⟩ : ∃ ob, ob = off + i * 2 := ⟨_, rfl⟩
      rw [← hob] at hr
      have hob2 : off + i * 2 = ob := hob.symm
      have ld0 := run_loadShiftAt hr
      have p2 : ShiftB (wr.alloc (.cells #[.int .i64 0, .int .i64 0] 38)) wr.heap.size := ⟨_, _, heap_newZ⟩
      clear hat hr hob hLi hin
      gi_upto_region 4 with fail
      obtain ⟨W4, hW4⟩ : ∃ W4, W4 = (wr.alloc (.cells #[.int .i64 0, .int .i64 0] 38)).setRow wr.heap.size #[.int .i64 s.t, .int .i64 s.o] := ⟨_, rfl⟩
      obtain ⟨bn, hbn'⟩ : ∃ bn, bn = wr.heap.size := ⟨_, rfl⟩
      have hrn : W4.heap[bn]? = some (.cells #[.int .i64 s.t, .int .i64 s.o] 38 (0, 0)) := by rw [hW4, hbn']; exact setRow_heap _ _ _ _ _ _ heap_newZ
      have hB4 : Below wr.heap.size wr W4 := by rw [hW4]; exact (((Kept.refl (fun _ => False) wr).alloc _).setRow (fun h => by omega) _).below (Nat.le_refl _) (fun _ _ h => h)
      have hrs : W4.heap[bs]? = some (.cells (segC ⟨f, u, o'⟩) 58 (0, 0)) := (hB4.block bs (heap_lt HRW.out)).trans HRW.out
      have hne : bn ≠ bs := by have := heap_lt HRW.out; omega
      rw [← hW4]
      rw [← hbn']
      have f1 := frozen_of_row W4 bs 1 _ _ hrs
      have c2 : W4.cell? ⟨bs, 1, none⟩ = some (.int .i64 u) := cell_of_row W4 bs 1 _ _ _ hrs
      have c3 : W4.cell? ⟨bn, 0, none⟩ = some (.int .i64 s.t) := cell_of_row W4 bn 0 _ _ _ hrn
      have HB4 := Lib.hid hB4
      have HRN := Lib.hid hrn
      have HRS := Lib.hid hrs
      have HNE := Lib.hid hne
      clear p2 ld0 hW4 hbn' hrn hB4 hrs hne
      gi_upto_region 5 with fail
      obtain ⟨W5, hW5⟩ : ∃ W5, W5 = W4.setCell ⟨bs, 1, none⟩ (.int .i64 s.t) := ⟨_, rfl⟩
      have hr5 : W5.heap[bs]? = some (.cells #[.int .i64 f, .int .i64 s.t, .int .i64 o'] 58 (0, 0)) := by rw [hW5]; exact heap_setCell_same _ _ _ _ _ _ HRS.out
      have hn5 : W5.heap[bn]? = some (.cells #[.int .i64 s.t, .int .i64 s.o] 38 (0, 0)) := by rw [hW5]; exact (heap_setCell_other _ _ _ _ HNE.out).trans HRN.out
      have hit : It B wr W5 := by rw [hW5]; exact (It.below HB4.out).trans (It.setCell HBS.out HRS.out (.inr rfl) _)
      rw [← hW5]
      have ld5 := run_loadSeg hr5
      have HIT := Lib.hid hit
      have HR5 := Lib.hid hr5
      have HN5 := Lib.hid hn5
      obtain ⟨fn, tmps, assign, body, hy, hR⟩ := HY.out pre ⟨f, s.t, o'⟩ W5 (HJ.out _ _ _ HJW.out hit) ⟨segL s.t s.o rest, by rw [HSEG.out, segL_cons]; simp⟩
      dsimp only [segV] at hy
      clear f1 c2 c3 hW5 hr5 hn5 hit HB4 HRN HRS HNE HJW
      gi_wp2
      refine ⟨hdd _, hR.mono ?_⟩
      rintro e W6 (⟨rfl, hJ6, hk6⟩ | ⟨rfl, hx⟩)
      · have h6s := hk6.2 _ _ _ (.inr (.inl rfl)) HR5.out
        have h6n := hk6.2 _ _ _ (.inl rfl) HN5.out
        have c4 : W6.cell? ⟨bn, 0, none⟩ = some (.int .i64 s.t) := cell_of_row W6 bn 0 _ _ _ h6n
        have c5 : W6.cell? ⟨bn, 1, none⟩ = some (.int .i64 s.o) := cell_of_row W6 bn 1 _ _ _ h6n
        have p6 : SegB W6 bs := ⟨_, _, _, h6s⟩
        have b6 := run_bldSeg s.t s.o
        have j1 : IntKind.i64.wrap ((i : Int) + 1) = (i : Int) + 1 := i64_id _ (by omega) (by omega)
        have hz6 := (HZW.out.stp HIT.out.1 HN0.out).kz hk6
        have HZ6 := Lib.hid hz6
        have HJ6 := Lib.hid hJ6
        have H6S := Lib.hid h6s
        clear hz6 hJ6 hk6 h6s h6n hy ld5 HIT HR5 HN5 HZW hR
        gi_wp2
        have hit := It.setRow HBS.out H6S.out (.inr rfl) #[.int .i64 s.t, .int .i64 0, .int .i64 s.o]
        refine ⟨⟨done ++ [s], rest, pre ++ [⟨f, s.t, o'⟩], i + 1, s.t, 0, s.o, by go_num, by rw [List.length_append, HDL.out]; rfl, by rw [HLD.out]; simp, by rw [HSEG.out, segL_cons]; simp, by rw [List.length_append, HPL.out]; rfl, HJ.out _ _ _ HJ6.out hit, HZ6.out.stp hit.1 HN0.out, setRow_heap _ _ _ _ _ _ H6S.out⟩, ?_⟩
        simp [intOf]
        omega
      · gi_wp2
        refine bodyPost_ret (results_none rfl _ _ _) rfl ?_
        exact ⟨⟨_, rfl⟩, .inr ⟨_, ⟨segL s.t s.o rest, (by rw [HSEG.out, segL_cons]; simp)⟩, hx⟩⟩
end Go.Proofs.YtcdjilnlmihnhaaDoor

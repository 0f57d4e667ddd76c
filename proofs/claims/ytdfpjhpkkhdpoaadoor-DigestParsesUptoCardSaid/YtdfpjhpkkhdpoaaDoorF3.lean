/-
  The reference's rounds over a block.
-/
import Derived.Test.YtdfpjhpkkhdpoaaDoorF2
namespace Go.Proofs.YtdfpjhpkkhdpoaaDoor
open Go.RowKit
set_option linter.unusedSimpArgs false
set_option linter.unusedVariables false
/-- what lies in the blocks while the rounds go -/
structure BI (w : World) (Wb Kb Vb : Nat) (hs ws vs : List (BitVec 32)) (p : World) : Prop where
  h : p.heap[w.heap.size]? = some (.cells (wcells hs) 31 (0, 0))
  z : p.heap[w.heap.size + 1]? = some (.cells (wcells (List.replicate 8 0)) 31 (0, 0))
  s : p.heap[Wb]? = some (.cells (wcells ws) 74 (0, 0))
  k : p.heap[Kb]? = some (.cells (wcells K64) 74 (0, 0))
  v : p.heap[Vb]? = some (.cells (wcells vs) 31 (0, 0))
  bel : Below w.heap.size w p
theorem BI.drewN {w : World} {Wb Kb Vb : Nat} {hs ws vs : List (BitVec 32)} {p : World} (h : BI w Wb Kb Vb hs ws vs p) (n : Nat) : BI w Wb Kb Vb hs ws vs (p.drewN n) := ⟨h.h, h.z, h.s, h.k, h.v, below_drewN h.bel n⟩
theorem BI.drew {w : World} {Wb Kb Vb : Nat} {hs ws vs : List (BitVec 32)} {p : World} (h : BI w Wb Kb Vb hs ws vs p) : BI w Wb Kb Vb hs ws vs p.drew := ⟨h.h, h.z, h.s, h.k, h.v, h.bel.drew⟩
theorem V8_len (v : V8) : v.list.length = 8 := rfl
def Dblk10 : List (Option Tmp) := [some 56, some 57, some 58, some 59, some 60, some 61, some 62, some 63, some 64, some 65, some 66, some 67, some 68, some 69, some 70, some 71, some 72, some 73, some 74, some 75, some 76, some 77, some 78, some 79, some 12]
def Lblk10 : List (List Nat) := [[], [0], [], [2], [1, 3], [], [5], [4, 6], [], [], [9], [8, 10], [], [], [13], [12, 14], [11, 15], [], [17], [], [19], [18, 20], [16, 21], [7, 22], [23]]
def Dblk9 : List (Option Tmp) := [some 26, some 27, some 28, some 29, some 30, some 31, some 32, some 33, some 34, some 35, some 36, some 37, some 38, some 39, some 40, some 41, some 42, some 43, some 44, some 45, some 46, some 47, some 48, some 49, some 50, some 51, some 52, some 53, some 54, some 55, some 11]
def Lblk9 : List (List Nat) := [[], [0], [], [2], [], [4], [3, 5], [], [7], [6, 8], [1, 9], [], [], [12], [11, 13], [], [15], [], [17], [16, 18], [14, 19], [10, 20], [], [22], [23], [21, 24], [], [26], [27], [25, 28], [29]]
def Dblk15 : List (Option Tmp) := [some 102, some 103, some 104, some 105, some 106, some 107, some 108, some 109, some 110, none]
def Lblk15 : List (List Nat) := [[], [], [1], [2], [], [4], [5], [3, 6], [0], [8, 7]]
set_option maxRecDepth 100000 in
set_option maxHeartbeats 4000000 in
theorem rblock_any (hs : List (BitVec 32)) (a : Option Addr) (c : Nat) (l : List UInt8) (w : World) (hB : Bs w a 64 c l) (hh : hs.length = 8) :
    Calls Tryd.prog 42 #[.agg (wcells hs), .slice a 64 c] w fun e w' => e = .returned (.agg (wcells (mixW hs (wordsOf l)))) ∧ Below w.heap.size w w' := by
  have HB := Lib.hid hB
  have Hh := Lib.hid hh
  have hsl := wordsOf_len l
  have Hl := Lib.hid (sched_len (wordsOf l) hsl)
  clear hB hh hsl
  go_enter Tryd.func42, Tryd.ntmps42
  go_upto_region 1 with (fail)
  rw [zeros8]
  have b0 : Below w.heap.size w ((w.alloc (.cells (wcells hs) 31)).alloc (.cells (wcells (List.replicate 8 0)) 31)) := ((Below.refl _ _).alloc (Nat.le_refl _) _).alloc (by simp) _
  have g0 : ((w.alloc (.cells (wcells hs) 31)).alloc (.cells (wcells (List.replicate 8 0)) 31)).heap[w.heap.size]? = some (.cells (wcells hs) 31 (0, 0)) := heap_old (heap_new rfl)
  have g1 : ((w.alloc (.cells (wcells hs) 31)).alloc (.cells (wcells (List.replicate 8 0)) 31)).heap[w.heap.size + 1]? = some (.cells (wcells (List.replicate 8 0)) 31 (0, 0)) := heap_new (by simp only [size_alloc1])
  have s0 : ((w.alloc (.cells (wcells hs) 31)).alloc (.cells (wcells (List.replicate 8 0)) 31)).heap.size = w.heap.size + 2 := by simp only [size_alloc1]
  generalize (w.alloc (.cells (wcells hs) 31)).alloc (.cells (wcells (List.replicate 8 0)) 31) = q0 at *
  have B0 := Lib.hid b0
  have G0 := Lib.hid g0
  have G1 := Lib.hid g1
  have S0 := Lib.hid s0
  clear b0 g0 g1 s0
  go_upto_region 2 with (first
    | (go_at_call 47; refine (rsched_any a c l _ (HB.out.below B0.out)).mono ?_; rintro e w1 ⟨rfl, hb1⟩; have B1 := Lib.hid hb1; clear hb1)
    | (refine wpList_store_row rfl 74 (.tmp 5) (.tmp 15) rfl _ _ rfl rfl 74 _ (heap_new rfl) (by rw [wcells_size, Hl.out]; exact size64w) (by rw [wcells_size, Hl.out]; rfl) (wcells_one _) ?_))
  rw [World.setRow_alloc_new]
  have z1 : w.heap.size + 2 ≤ w1.heap.size := by have := B1.out.size; have := S0.out; omega
  have b1 : Below w.heap.size w (w1.alloc (.cells (wcells (sched (wordsOf l))) 74)) := (B0.out.trans (B1.out.mono (by have := S0.out; omega))).alloc (by omega) _
  have g0 : (w1.alloc (.cells (wcells (sched (wordsOf l))) 74)).heap[w.heap.size]? = some (.cells (wcells hs) 31 (0, 0)) := heap_old ((B1.out.block _ (by have := S0.out; omega)).trans G0.out)
  have g1 : (w1.alloc (.cells (wcells (sched (wordsOf l))) 74)).heap[w.heap.size + 1]? = some (.cells (wcells (List.replicate 8 0)) 31 (0, 0)) := heap_old ((B1.out.block _ (by have := S0.out; omega)).trans G1.out)
  have g2 : (w1.alloc (.cells (wcells (sched (wordsOf l))) 74)).heap[w1.heap.size]? = some (.cells (wcells (sched (wordsOf l))) 74 (0, 0)) := heap_new rfl
  have s1 : (w1.alloc (.cells (wcells (sched (wordsOf l))) 74)).heap.size = w1.heap.size + 1 := by simp only [size_alloc1]
  generalize w1.alloc (.cells (wcells (sched (wordsOf l))) 74) = q1 at *
  obtain ⟨Wb, hWb⟩ : ∃ Wb, Wb = w1.heap.size := ⟨_, rfl⟩
  rw [← hWb] at g2 z1 s1 ⊢
  clear B0 G0 G1 S0 B1 hWb
  have B1 := Lib.hid b1
  have G0 := Lib.hid g0
  have G1 := Lib.hid g1
  have G2 := Lib.hid g2
  have S1 := Lib.hid s1
  clear b1 g0 g1 g2 s1
  go_upto_region 3 with (first
    | (go_at_call 48; refine (round_any _).mono ?_; rintro e w2 ⟨rfl, hb2⟩; have B2 := Lib.hid hb2; clear hb2)
    | (refine wpList_store_row rfl 74 (.tmp 6) (.tmp 16) rfl _ _ rfl rfl 74 _ (heap_new rfl) (by kernel_rfl) rfl (wcells_one _) ?_))
  rw [World.setRow_alloc_new]
  have z2 : Wb + 1 ≤ w2.heap.size := by have := B2.out.size; have := S1.out; omega
  have b2 : Below w.heap.size w (w2.alloc (.cells (wcells K64) 74)) := (B1.out.trans (B2.out.mono (by have := S1.out; omega))).alloc (by omega) _
  have g0 : (w2.alloc (.cells (wcells K64) 74)).heap[w.heap.size]? = some (.cells (wcells hs) 31 (0, 0)) := heap_old ((B2.out.block _ (by have := S1.out; omega)).trans G0.out)
  have g1 : (w2.alloc (.cells (wcells K64) 74)).heap[w.heap.size + 1]? = some (.cells (wcells (List.replicate 8 0)) 31 (0, 0)) := heap_old ((B2.out.block _ (by have := S1.out; omega)).trans G1.out)
  have g2 : (w2.alloc (.cells (wcells K64) 74)).heap[Wb]? = some (.cells (wcells (sched (wordsOf l))) 74 (0, 0)) := heap_old ((B2.out.block _ (by have := S1.out; omega)).trans G2.out)
  have g3 : (w2.alloc (.cells (wcells K64) 74)).heap[w2.heap.size]? = some (.cells (wcells K64) 74 (0, 0)) := heap_new rfl
  have s2 : (w2.alloc (.cells (wcells K64) 74)).heap.size = w2.heap.size + 1 := by simp only [size_alloc1]
  generalize w2.alloc (.cells (wcells K64) 74) = q2 at *
  obtain ⟨Kb, hKb⟩ : ∃ Kb, Kb = w2.heap.size := ⟨_, rfl⟩
  rw [← hKb] at g3 z2 s2 ⊢
  clear B1 G0 G1 G2 S1 B2 hKb
  have B2 := Lib.hid b2
  have G0 := Lib.hid g0
  have G1 := Lib.hid g1
  have G2 := Lib.hid g2
  have G3 := Lib.hid g3
  have S2 := Lib.hid s2
  clear b2 g0 g1 g2 g3 s2
  go_upto_region 4 with (first
    | (refine wpList_load_row rfl 31 (.tmp 2) rfl w.heap.size rfl 31 _ (0, 0) _ G0.out Tryd.underlying31 rfl (by rw [wcells_size, Hh.out]; exact size8w) ?_)
    | (refine wpList_store_row rfl 31 (.tmp 7) (.tmp 17) rfl _ _ rfl rfl 31 _ (heap_new rfl) (by rw [wcells_size, Hh.out]; exact size8w) (by rw [wcells_size, Hh.out]; rfl) (wcells_one _) ?_))
  rw [World.setRow_alloc_new]
  have bi : BI w Wb Kb q2.heap.size hs (sched (wordsOf l)) (runTo (V8.of hs) (sched (wordsOf l)) 0).list (q2.alloc (.cells (wcells hs) 31)) := by
    refine ⟨heap_old G0.out, heap_old G1.out, heap_old G2.out, heap_old G3.out, ?_, B2.out.alloc (by have := S2.out; omega) _⟩
    rw [heap_new rfl]
    obtain ⟨x0, x1, x2, x3, x4, x5, x6, x7, rfl⟩ : ∃ x0 x1 x2 x3 x4 x5 x6 x7, hs = [x0, x1, x2, x3, x4, x5, x6, x7] := by
      match hs, Hh.out with
      | [x0, x1, x2, x3, x4, x5, x6, x7], _ => exact ⟨x0, x1, x2, x3, x4, x5, x6, x7, rfl⟩
    rfl
  have z3 : Kb + 1 ≤ q2.heap.size := by have := S2.out; omega
  generalize q2.alloc (.cells (wcells hs) 31) = q3 at *
  obtain ⟨Vb, hVb⟩ : ∃ Vb, Vb = q2.heap.size := ⟨_, rfl⟩
  rw [← hVb] at bi z3 ⊢
  clear B2 G0 G1 G2 G3 S2 hVb
  have B3 := Lib.hid bi
  clear bi
  go_wp2
  go_loopw [8, 9, 10, 11, 12] (fun i _ _ _ _ wr => ∃ k : Nat, k ≤ 64 ∧ i = .int .i64 (k : Int) ∧ BI w Wb Kb Vb hs (sched (wordsOf l)) (runTo (V8.of hs) (sched (wordsOf l)) k).list wr)
    (fun i _ _ _ _ _ => 64 - (intOf i).toNat)
  case atStart => exact ⟨0, by omega, rfl, B3.out⟩
  case round =>
    clear B3
    obtain ⟨k, hk, rfl, bi⟩ := hrel
    have N := Lib.hid bi
    clear bi
    by_cases hlt : k < 64
    · have dlt : decide ((k : Int) < 64) = true := by simp; omega
      generalize hv : runTo (V8.of hs) (sched (wordsOf l)) k = v at *
      have Hv := Lib.hid hv
      clear hv
      have cv0 : wr.cell? ⟨Vb, 0, none⟩ = some (.int .u32 (wi v.a)) := cell_words N.out.v 0 (by rw [V8_len]; omega)
      have cv4 : wr.cell? ⟨Vb, 4, none⟩ = some (.int .u32 (wi v.e)) := cell_words N.out.v 4 (by rw [V8_len]; omega)
      go_upto_region 9 with (fail)
      clear cv0 cv4
      refine Roll.region_f 31 112 Dblk9 Lblk9 [(5, .pointer (some ⟨Wb, 0, none⟩)), (6, .pointer (some ⟨Kb, 0, none⟩)), (7, .pointer (some ⟨Vb, 0, none⟩)), (8, .int .i64 (k : Int)), (9, .int .u32 (wi v.e))] (fun p => BI w Wb Kb Vb hs (sched (wordsOf l)) v.list p) (fun _ _ => True) [fun vv p => vv = .pointer (some ⟨Vb, 7, none⟩), fun vv p => vv = .int .u32 (wi (v.h)), fun vv p => vv = .int .u32 (wi v.e), fun vv p => vv = .int .u32 (wi (rotr v.e 6)), fun vv p => vv = .int .u32 (wi v.e), fun vv p => vv = .int .u32 (wi (rotr v.e 11)), fun vv p => vv = .int .u32 (wi (rotr v.e 6 ^^^ rotr v.e 11)), fun vv p => vv = .int .u32 (wi v.e), fun vv p => vv = .int .u32 (wi (rotr v.e 25)), fun vv p => vv = .int .u32 (wi (rotr v.e 6 ^^^ rotr v.e 11 ^^^ rotr v.e 25)), fun vv p => vv = .int .u32 (wi (v.h + (rotr v.e 6 ^^^ rotr v.e 11 ^^^ rotr v.e 25))), fun vv p => vv = .int .u32 (wi v.e), fun vv p => vv = .pointer (some ⟨Vb, 5, none⟩), fun vv p => vv = .int .u32 (wi (v.f)), fun vv p => vv = .int .u32 (wi (v.e &&& v.f)), fun vv p => vv = .int .u32 (wi v.e), fun vv p => vv = .int .u32 (wi (~~~v.e)), fun vv p => vv = .pointer (some ⟨Vb, 6, none⟩), fun vv p => vv = .int .u32 (wi (v.g)), fun vv p => vv = .int .u32 (wi (~~~v.e &&& v.g)), fun vv p => vv = .int .u32 (wi (v.e &&& v.f ^^^ ~~~v.e &&& v.g)), fun vv p => vv = .int .u32 (wi (v.h + (rotr v.e 6 ^^^ rotr v.e 11 ^^^ rotr v.e 25) + (v.e &&& v.f ^^^ ~~~v.e &&& v.g))), fun vv p => vv = .int .i64 (k : Int), fun vv p => vv = .pointer (some ⟨Kb, k, none⟩), fun vv p => vv = .int .u32 (wi (wAt K64 k)), fun vv p => vv = .int .u32 (wi (v.h + (rotr v.e 6 ^^^ rotr v.e 11 ^^^ rotr v.e 25) + (v.e &&& v.f ^^^ ~~~v.e &&& v.g) + wAt K64 k)), fun vv p => vv = .int .i64 (k : Int), fun vv p => vv = .pointer (some ⟨Wb, k, none⟩), fun vv p => vv = .int .u32 (wi (wAt (sched (wordsOf l)) k)), fun vv p => vv = .int .u32 (wi (t1Of v (wAt K64 k) (wAt (sched (wordsOf l)) k))), fun vv p => vv = .int .u32 (wi (t1Of v (wAt K64 k) (wAt (sched (wordsOf l)) k)))] (by kernel_rfl) (by kernel_rfl) rfl ⟨rfl, rfl, rfl, rfl, rfl, trivial⟩ (N.out.drew) ?_ ?_ ?_
      · exact ⟨fun _ _ _ _ h => h, fun _ _ _ _ h => h, fun _ _ _ _ h => h, fun _ _ _ _ h => h, fun _ _ _ _ h => h, fun _ _ _ _ h => h, fun _ _ _ _ h => h, fun _ _ _ _ h => h, fun _ _ _ _ h => h, fun _ _ _ _ h => h, fun _ _ _ _ h => h, fun _ _ _ _ h => h, fun _ _ _ _ h => h, fun _ _ _ _ h => h, fun _ _ _ _ h => h, fun _ _ _ _ h => h, fun _ _ _ _ h => h, fun _ _ _ _ h => h, fun _ _ _ _ h => h, fun _ _ _ _ h => h, fun _ _ _ _ h => h, fun _ _ _ _ h => h, fun _ _ _ _ h => h, fun _ _ _ _ h => h, fun _ _ _ _ h => h, fun _ _ _ _ h => h, fun _ _ _ _ h => h, fun _ _ _ _ h => h, fun _ _ _ _ h => h, fun _ _ _ _ h => h, fun _ _ _ _ h => h, trivial⟩
      · intro b0 hN hlv
        refine ⟨?_, ?_, ?_, ?_, ?_, ?_, ?_, ?_, ?_, ?_, ?_, ?_, ?_, ?_, ?_, ?_, ?_, ?_, ?_, ?_, ?_, ?_, ?_, ?_, ?_, ?_, ?_, ?_, ?_, ?_, ?_, trivial⟩
        · intro vals p hI hp
          have e7 : (Roll.putD Dblk9 vals [] b0).eval (.tmp 7) = .pointer (some ⟨Vb, 0, none⟩) := (Roll.eval_old rfl).trans (hlv.at 2 (7, .pointer (some ⟨Vb, 0, none⟩)) rfl)
          clear hp hlv hN
          unfold Roll.Goes
          simp only [Lblk9, List.getD_cons_zero, List.getD_cons_succ]
          generalize Roll.putD Dblk9 vals [] b0 = a1 at *
          refine Roll.goes_val (w' := p) (.pointer (some ⟨Vb, 7, none⟩)) rfl ?_ ⟨hI, trivial, rfl⟩
          (have ec : ∀ x, a1.eval (.const x) = x := fun _ => rfl); (have ef : ∀ x, a1.eval (.func x) = .func (.func x) #[] #[] := fun _ => rfl); generalize a1.eval = ρ at *
          skip
          go_simp <;> (intros; first | (exfalso; omega) | rfl)
        · intro vals p hI hp
          have h0 : (vals 0) = .pointer (some ⟨Vb, 7, none⟩) := hp 0 (by simp [Lblk9])
          have e26 : (Roll.putD Dblk9 vals [0] b0).eval (.tmp 26) = .pointer (some ⟨Vb, 7, none⟩) := (Roll.eval_new 0 rfl (by decide) (by decide) (by omega)).trans h0
          clear hp hlv hN
          unfold Roll.Goes
          simp only [Lblk9, List.getD_cons_zero, List.getD_cons_succ]
          generalize Roll.putD Dblk9 vals [0] b0 = a1 at *
          have cc : p.cell? ⟨Vb, 7, none⟩ = some (.int .u32 (wi v.h)) := cell_words hI.v 7 (by rw [V8_len]; omega)
          refine Roll.goes_val (w' := p) (.int .u32 (wi (v.h))) rfl ?_ ⟨hI, trivial, rfl⟩
          (have ec : ∀ x, a1.eval (.const x) = x := fun _ => rfl); (have ef : ∀ x, a1.eval (.func x) = .func (.func x) #[] #[] := fun _ => rfl); generalize a1.eval = ρ at *
          clear h0
          go_simp <;> (intros; first | (exfalso; omega) | rfl)
        · intro vals p hI hp
          have e9 : (Roll.putD Dblk9 vals [] b0).eval (.tmp 9) = .int .u32 (wi v.e) := (Roll.eval_old rfl).trans (hlv.at 4 (9, .int .u32 (wi v.e)) rfl)
          clear hp hlv hN
          unfold Roll.Goes
          simp only [Lblk9, List.getD_cons_zero, List.getD_cons_succ]
          generalize Roll.putD Dblk9 vals [] b0 = a1 at *
          refine Roll.goes_val (w' := p) (.int .u32 (wi v.e)) rfl ?_ ⟨hI, trivial, rfl⟩
          (have ec : ∀ x, a1.eval (.const x) = x := fun _ => rfl); (have ef : ∀ x, a1.eval (.func x) = .func (.func x) #[] #[] := fun _ => rfl); generalize a1.eval = ρ at *
          skip
          go_simp <;> (intros; first | (exfalso; omega) | rfl)
        · intro vals p hI hp
          have h2 : (vals 2) = .int .u32 (wi v.e) := hp 2 (by simp [Lblk9])
          have e28 : (Roll.putD Dblk9 vals [2] b0).eval (.tmp 28) = .int .u32 (wi v.e) := (Roll.eval_new 2 rfl (by decide) (by decide) (by omega)).trans h2
          clear hp hlv hN
          unfold Roll.Goes
          simp only [Lblk9, List.getD_cons_zero, List.getD_cons_succ]
          generalize Roll.putD Dblk9 vals [2] b0 = a1 at *
          refine Roll.goes_call 49 #[.int .u32 (wi (v.e)), .int .i64 6] p rfl (by have ec : ∀ x, a1.eval (.const x) = x := fun _ => rfl; have ef : ∀ x, a1.eval (.func x) = .func (.func x) #[] #[] := fun _ => rfl; generalize a1.eval = ρ at *; go_simp) ?_
          refine (refrot_any _ 6 _ (by decide) (by decide)).mono ?_
          rintro e p2 ⟨rfl, nn, rfl⟩
          exact ⟨_, rfl, hI.drewN _, trivial, rfl⟩
        · intro vals p hI hp
          have e9 : (Roll.putD Dblk9 vals [] b0).eval (.tmp 9) = .int .u32 (wi v.e) := (Roll.eval_old rfl).trans (hlv.at 4 (9, .int .u32 (wi v.e)) rfl)
          clear hp hlv hN
          unfold Roll.Goes
          simp only [Lblk9, List.getD_cons_zero, List.getD_cons_succ]
          generalize Roll.putD Dblk9 vals [] b0 = a1 at *
          refine Roll.goes_val (w' := p) (.int .u32 (wi v.e)) rfl ?_ ⟨hI, trivial, rfl⟩
          (have ec : ∀ x, a1.eval (.const x) = x := fun _ => rfl); (have ef : ∀ x, a1.eval (.func x) = .func (.func x) #[] #[] := fun _ => rfl); generalize a1.eval = ρ at *
          skip
          go_simp <;> (intros; first | (exfalso; omega) | rfl)
        · intro vals p hI hp
          have h4 : (vals 4) = .int .u32 (wi v.e) := hp 4 (by simp [Lblk9])
          have e30 : (Roll.putD Dblk9 vals [4] b0).eval (.tmp 30) = .int .u32 (wi v.e) := (Roll.eval_new 4 rfl (by decide) (by decide) (by omega)).trans h4
          clear hp hlv hN
          unfold Roll.Goes
          simp only [Lblk9, List.getD_cons_zero, List.getD_cons_succ]
          generalize Roll.putD Dblk9 vals [4] b0 = a1 at *
          refine Roll.goes_call 49 #[.int .u32 (wi (v.e)), .int .i64 11] p rfl (by have ec : ∀ x, a1.eval (.const x) = x := fun _ => rfl; have ef : ∀ x, a1.eval (.func x) = .func (.func x) #[] #[] := fun _ => rfl; generalize a1.eval = ρ at *; go_simp) ?_
          refine (refrot_any _ 11 _ (by decide) (by decide)).mono ?_
          rintro e p2 ⟨rfl, nn, rfl⟩
          exact ⟨_, rfl, hI.drewN _, trivial, rfl⟩
        · intro vals p hI hp
          have h3 : (vals 3) = .int .u32 (wi (rotr v.e 6)) := hp 3 (by simp [Lblk9])
          have h5 : (vals 5) = .int .u32 (wi (rotr v.e 11)) := hp 5 (by simp [Lblk9])
          have e29 : (Roll.putD Dblk9 vals [3, 5] b0).eval (.tmp 29) = .int .u32 (wi (rotr v.e 6)) := (Roll.eval_new 3 rfl (by decide) (by decide) (by omega)).trans h3
          have e31 : (Roll.putD Dblk9 vals [3, 5] b0).eval (.tmp 31) = .int .u32 (wi (rotr v.e 11)) := (Roll.eval_new 5 rfl (by decide) (by decide) (by omega)).trans h5
          clear hp hlv hN
          unfold Roll.Goes
          simp only [Lblk9, List.getD_cons_zero, List.getD_cons_succ]
          generalize Roll.putD Dblk9 vals [3, 5] b0 = a1 at *
          refine Roll.goes_val (w' := p) (.int .u32 (wi (rotr v.e 6 ^^^ rotr v.e 11))) rfl ?_ ⟨hI, trivial, rfl⟩
          (have ec : ∀ x, a1.eval (.const x) = x := fun _ => rfl); (have ef : ∀ x, a1.eval (.func x) = .func (.func x) #[] #[] := fun _ => rfl); generalize a1.eval = ρ at *
          clear h3 h5
          go_simp <;> (intros; first | (exfalso; omega) | rfl)
        · intro vals p hI hp
          have e9 : (Roll.putD Dblk9 vals [] b0).eval (.tmp 9) = .int .u32 (wi v.e) := (Roll.eval_old rfl).trans (hlv.at 4 (9, .int .u32 (wi v.e)) rfl)
          clear hp hlv hN
          unfold Roll.Goes
          simp only [Lblk9, List.getD_cons_zero, List.getD_cons_succ]
          generalize Roll.putD Dblk9 vals [] b0 = a1 at *
          refine Roll.goes_val (w' := p) (.int .u32 (wi v.e)) rfl ?_ ⟨hI, trivial, rfl⟩
          (have ec : ∀ x, a1.eval (.const x) = x := fun _ => rfl); (have ef : ∀ x, a1.eval (.func x) = .func (.func x) #[] #[] := fun _ => rfl); generalize a1.eval = ρ at *
          skip
          go_simp <;> (intros; first | (exfalso; omega) | rfl)
        · intro vals p hI hp
          have h7 : (vals 7) = .int .u32 (wi v.e) := hp 7 (by simp [Lblk9])
          have e33 : (Roll.putD Dblk9 vals [7] b0).eval (.tmp 33) = .int .u32 (wi v.e) := (Roll.eval_new 7 rfl (by decide) (by decide) (by omega)).trans h7
          clear hp hlv hN
          unfold Roll.Goes
          simp only [Lblk9, List.getD_cons_zero, List.getD_cons_succ]
          generalize Roll.putD Dblk9 vals [7] b0 = a1 at *
          refine Roll.goes_call 49 #[.int .u32 (wi (v.e)), .int .i64 25] p rfl (by have ec : ∀ x, a1.eval (.const x) = x := fun _ => rfl; have ef : ∀ x, a1.eval (.func x) = .func (.func x) #[] #[] := fun _ => rfl; generalize a1.eval = ρ at *; go_simp) ?_
          refine (refrot_any _ 25 _ (by decide) (by decide)).mono ?_
          rintro e p2 ⟨rfl, nn, rfl⟩
          exact ⟨_, rfl, hI.drewN _, trivial, rfl⟩
        · intro vals p hI hp
          have h6 : (vals 6) = .int .u32 (wi (rotr v.e 6 ^^^ rotr v.e 11)) := hp 6 (by simp [Lblk9])
          have h8 : (vals 8) = .int .u32 (wi (rotr v.e 25)) := hp 8 (by simp [Lblk9])
          have e32 : (Roll.putD Dblk9 vals [6, 8] b0).eval (.tmp 32) = .int .u32 (wi (rotr v.e 6 ^^^ rotr v.e 11)) := (Roll.eval_new 6 rfl (by decide) (by decide) (by omega)).trans h6
          have e34 : (Roll.putD Dblk9 vals [6, 8] b0).eval (.tmp 34) = .int .u32 (wi (rotr v.e 25)) := (Roll.eval_new 8 rfl (by decide) (by decide) (by omega)).trans h8
          clear hp hlv hN
          unfold Roll.Goes
          simp only [Lblk9, List.getD_cons_zero, List.getD_cons_succ]
          generalize Roll.putD Dblk9 vals [6, 8] b0 = a1 at *
          refine Roll.goes_val (w' := p) (.int .u32 (wi (rotr v.e 6 ^^^ rotr v.e 11 ^^^ rotr v.e 25))) rfl ?_ ⟨hI, trivial, rfl⟩
          (have ec : ∀ x, a1.eval (.const x) = x := fun _ => rfl); (have ef : ∀ x, a1.eval (.func x) = .func (.func x) #[] #[] := fun _ => rfl); generalize a1.eval = ρ at *
          clear h6 h8
          go_simp <;> (intros; first | (exfalso; omega) | rfl)
        · intro vals p hI hp
          have h1 : (vals 1) = .int .u32 (wi (v.h)) := hp 1 (by simp [Lblk9])
          have h9 : (vals 9) = .int .u32 (wi (rotr v.e 6 ^^^ rotr v.e 11 ^^^ rotr v.e 25)) := hp 9 (by simp [Lblk9])
          have e27 : (Roll.putD Dblk9 vals [1, 9] b0).eval (.tmp 27) = .int .u32 (wi (v.h)) := (Roll.eval_new 1 rfl (by decide) (by decide) (by omega)).trans h1
          have e35 : (Roll.putD Dblk9 vals [1, 9] b0).eval (.tmp 35) = .int .u32 (wi (rotr v.e 6 ^^^ rotr v.e 11 ^^^ rotr v.e 25)) := (Roll.eval_new 9 rfl (by decide) (by decide) (by omega)).trans h9
          clear hp hlv hN
          unfold Roll.Goes
          simp only [Lblk9, List.getD_cons_zero, List.getD_cons_succ]
          generalize Roll.putD Dblk9 vals [1, 9] b0 = a1 at *
          refine Roll.goes_val (w' := p) (.int .u32 (wi (v.h + (rotr v.e 6 ^^^ rotr v.e 11 ^^^ rotr v.e 25)))) rfl ?_ ⟨hI, trivial, rfl⟩
          (have ec : ∀ x, a1.eval (.const x) = x := fun _ => rfl); (have ef : ∀ x, a1.eval (.func x) = .func (.func x) #[] #[] := fun _ => rfl); generalize a1.eval = ρ at *
          clear h1 h9
          go_simp <;> (intros; first | (exfalso; omega) | rfl)
        · intro vals p hI hp
          have e9 : (Roll.putD Dblk9 vals [] b0).eval (.tmp 9) = .int .u32 (wi v.e) := (Roll.eval_old rfl).trans (hlv.at 4 (9, .int .u32 (wi v.e)) rfl)
          clear hp hlv hN
          unfold Roll.Goes
          simp only [Lblk9, List.getD_cons_zero, List.getD_cons_succ]
          generalize Roll.putD Dblk9 vals [] b0 = a1 at *
          refine Roll.goes_val (w' := p) (.int .u32 (wi v.e)) rfl ?_ ⟨hI, trivial, rfl⟩
          (have ec : ∀ x, a1.eval (.const x) = x := fun _ => rfl); (have ef : ∀ x, a1.eval (.func x) = .func (.func x) #[] #[] := fun _ => rfl); generalize a1.eval = ρ at *
          skip
          go_simp <;> (intros; first | (exfalso; omega) | rfl)
        · intro vals p hI hp
          have e7 : (Roll.putD Dblk9 vals [] b0).eval (.tmp 7) = .pointer (some ⟨Vb, 0, none⟩) := (Roll.eval_old rfl).trans (hlv.at 2 (7, .pointer (some ⟨Vb, 0, none⟩)) rfl)
          clear hp hlv hN
          unfold Roll.Goes
          simp only [Lblk9, List.getD_cons_zero, List.getD_cons_succ]
          generalize Roll.putD Dblk9 vals [] b0 = a1 at *
          refine Roll.goes_val (w' := p) (.pointer (some ⟨Vb, 5, none⟩)) rfl ?_ ⟨hI, trivial, rfl⟩
          (have ec : ∀ x, a1.eval (.const x) = x := fun _ => rfl); (have ef : ∀ x, a1.eval (.func x) = .func (.func x) #[] #[] := fun _ => rfl); generalize a1.eval = ρ at *
          skip
          go_simp <;> (intros; first | (exfalso; omega) | rfl)
        · intro vals p hI hp
          have h12 : (vals 12) = .pointer (some ⟨Vb, 5, none⟩) := hp 12 (by simp [Lblk9])
          have e38 : (Roll.putD Dblk9 vals [12] b0).eval (.tmp 38) = .pointer (some ⟨Vb, 5, none⟩) := (Roll.eval_new 12 rfl (by decide) (by decide) (by omega)).trans h12
          clear hp hlv hN
          unfold Roll.Goes
          simp only [Lblk9, List.getD_cons_zero, List.getD_cons_succ]
          generalize Roll.putD Dblk9 vals [12] b0 = a1 at *
          have cc : p.cell? ⟨Vb, 5, none⟩ = some (.int .u32 (wi v.f)) := cell_words hI.v 5 (by rw [V8_len]; omega)
          refine Roll.goes_val (w' := p) (.int .u32 (wi (v.f))) rfl ?_ ⟨hI, trivial, rfl⟩
          (have ec : ∀ x, a1.eval (.const x) = x := fun _ => rfl); (have ef : ∀ x, a1.eval (.func x) = .func (.func x) #[] #[] := fun _ => rfl); generalize a1.eval = ρ at *
          clear h12
          go_simp <;> (intros; first | (exfalso; omega) | rfl)
        · intro vals p hI hp
          have h11 : (vals 11) = .int .u32 (wi v.e) := hp 11 (by simp [Lblk9])
          have h13 : (vals 13) = .int .u32 (wi (v.f)) := hp 13 (by simp [Lblk9])
          have e37 : (Roll.putD Dblk9 vals [11, 13] b0).eval (.tmp 37) = .int .u32 (wi v.e) := (Roll.eval_new 11 rfl (by decide) (by decide) (by omega)).trans h11
          have e39 : (Roll.putD Dblk9 vals [11, 13] b0).eval (.tmp 39) = .int .u32 (wi (v.f)) := (Roll.eval_new 13 rfl (by decide) (by decide) (by omega)).trans h13
          clear hp hlv hN
          unfold Roll.Goes
          simp only [Lblk9, List.getD_cons_zero, List.getD_cons_succ]
          generalize Roll.putD Dblk9 vals [11, 13] b0 = a1 at *
          refine Roll.goes_val (w' := p) (.int .u32 (wi (v.e &&& v.f))) rfl ?_ ⟨hI, trivial, rfl⟩
          (have ec : ∀ x, a1.eval (.const x) = x := fun _ => rfl); (have ef : ∀ x, a1.eval (.func x) = .func (.func x) #[] #[] := fun _ => rfl); generalize a1.eval = ρ at *
          clear h11 h13
          go_simp <;> (intros; first | (exfalso; omega) | rfl)
        · intro vals p hI hp
          have e9 : (Roll.putD Dblk9 vals [] b0).eval (.tmp 9) = .int .u32 (wi v.e) := (Roll.eval_old rfl).trans (hlv.at 4 (9, .int .u32 (wi v.e)) rfl)
          clear hp hlv hN
          unfold Roll.Goes
          simp only [Lblk9, List.getD_cons_zero, List.getD_cons_succ]
          generalize Roll.putD Dblk9 vals [] b0 = a1 at *
          refine Roll.goes_val (w' := p) (.int .u32 (wi v.e)) rfl ?_ ⟨hI, trivial, rfl⟩
          (have ec : ∀ x, a1.eval (.const x) = x := fun _ => rfl); (have ef : ∀ x, a1.eval (.func x) = .func (.func x) #[] #[] := fun _ => rfl); generalize a1.eval = ρ at *
          skip
          go_simp <;> (intros; first | (exfalso; omega) | rfl)
        · intro vals p hI hp
          have h15 : (vals 15) = .int .u32 (wi v.e) := hp 15 (by simp [Lblk9])
          have e41 : (Roll.putD Dblk9 vals [15] b0).eval (.tmp 41) = .int .u32 (wi v.e) := (Roll.eval_new 15 rfl (by decide) (by decide) (by omega)).trans h15
          clear hp hlv hN
          unfold Roll.Goes
          simp only [Lblk9, List.getD_cons_zero, List.getD_cons_succ]
          generalize Roll.putD Dblk9 vals [15] b0 = a1 at *
          refine Roll.goes_val (w' := p) (.int .u32 (wi (~~~v.e))) rfl ?_ ⟨hI, trivial, rfl⟩
          (have ec : ∀ x, a1.eval (.const x) = x := fun _ => rfl); (have ef : ∀ x, a1.eval (.func x) = .func (.func x) #[] #[] := fun _ => rfl); generalize a1.eval = ρ at *
          clear h15
          go_simp <;> (intros; first | (exfalso; omega) | rfl)
        · intro vals p hI hp
          have e7 : (Roll.putD Dblk9 vals [] b0).eval (.tmp 7) = .pointer (some ⟨Vb, 0, none⟩) := (Roll.eval_old rfl).trans (hlv.at 2 (7, .pointer (some ⟨Vb, 0, none⟩)) rfl)
          clear hp hlv hN
          unfold Roll.Goes
          simp only [Lblk9, List.getD_cons_zero, List.getD_cons_succ]
          generalize Roll.putD Dblk9 vals [] b0 = a1 at *
          refine Roll.goes_val (w' := p) (.pointer (some ⟨Vb, 6, none⟩)) rfl ?_ ⟨hI, trivial, rfl⟩
          (have ec : ∀ x, a1.eval (.const x) = x := fun _ => rfl); (have ef : ∀ x, a1.eval (.func x) = .func (.func x) #[] #[] := fun _ => rfl); generalize a1.eval = ρ at *
          skip
          go_simp <;> (intros; first | (exfalso; omega) | rfl)
        · intro vals p hI hp
          have h17 : (vals 17) = .pointer (some ⟨Vb, 6, none⟩) := hp 17 (by simp [Lblk9])
          have e43 : (Roll.putD Dblk9 vals [17] b0).eval (.tmp 43) = .pointer (some ⟨Vb, 6, none⟩) := (Roll.eval_new 17 rfl (by decide) (by decide) (by omega)).trans h17
          clear hp hlv hN
          unfold Roll.Goes
          simp only [Lblk9, List.getD_cons_zero, List.getD_cons_succ]
          generalize Roll.putD Dblk9 vals [17] b0 = a1 at *
          have cc : p.cell? ⟨Vb, 6, none⟩ = some (.int .u32 (wi v.g)) := cell_words hI.v 6 (by rw [V8_len]; omega)
          refine Roll.goes_val (w' := p) (.int .u32 (wi (v.g))) rfl ?_ ⟨hI, trivial, rfl⟩
          (have ec : ∀ x, a1.eval (.const x) = x := fun _ => rfl); (have ef : ∀ x, a1.eval (.func x) = .func (.func x) #[] #[] := fun _ => rfl); generalize a1.eval = ρ at *
          clear h17
          go_simp <;> (intros; first | (exfalso; omega) | rfl)
        · intro vals p hI hp
          have h16 : (vals 16) = .int .u32 (wi (~~~v.e)) := hp 16 (by simp [Lblk9])
          have h18 : (vals 18) = .int .u32 (wi (v.g)) := hp 18 (by simp [Lblk9])
          have e42 : (Roll.putD Dblk9 vals [16, 18] b0).eval (.tmp 42) = .int .u32 (wi (~~~v.e)) := (Roll.eval_new 16 rfl (by decide) (by decide) (by omega)).trans h16
          have e44 : (Roll.putD Dblk9 vals [16, 18] b0).eval (.tmp 44) = .int .u32 (wi (v.g)) := (Roll.eval_new 18 rfl (by decide) (by decide) (by omega)).trans h18
          clear hp hlv hN
          unfold Roll.Goes
          simp only [Lblk9, List.getD_cons_zero, List.getD_cons_succ]
          generalize Roll.putD Dblk9 vals [16, 18] b0 = a1 at *
          refine Roll.goes_val (w' := p) (.int .u32 (wi (~~~v.e &&& v.g))) rfl ?_ ⟨hI, trivial, rfl⟩
          (have ec : ∀ x, a1.eval (.const x) = x := fun _ => rfl); (have ef : ∀ x, a1.eval (.func x) = .func (.func x) #[] #[] := fun _ => rfl); generalize a1.eval = ρ at *
          clear h16 h18
          go_simp <;> (intros; first | (exfalso; omega) | rfl)
        · intro vals p hI hp
          have h14 : (vals 14) = .int .u32 (wi (v.e &&& v.f)) := hp 14 (by simp [Lblk9])
          have h19 : (vals 19) = .int .u32 (wi (~~~v.e &&& v.g)) := hp 19 (by simp [Lblk9])
          have e40 : (Roll.putD Dblk9 vals [14, 19] b0).eval (.tmp 40) = .int .u32 (wi (v.e &&& v.f)) := (Roll.eval_new 14 rfl (by decide) (by decide) (by omega)).trans h14
          have e45 : (Roll.putD Dblk9 vals [14, 19] b0).eval (.tmp 45) = .int .u32 (wi (~~~v.e &&& v.g)) := (Roll.eval_new 19 rfl (by decide) (by decide) (by omega)).trans h19
          clear hp hlv hN
          unfold Roll.Goes
          simp only [Lblk9, List.getD_cons_zero, List.getD_cons_succ]
          generalize Roll.putD Dblk9 vals [14, 19] b0 = a1 at *
          refine Roll.goes_val (w' := p) (.int .u32 (wi (v.e &&& v.f ^^^ ~~~v.e &&& v.g))) rfl ?_ ⟨hI, trivial, rfl⟩
          (have ec : ∀ x, a1.eval (.const x) = x := fun _ => rfl); (have ef : ∀ x, a1.eval (.func x) = .func (.func x) #[] #[] := fun _ => rfl); generalize a1.eval = ρ at *
          clear h14 h19
          go_simp <;> (intros; first | (exfalso; omega) | rfl)
        · intro vals p hI hp
          have h10 : (vals 10) = .int .u32 (wi (v.h + (rotr v.e 6 ^^^ rotr v.e 11 ^^^ rotr v.e 25))) := hp 10 (by simp [Lblk9])
          have h20 : (vals 20) = .int .u32 (wi (v.e &&& v.f ^^^ ~~~v.e &&& v.g)) := hp 20 (by simp [Lblk9])
          have e36 : (Roll.putD Dblk9 vals [10, 20] b0).eval (.tmp 36) = .int .u32 (wi (v.h + (rotr v.e 6 ^^^ rotr v.e 11 ^^^ rotr v.e 25))) := (Roll.eval_new 10 rfl (by decide) (by decide) (by omega)).trans h10
          have e46 : (Roll.putD Dblk9 vals [10, 20] b0).eval (.tmp 46) = .int .u32 (wi (v.e &&& v.f ^^^ ~~~v.e &&& v.g)) := (Roll.eval_new 20 rfl (by decide) (by decide) (by omega)).trans h20
          clear hp hlv hN
          unfold Roll.Goes
          simp only [Lblk9, List.getD_cons_zero, List.getD_cons_succ]
          generalize Roll.putD Dblk9 vals [10, 20] b0 = a1 at *
          refine Roll.goes_val (w' := p) (.int .u32 (wi (v.h + (rotr v.e 6 ^^^ rotr v.e 11 ^^^ rotr v.e 25) + (v.e &&& v.f ^^^ ~~~v.e &&& v.g)))) rfl ?_ ⟨hI, trivial, rfl⟩
          (have ec : ∀ x, a1.eval (.const x) = x := fun _ => rfl); (have ef : ∀ x, a1.eval (.func x) = .func (.func x) #[] #[] := fun _ => rfl); generalize a1.eval = ρ at *
          clear h10 h20
          go_simp <;> (intros; first | (exfalso; omega) | rfl)
        · intro vals p hI hp
          have e8 : (Roll.putD Dblk9 vals [] b0).eval (.tmp 8) = .int .i64 (k : Int) := (Roll.eval_old rfl).trans (hlv.at 3 (8, .int .i64 (k : Int)) rfl)
          clear hp hlv hN
          unfold Roll.Goes
          simp only [Lblk9, List.getD_cons_zero, List.getD_cons_succ]
          generalize Roll.putD Dblk9 vals [] b0 = a1 at *
          refine Roll.goes_val (w' := p) (.int .i64 (k : Int)) rfl ?_ ⟨hI, trivial, rfl⟩
          (have ec : ∀ x, a1.eval (.const x) = x := fun _ => rfl); (have ef : ∀ x, a1.eval (.func x) = .func (.func x) #[] #[] := fun _ => rfl); generalize a1.eval = ρ at *
          skip
          go_simp <;> (intros; first | (exfalso; omega) | rfl)
        · intro vals p hI hp
          have h22 : (vals 22) = .int .i64 (k : Int) := hp 22 (by simp [Lblk9])
          have e6 : (Roll.putD Dblk9 vals [22] b0).eval (.tmp 6) = .pointer (some ⟨Kb, 0, none⟩) := (Roll.eval_old rfl).trans (hlv.at 1 (6, .pointer (some ⟨Kb, 0, none⟩)) rfl)
          have e48 : (Roll.putD Dblk9 vals [22] b0).eval (.tmp 48) = .int .i64 (k : Int) := (Roll.eval_new 22 rfl (by decide) (by decide) (by omega)).trans h22
          clear hp hlv hN
          unfold Roll.Goes
          simp only [Lblk9, List.getD_cons_zero, List.getD_cons_succ]
          generalize Roll.putD Dblk9 vals [22] b0 = a1 at *
          refine Roll.goes_val (w' := p) (.pointer (some ⟨Kb, k, none⟩)) rfl ?_ ⟨hI, trivial, rfl⟩
          (have ec : ∀ x, a1.eval (.const x) = x := fun _ => rfl); (have ef : ∀ x, a1.eval (.func x) = .func (.func x) #[] #[] := fun _ => rfl); generalize a1.eval = ρ at *
          clear h22
          go_simp <;> (intros; first | (exfalso; omega) | rfl)
        · intro vals p hI hp
          have h23 : (vals 23) = .pointer (some ⟨Kb, k, none⟩) := hp 23 (by simp [Lblk9])
          have e49 : (Roll.putD Dblk9 vals [23] b0).eval (.tmp 49) = .pointer (some ⟨Kb, k, none⟩) := (Roll.eval_new 23 rfl (by decide) (by decide) (by omega)).trans h23
          clear hp hlv hN
          unfold Roll.Goes
          simp only [Lblk9, List.getD_cons_zero, List.getD_cons_succ]
          generalize Roll.putD Dblk9 vals [23] b0 = a1 at *
          have cc := cell_words hI.k k (by show k < 64; omega)
          refine Roll.goes_val (w' := p) (.int .u32 (wi (wAt K64 k))) rfl ?_ ⟨hI, trivial, rfl⟩
          (have ec : ∀ x, a1.eval (.const x) = x := fun _ => rfl); (have ef : ∀ x, a1.eval (.func x) = .func (.func x) #[] #[] := fun _ => rfl); generalize a1.eval = ρ at *
          clear h23
          go_simp <;> (intros; first | (exfalso; omega) | rfl)
        · intro vals p hI hp
          have h21 : (vals 21) = .int .u32 (wi (v.h + (rotr v.e 6 ^^^ rotr v.e 11 ^^^ rotr v.e 25) + (v.e &&& v.f ^^^ ~~~v.e &&& v.g))) := hp 21 (by simp [Lblk9])
          have h24 : (vals 24) = .int .u32 (wi (wAt K64 k)) := hp 24 (by simp [Lblk9])
          have e47 : (Roll.putD Dblk9 vals [21, 24] b0).eval (.tmp 47) = .int .u32 (wi (v.h + (rotr v.e 6 ^^^ rotr v.e 11 ^^^ rotr v.e 25) + (v.e &&& v.f ^^^ ~~~v.e &&& v.g))) := (Roll.eval_new 21 rfl (by decide) (by decide) (by omega)).trans h21
          have e50 : (Roll.putD Dblk9 vals [21, 24] b0).eval (.tmp 50) = .int .u32 (wi (wAt K64 k)) := (Roll.eval_new 24 rfl (by decide) (by decide) (by omega)).trans h24
          clear hp hlv hN
          unfold Roll.Goes
          simp only [Lblk9, List.getD_cons_zero, List.getD_cons_succ]
          generalize Roll.putD Dblk9 vals [21, 24] b0 = a1 at *
          refine Roll.goes_val (w' := p) (.int .u32 (wi (v.h + (rotr v.e 6 ^^^ rotr v.e 11 ^^^ rotr v.e 25) + (v.e &&& v.f ^^^ ~~~v.e &&& v.g) + wAt K64 k))) rfl ?_ ⟨hI, trivial, rfl⟩
          (have ec : ∀ x, a1.eval (.const x) = x := fun _ => rfl); (have ef : ∀ x, a1.eval (.func x) = .func (.func x) #[] #[] := fun _ => rfl); generalize a1.eval = ρ at *
          clear h21 h24
          go_simp <;> (intros; first | (exfalso; omega) | rfl)
        · intro vals p hI hp
          have e8 : (Roll.putD Dblk9 vals [] b0).eval (.tmp 8) = .int .i64 (k : Int) := (Roll.eval_old rfl).trans (hlv.at 3 (8, .int .i64 (k : Int)) rfl)
          clear hp hlv hN
          unfold Roll.Goes
          simp only [Lblk9, List.getD_cons_zero, List.getD_cons_succ]
          generalize Roll.putD Dblk9 vals [] b0 = a1 at *
          refine Roll.goes_val (w' := p) (.int .i64 (k : Int)) rfl ?_ ⟨hI, trivial, rfl⟩
          (have ec : ∀ x, a1.eval (.const x) = x := fun _ => rfl); (have ef : ∀ x, a1.eval (.func x) = .func (.func x) #[] #[] := fun _ => rfl); generalize a1.eval = ρ at *
          skip
          go_simp <;> (intros; first | (exfalso; omega) | rfl)
        · intro vals p hI hp
          have h26 : (vals 26) = .int .i64 (k : Int) := hp 26 (by simp [Lblk9])
          have e5 : (Roll.putD Dblk9 vals [26] b0).eval (.tmp 5) = .pointer (some ⟨Wb, 0, none⟩) := (Roll.eval_old rfl).trans (hlv.at 0 (5, .pointer (some ⟨Wb, 0, none⟩)) rfl)
          have e52 : (Roll.putD Dblk9 vals [26] b0).eval (.tmp 52) = .int .i64 (k : Int) := (Roll.eval_new 26 rfl (by decide) (by decide) (by omega)).trans h26
          clear hp hlv hN
          unfold Roll.Goes
          simp only [Lblk9, List.getD_cons_zero, List.getD_cons_succ]
          generalize Roll.putD Dblk9 vals [26] b0 = a1 at *
          refine Roll.goes_val (w' := p) (.pointer (some ⟨Wb, k, none⟩)) rfl ?_ ⟨hI, trivial, rfl⟩
          (have ec : ∀ x, a1.eval (.const x) = x := fun _ => rfl); (have ef : ∀ x, a1.eval (.func x) = .func (.func x) #[] #[] := fun _ => rfl); generalize a1.eval = ρ at *
          clear h26
          go_simp <;> (intros; first | (exfalso; omega) | rfl)
        · intro vals p hI hp
          have h27 : (vals 27) = .pointer (some ⟨Wb, k, none⟩) := hp 27 (by simp [Lblk9])
          have e53 : (Roll.putD Dblk9 vals [27] b0).eval (.tmp 53) = .pointer (some ⟨Wb, k, none⟩) := (Roll.eval_new 27 rfl (by decide) (by decide) (by omega)).trans h27
          clear hp hlv hN
          unfold Roll.Goes
          simp only [Lblk9, List.getD_cons_zero, List.getD_cons_succ]
          generalize Roll.putD Dblk9 vals [27] b0 = a1 at *
          have cc := cell_words hI.s k (by rw [Hl.out]; omega)
          refine Roll.goes_val (w' := p) (.int .u32 (wi (wAt (sched (wordsOf l)) k))) rfl ?_ ⟨hI, trivial, rfl⟩
          (have ec : ∀ x, a1.eval (.const x) = x := fun _ => rfl); (have ef : ∀ x, a1.eval (.func x) = .func (.func x) #[] #[] := fun _ => rfl); generalize a1.eval = ρ at *
          clear h27
          go_simp <;> (intros; first | (exfalso; omega) | rfl)
        · intro vals p hI hp
          have h25 : (vals 25) = .int .u32 (wi (v.h + (rotr v.e 6 ^^^ rotr v.e 11 ^^^ rotr v.e 25) + (v.e &&& v.f ^^^ ~~~v.e &&& v.g) + wAt K64 k)) := hp 25 (by simp [Lblk9])
          have h28 : (vals 28) = .int .u32 (wi (wAt (sched (wordsOf l)) k)) := hp 28 (by simp [Lblk9])
          have e51 : (Roll.putD Dblk9 vals [25, 28] b0).eval (.tmp 51) = .int .u32 (wi (v.h + (rotr v.e 6 ^^^ rotr v.e 11 ^^^ rotr v.e 25) + (v.e &&& v.f ^^^ ~~~v.e &&& v.g) + wAt K64 k)) := (Roll.eval_new 25 rfl (by decide) (by decide) (by omega)).trans h25
          have e54 : (Roll.putD Dblk9 vals [25, 28] b0).eval (.tmp 54) = .int .u32 (wi (wAt (sched (wordsOf l)) k)) := (Roll.eval_new 28 rfl (by decide) (by decide) (by omega)).trans h28
          clear hp hlv hN
          unfold Roll.Goes
          simp only [Lblk9, List.getD_cons_zero, List.getD_cons_succ]
          generalize Roll.putD Dblk9 vals [25, 28] b0 = a1 at *
          refine Roll.goes_val (w' := p) (.int .u32 (wi (t1Of v (wAt K64 k) (wAt (sched (wordsOf l)) k)))) rfl ?_ ⟨hI, trivial, rfl⟩
          (have ec : ∀ x, a1.eval (.const x) = x := fun _ => rfl); (have ef : ∀ x, a1.eval (.func x) = .func (.func x) #[] #[] := fun _ => rfl); generalize a1.eval = ρ at *
          clear h25 h28
          go_simp <;> (intros; first | (exfalso; omega) | rfl)
        · intro vals p hI hp
          have h29 : (vals 29) = .int .u32 (wi (t1Of v (wAt K64 k) (wAt (sched (wordsOf l)) k))) := hp 29 (by simp [Lblk9])
          have e55 : (Roll.putD Dblk9 vals [29] b0).eval (.tmp 55) = .int .u32 (wi (t1Of v (wAt K64 k) (wAt (sched (wordsOf l)) k))) := (Roll.eval_new 29 rfl (by decide) (by decide) (by omega)).trans h29
          clear hp hlv hN
          unfold Roll.Goes
          simp only [Lblk9, List.getD_cons_zero, List.getD_cons_succ]
          generalize Roll.putD Dblk9 vals [29] b0 = a1 at *
          refine Roll.goes_val (w' := p) (.int .u32 (wi (t1Of v (wAt K64 k) (wAt (sched (wordsOf l)) k)))) rfl ?_ ⟨hI, trivial, rfl⟩
          (have ec : ∀ x, a1.eval (.const x) = x := fun _ => rfl); (have ef : ∀ x, a1.eval (.func x) = .func (.func x) #[] #[] := fun _ => rfl); generalize a1.eval = ρ at *
          clear h29
          go_simp <;> (intros; first | (exfalso; omega) | rfl)
      · intro vals p hI hR
        have h0 : (vals 0) = .pointer (some ⟨Vb, 7, none⟩) := hR 0 (by omega)
        have h1 : (vals 1) = .int .u32 (wi (v.h)) := hR 1 (by omega)
        have h2 : (vals 2) = .int .u32 (wi v.e) := hR 2 (by omega)
        have h3 : (vals 3) = .int .u32 (wi (rotr v.e 6)) := hR 3 (by omega)
        have h4 : (vals 4) = .int .u32 (wi v.e) := hR 4 (by omega)
        have h5 : (vals 5) = .int .u32 (wi (rotr v.e 11)) := hR 5 (by omega)
        have h6 : (vals 6) = .int .u32 (wi (rotr v.e 6 ^^^ rotr v.e 11)) := hR 6 (by omega)
        have h7 : (vals 7) = .int .u32 (wi v.e) := hR 7 (by omega)
        have h8 : (vals 8) = .int .u32 (wi (rotr v.e 25)) := hR 8 (by omega)
        have h9 : (vals 9) = .int .u32 (wi (rotr v.e 6 ^^^ rotr v.e 11 ^^^ rotr v.e 25)) := hR 9 (by omega)
        have h10 : (vals 10) = .int .u32 (wi (v.h + (rotr v.e 6 ^^^ rotr v.e 11 ^^^ rotr v.e 25))) := hR 10 (by omega)
        have h11 : (vals 11) = .int .u32 (wi v.e) := hR 11 (by omega)
        have h12 : (vals 12) = .pointer (some ⟨Vb, 5, none⟩) := hR 12 (by omega)
        have h13 : (vals 13) = .int .u32 (wi (v.f)) := hR 13 (by omega)
        have h14 : (vals 14) = .int .u32 (wi (v.e &&& v.f)) := hR 14 (by omega)
        have h15 : (vals 15) = .int .u32 (wi v.e) := hR 15 (by omega)
        have h16 : (vals 16) = .int .u32 (wi (~~~v.e)) := hR 16 (by omega)
        have h17 : (vals 17) = .pointer (some ⟨Vb, 6, none⟩) := hR 17 (by omega)
        have h18 : (vals 18) = .int .u32 (wi (v.g)) := hR 18 (by omega)
        have h19 : (vals 19) = .int .u32 (wi (~~~v.e &&& v.g)) := hR 19 (by omega)
        have h20 : (vals 20) = .int .u32 (wi (v.e &&& v.f ^^^ ~~~v.e &&& v.g)) := hR 20 (by omega)
        have h21 : (vals 21) = .int .u32 (wi (v.h + (rotr v.e 6 ^^^ rotr v.e 11 ^^^ rotr v.e 25) + (v.e &&& v.f ^^^ ~~~v.e &&& v.g))) := hR 21 (by omega)
        have h22 : (vals 22) = .int .i64 (k : Int) := hR 22 (by omega)
        have h23 : (vals 23) = .pointer (some ⟨Kb, k, none⟩) := hR 23 (by omega)
        have h24 : (vals 24) = .int .u32 (wi (wAt K64 k)) := hR 24 (by omega)
        have h25 : (vals 25) = .int .u32 (wi (v.h + (rotr v.e 6 ^^^ rotr v.e 11 ^^^ rotr v.e 25) + (v.e &&& v.f ^^^ ~~~v.e &&& v.g) + wAt K64 k)) := hR 25 (by omega)
        have h26 : (vals 26) = .int .i64 (k : Int) := hR 26 (by omega)
        have h27 : (vals 27) = .pointer (some ⟨Wb, k, none⟩) := hR 27 (by omega)
        have h28 : (vals 28) = .int .u32 (wi (wAt (sched (wordsOf l)) k)) := hR 28 (by omega)
        have h29 : (vals 29) = .int .u32 (wi (t1Of v (wAt K64 k) (wAt (sched (wordsOf l)) k))) := hR 29 (by omega)
        have h30 : (vals 30) = .int .u32 (wi (t1Of v (wAt K64 k) (wAt (sched (wordsOf l)) k))) := hR 30 (by omega)
        clear hR
        simp only [List.range_succ, List.range_zero, List.nil_append, List.cons_append, Roll.putD, Act.put, List.getD_cons_zero, List.getD_cons_succ, List.setIfInBounds_toArray, List.set_cons_zero, List.set_cons_succ, List.drop_succ_cons, List.drop_zero, Dblk9]
        simp only [h0, h1, h2, h3, h4, h5, h6, h7, h8, h9, h10, h11, h12, h13, h14, h15, h16, h17, h18, h19, h20, h21, h22, h23, h24, h25, h26, h27, h28, h29, h30]
        clear h0 h1 h2 h3 h4 h5 h6 h7 h8 h9 h10 h11 h12 h13 h14 h15 h16 h17 h18 h19 h20 h21 h22 h23 h24 h25 h26 h27 h28 h29 h30
        have hI9 := hI
        clear hI
        go_upto_region 10 with (fail)
        refine Roll.region_f 25 112 Dblk10 Lblk10 [(7, .pointer (some ⟨Vb, 0, none⟩)), (10, .int .u32 (wi v.a))] (fun p => BI w Wb Kb Vb hs (sched (wordsOf l)) v.list p) (fun _ _ => True) [fun vv p => vv = .int .u32 (wi v.a), fun vv p => vv = .int .u32 (wi (rotr v.a 2)), fun vv p => vv = .int .u32 (wi v.a), fun vv p => vv = .int .u32 (wi (rotr v.a 13)), fun vv p => vv = .int .u32 (wi (rotr v.a 2 ^^^ rotr v.a 13)), fun vv p => vv = .int .u32 (wi v.a), fun vv p => vv = .int .u32 (wi (rotr v.a 22)), fun vv p => vv = .int .u32 (wi (rotr v.a 2 ^^^ rotr v.a 13 ^^^ rotr v.a 22)), fun vv p => vv = .int .u32 (wi v.a), fun vv p => vv = .pointer (some ⟨Vb, 1, none⟩), fun vv p => vv = .int .u32 (wi (v.b)), fun vv p => vv = .int .u32 (wi (v.a &&& v.b)), fun vv p => vv = .int .u32 (wi v.a), fun vv p => vv = .pointer (some ⟨Vb, 2, none⟩), fun vv p => vv = .int .u32 (wi (v.c)), fun vv p => vv = .int .u32 (wi (v.a &&& v.c)), fun vv p => vv = .int .u32 (wi (v.a &&& v.b ^^^ v.a &&& v.c)), fun vv p => vv = .pointer (some ⟨Vb, 1, none⟩), fun vv p => vv = .int .u32 (wi (v.b)), fun vv p => vv = .pointer (some ⟨Vb, 2, none⟩), fun vv p => vv = .int .u32 (wi (v.c)), fun vv p => vv = .int .u32 (wi (v.b &&& v.c)), fun vv p => vv = .int .u32 (wi (v.a &&& v.b ^^^ v.a &&& v.c ^^^ v.b &&& v.c)), fun vv p => vv = .int .u32 (wi (t2Of v)), fun vv p => vv = .int .u32 (wi (t2Of v))] (by kernel_rfl) (by kernel_rfl) rfl ⟨rfl, rfl, trivial⟩ (hI9.drew) ?_ ?_ ?_
        · exact ⟨fun _ _ _ _ h => h, fun _ _ _ _ h => h, fun _ _ _ _ h => h, fun _ _ _ _ h => h, fun _ _ _ _ h => h, fun _ _ _ _ h => h, fun _ _ _ _ h => h, fun _ _ _ _ h => h, fun _ _ _ _ h => h, fun _ _ _ _ h => h, fun _ _ _ _ h => h, fun _ _ _ _ h => h, fun _ _ _ _ h => h, fun _ _ _ _ h => h, fun _ _ _ _ h => h, fun _ _ _ _ h => h, fun _ _ _ _ h => h, fun _ _ _ _ h => h, fun _ _ _ _ h => h, fun _ _ _ _ h => h, fun _ _ _ _ h => h, fun _ _ _ _ h => h, fun _ _ _ _ h => h, fun _ _ _ _ h => h, fun _ _ _ _ h => h, trivial⟩
        · intro b0 hN hlv
          refine ⟨?_, ?_, ?_, ?_, ?_, ?_, ?_, ?_, ?_, ?_, ?_, ?_, ?_, ?_, ?_, ?_, ?_, ?_, ?_, ?_, ?_, ?_, ?_, ?_, ?_, trivial⟩
          · intro vals p hI hp
            have e10 : (Roll.putD Dblk10 vals [] b0).eval (.tmp 10) = .int .u32 (wi v.a) := (Roll.eval_old rfl).trans (hlv.at 1 (10, .int .u32 (wi v.a)) rfl)
            clear hp hlv hN
            unfold Roll.Goes
            simp only [Lblk10, List.getD_cons_zero, List.getD_cons_succ]
            generalize Roll.putD Dblk10 vals [] b0 = a1 at *
            refine Roll.goes_val (w' := p) (.int .u32 (wi v.a)) rfl ?_ ⟨hI, trivial, rfl⟩
            (have ec : ∀ x, a1.eval (.const x) = x := fun _ => rfl); (have ef : ∀ x, a1.eval (.func x) = .func (.func x) #[] #[] := fun _ => rfl); generalize a1.eval = ρ at *
            skip
            go_simp <;> (intros; first | (exfalso; omega) | rfl)
          · intro vals p hI hp
            have h0 : (vals 0) = .int .u32 (wi v.a) := hp 0 (by simp [Lblk10])
            have e56 : (Roll.putD Dblk10 vals [0] b0).eval (.tmp 56) = .int .u32 (wi v.a) := (Roll.eval_new 0 rfl (by decide) (by decide) (by omega)).trans h0
            clear hp hlv hN
            unfold Roll.Goes
            simp only [Lblk10, List.getD_cons_zero, List.getD_cons_succ]
            generalize Roll.putD Dblk10 vals [0] b0 = a1 at *
            refine Roll.goes_call 49 #[.int .u32 (wi (v.a)), .int .i64 2] p rfl (by have ec : ∀ x, a1.eval (.const x) = x := fun _ => rfl; have ef : ∀ x, a1.eval (.func x) = .func (.func x) #[] #[] := fun _ => rfl; generalize a1.eval = ρ at *; go_simp) ?_
            refine (refrot_any _ 2 _ (by decide) (by decide)).mono ?_
            rintro e p2 ⟨rfl, nn, rfl⟩
            exact ⟨_, rfl, hI.drewN _, trivial, rfl⟩
          · intro vals p hI hp
            have e10 : (Roll.putD Dblk10 vals [] b0).eval (.tmp 10) = .int .u32 (wi v.a) := (Roll.eval_old rfl).trans (hlv.at 1 (10, .int .u32 (wi v.a)) rfl)
            clear hp hlv hN
            unfold Roll.Goes
            simp only [Lblk10, List.getD_cons_zero, List.getD_cons_succ]
            generalize Roll.putD Dblk10 vals [] b0 = a1 at *
            refine Roll.goes_val (w' := p) (.int .u32 (wi v.a)) rfl ?_ ⟨hI, trivial, rfl⟩
            (have ec : ∀ x, a1.eval (.const x) = x := fun _ => rfl); (have ef : ∀ x, a1.eval (.func x) = .func (.func x) #[] #[] := fun _ => rfl); generalize a1.eval = ρ at *
            skip
            go_simp <;> (intros; first | (exfalso; omega) | rfl)
          · intro vals p hI hp
            have h2 : (vals 2) = .int .u32 (wi v.a) := hp 2 (by simp [Lblk10])
            have e58 : (Roll.putD Dblk10 vals [2] b0).eval (.tmp 58) = .int .u32 (wi v.a) := (Roll.eval_new 2 rfl (by decide) (by decide) (by omega)).trans h2
            clear hp hlv hN
            unfold Roll.Goes
            simp only [Lblk10, List.getD_cons_zero, List.getD_cons_succ]
            generalize Roll.putD Dblk10 vals [2] b0 = a1 at *
            refine Roll.goes_call 49 #[.int .u32 (wi (v.a)), .int .i64 13] p rfl (by have ec : ∀ x, a1.eval (.const x) = x := fun _ => rfl; have ef : ∀ x, a1.eval (.func x) = .func (.func x) #[] #[] := fun _ => rfl; generalize a1.eval = ρ at *; go_simp) ?_
            refine (refrot_any _ 13 _ (by decide) (by decide)).mono ?_
            rintro e p2 ⟨rfl, nn, rfl⟩
            exact ⟨_, rfl, hI.drewN _, trivial, rfl⟩
          · intro vals p hI hp
            have h1 : (vals 1) = .int .u32 (wi (rotr v.a 2)) := hp 1 (by simp [Lblk10])
            have h3 : (vals 3) = .int .u32 (wi (rotr v.a 13)) := hp 3 (by simp [Lblk10])
            have e57 : (Roll.putD Dblk10 vals [1, 3] b0).eval (.tmp 57) = .int .u32 (wi (rotr v.a 2)) := (Roll.eval_new 1 rfl (by decide) (by decide) (by omega)).trans h1
            have e59 : (Roll.putD Dblk10 vals [1, 3] b0).eval (.tmp 59) = .int .u32 (wi (rotr v.a 13)) := (Roll.eval_new 3 rfl (by decide) (by decide) (by omega)).trans h3
            clear hp hlv hN
            unfold Roll.Goes
            simp only [Lblk10, List.getD_cons_zero, List.getD_cons_succ]
            generalize Roll.putD Dblk10 vals [1, 3] b0 = a1 at *
            refine Roll.goes_val (w' := p) (.int .u32 (wi (rotr v.a 2 ^^^ rotr v.a 13))) rfl ?_ ⟨hI, trivial, rfl⟩
            (have ec : ∀ x, a1.eval (.const x) = x := fun _ => rfl); (have ef : ∀ x, a1.eval (.func x) = .func (.func x) #[] #[] := fun _ => rfl); generalize a1.eval = ρ at *
            clear h1 h3
            go_simp <;> (intros; first | (exfalso; omega) | rfl)
          · intro vals p hI hp
            have e10 : (Roll.putD Dblk10 vals [] b0).eval (.tmp 10) = .int .u32 (wi v.a) := (Roll.eval_old rfl).trans (hlv.at 1 (10, .int .u32 (wi v.a)) rfl)
            clear hp hlv hN
            unfold Roll.Goes
            simp only [Lblk10, List.getD_cons_zero, List.getD_cons_succ]
            generalize Roll.putD Dblk10 vals [] b0 = a1 at *
            refine Roll.goes_val (w' := p) (.int .u32 (wi v.a)) rfl ?_ ⟨hI, trivial, rfl⟩
            (have ec : ∀ x, a1.eval (.const x) = x := fun _ => rfl); (have ef : ∀ x, a1.eval (.func x) = .func (.func x) #[] #[] := fun _ => rfl); generalize a1.eval = ρ at *
            skip
            go_simp <;> (intros; first | (exfalso; omega) | rfl)
          · intro vals p hI hp
            have h5 : (vals 5) = .int .u32 (wi v.a) := hp 5 (by simp [Lblk10])
            have e61 : (Roll.putD Dblk10 vals [5] b0).eval (.tmp 61) = .int .u32 (wi v.a) := (Roll.eval_new 5 rfl (by decide) (by decide) (by omega)).trans h5
            clear hp hlv hN
            unfold Roll.Goes
            simp only [Lblk10, List.getD_cons_zero, List.getD_cons_succ]
            generalize Roll.putD Dblk10 vals [5] b0 = a1 at *
            refine Roll.goes_call 49 #[.int .u32 (wi (v.a)), .int .i64 22] p rfl (by have ec : ∀ x, a1.eval (.const x) = x := fun _ => rfl; have ef : ∀ x, a1.eval (.func x) = .func (.func x) #[] #[] := fun _ => rfl; generalize a1.eval = ρ at *; go_simp) ?_
            refine (refrot_any _ 22 _ (by decide) (by decide)).mono ?_
            rintro e p2 ⟨rfl, nn, rfl⟩
            exact ⟨_, rfl, hI.drewN _, trivial, rfl⟩
          · intro vals p hI hp
            have h4 : (vals 4) = .int .u32 (wi (rotr v.a 2 ^^^ rotr v.a 13)) := hp 4 (by simp [Lblk10])
            have h6 : (vals 6) = .int .u32 (wi (rotr v.a 22)) := hp 6 (by simp [Lblk10])
            have e60 : (Roll.putD Dblk10 vals [4, 6] b0).eval (.tmp 60) = .int .u32 (wi (rotr v.a 2 ^^^ rotr v.a 13)) := (Roll.eval_new 4 rfl (by decide) (by decide) (by omega)).trans h4
            have e62 : (Roll.putD Dblk10 vals [4, 6] b0).eval (.tmp 62) = .int .u32 (wi (rotr v.a 22)) := (Roll.eval_new 6 rfl (by decide) (by decide) (by omega)).trans h6
            clear hp hlv hN
            unfold Roll.Goes
            simp only [Lblk10, List.getD_cons_zero, List.getD_cons_succ]
            generalize Roll.putD Dblk10 vals [4, 6] b0 = a1 at *
            refine Roll.goes_val (w' := p) (.int .u32 (wi (rotr v.a 2 ^^^ rotr v.a 13 ^^^ rotr v.a 22))) rfl ?_ ⟨hI, trivial, rfl⟩
            (have ec : ∀ x, a1.eval (.const x) = x := fun _ => rfl); (have ef : ∀ x, a1.eval (.func x) = .func (.func x) #[] #[] := fun _ => rfl); generalize a1.eval = ρ at *
            clear h4 h6
            go_simp <;> (intros; first | (exfalso; omega) | rfl)
          · intro vals p hI hp
            have e10 : (Roll.putD Dblk10 vals [] b0).eval (.tmp 10) = .int .u32 (wi v.a) := (Roll.eval_old rfl).trans (hlv.at 1 (10, .int .u32 (wi v.a)) rfl)
            clear hp hlv hN
            unfold Roll.Goes
            simp only [Lblk10, List.getD_cons_zero, List.getD_cons_succ]
            generalize Roll.putD Dblk10 vals [] b0 = a1 at *
            refine Roll.goes_val (w' := p) (.int .u32 (wi v.a)) rfl ?_ ⟨hI, trivial, rfl⟩
            (have ec : ∀ x, a1.eval (.const x) = x := fun _ => rfl); (have ef : ∀ x, a1.eval (.func x) = .func (.func x) #[] #[] := fun _ => rfl); generalize a1.eval = ρ at *
            skip
            go_simp <;> (intros; first | (exfalso; omega) | rfl)
          · intro vals p hI hp
            have e7 : (Roll.putD Dblk10 vals [] b0).eval (.tmp 7) = .pointer (some ⟨Vb, 0, none⟩) := (Roll.eval_old rfl).trans (hlv.at 0 (7, .pointer (some ⟨Vb, 0, none⟩)) rfl)
            clear hp hlv hN
            unfold Roll.Goes
            simp only [Lblk10, List.getD_cons_zero, List.getD_cons_succ]
            generalize Roll.putD Dblk10 vals [] b0 = a1 at *
            refine Roll.goes_val (w' := p) (.pointer (some ⟨Vb, 1, none⟩)) rfl ?_ ⟨hI, trivial, rfl⟩
            (have ec : ∀ x, a1.eval (.const x) = x := fun _ => rfl); (have ef : ∀ x, a1.eval (.func x) = .func (.func x) #[] #[] := fun _ => rfl); generalize a1.eval = ρ at *
            skip
            go_simp <;> (intros; first | (exfalso; omega) | rfl)
          · intro vals p hI hp
            have h9 : (vals 9) = .pointer (some ⟨Vb, 1, none⟩) := hp 9 (by simp [Lblk10])
            have e65 : (Roll.putD Dblk10 vals [9] b0).eval (.tmp 65) = .pointer (some ⟨Vb, 1, none⟩) := (Roll.eval_new 9 rfl (by decide) (by decide) (by omega)).trans h9
            clear hp hlv hN
            unfold Roll.Goes
            simp only [Lblk10, List.getD_cons_zero, List.getD_cons_succ]
            generalize Roll.putD Dblk10 vals [9] b0 = a1 at *
            have cc : p.cell? ⟨Vb, 1, none⟩ = some (.int .u32 (wi v.b)) := cell_words hI.v 1 (by rw [V8_len]; omega)
            refine Roll.goes_val (w' := p) (.int .u32 (wi (v.b))) rfl ?_ ⟨hI, trivial, rfl⟩
            (have ec : ∀ x, a1.eval (.const x) = x := fun _ => rfl); (have ef : ∀ x, a1.eval (.func x) = .func (.func x) #[] #[] := fun _ => rfl); generalize a1.eval = ρ at *
            clear h9
            go_simp <;> (intros; first | (exfalso; omega) | rfl)
          · intro vals p hI hp
            have h8 : (vals 8) = .int .u32 (wi v.a) := hp 8 (by simp [Lblk10])
            have h10 : (vals 10) = .int .u32 (wi (v.b)) := hp 10 (by simp [Lblk10])
            have e64 : (Roll.putD Dblk10 vals [8, 10] b0).eval (.tmp 64) = .int .u32 (wi v.a) := (Roll.eval_new 8 rfl (by decide) (by decide) (by omega)).trans h8
            have e66 : (Roll.putD Dblk10 vals [8, 10] b0).eval (.tmp 66) = .int .u32 (wi (v.b)) := (Roll.eval_new 10 rfl (by decide) (by decide) (by omega)).trans h10
            clear hp hlv hN
            unfold Roll.Goes
            simp only [Lblk10, List.getD_cons_zero, List.getD_cons_succ]
            generalize Roll.putD Dblk10 vals [8, 10] b0 = a1 at *
            refine Roll.goes_val (w' := p) (.int .u32 (wi (v.a &&& v.b))) rfl ?_ ⟨hI, trivial, rfl⟩
            (have ec : ∀ x, a1.eval (.const x) = x := fun _ => rfl); (have ef : ∀ x, a1.eval (.func x) = .func (.func x) #[] #[] := fun _ => rfl); generalize a1.eval = ρ at *
            clear h8 h10
            go_simp <;> (intros; first | (exfalso; omega) | rfl)
          · intro vals p hI hp
            have e10 : (Roll.putD Dblk10 vals [] b0).eval (.tmp 10) = .int .u32 (wi v.a) := (Roll.eval_old rfl).trans (hlv.at 1 (10, .int .u32 (wi v.a)) rfl)
            clear hp hlv hN
            unfold Roll.Goes
            simp only [Lblk10, List.getD_cons_zero, List.getD_cons_succ]
            generalize Roll.putD Dblk10 vals [] b0 = a1 at *
            refine Roll.goes_val (w' := p) (.int .u32 (wi v.a)) rfl ?_ ⟨hI, trivial, rfl⟩
            (have ec : ∀ x, a1.eval (.const x) = x := fun _ => rfl); (have ef : ∀ x, a1.eval (.func x) = .func (.func x) #[] #[] := fun _ => rfl); generalize a1.eval = ρ at *
            skip
            go_simp <;> (intros; first | (exfalso; omega) | rfl)
          · intro vals p hI hp
            have e7 : (Roll.putD Dblk10 vals [] b0).eval (.tmp 7) = .pointer (some ⟨Vb, 0, none⟩) := (Roll.eval_old rfl).trans (hlv.at 0 (7, .pointer (some ⟨Vb, 0, none⟩)) rfl)
            clear hp hlv hN
            unfold Roll.Goes
            simp only [Lblk10, List.getD_cons_zero, List.getD_cons_succ]
            generalize Roll.putD Dblk10 vals [] b0 = a1 at *
            refine Roll.goes_val (w' := p) (.pointer (some ⟨Vb, 2, none⟩)) rfl ?_ ⟨hI, trivial, rfl⟩
            (have ec : ∀ x, a1.eval (.const x) = x := fun _ => rfl); (have ef : ∀ x, a1.eval (.func x) = .func (.func x) #[] #[] := fun _ => rfl); generalize a1.eval = ρ at *
            skip
            go_simp <;> (intros; first | (exfalso; omega) | rfl)
          · intro vals p hI hp
            have h13 : (vals 13) = .pointer (some ⟨Vb, 2, none⟩) := hp 13 (by simp [Lblk10])
            have e69 : (Roll.putD Dblk10 vals [13] b0).eval (.tmp 69) = .pointer (some ⟨Vb, 2, none⟩) := (Roll.eval_new 13 rfl (by decide) (by decide) (by omega)).trans h13
            clear hp hlv hN
            unfold Roll.Goes
            simp only [Lblk10, List.getD_cons_zero, List.getD_cons_succ]
            generalize Roll.putD Dblk10 vals [13] b0 = a1 at *
            have cc : p.cell? ⟨Vb, 2, none⟩ = some (.int .u32 (wi v.c)) := cell_words hI.v 2 (by rw [V8_len]; omega)
            refine Roll.goes_val (w' := p) (.int .u32 (wi (v.c))) rfl ?_ ⟨hI, trivial, rfl⟩
            (have ec : ∀ x, a1.eval (.const x) = x := fun _ => rfl); (have ef : ∀ x, a1.eval (.func x) = .func (.func x) #[] #[] := fun _ => rfl); generalize a1.eval = ρ at *
            clear h13
            go_simp <;> (intros; first | (exfalso; omega) | rfl)
          · intro vals p hI hp
            have h12 : (vals 12) = .int .u32 (wi v.a) := hp 12 (by simp [Lblk10])
            have h14 : (vals 14) = .int .u32 (wi (v.c)) := hp 14 (by simp [Lblk10])
            have e68 : (Roll.putD Dblk10 vals [12, 14] b0).eval (.tmp 68) = .int .u32 (wi v.a) := (Roll.eval_new 12 rfl (by decide) (by decide) (by omega)).trans h12
            have e70 : (Roll.putD Dblk10 vals [12, 14] b0).eval (.tmp 70) = .int .u32 (wi (v.c)) := (Roll.eval_new 14 rfl (by decide) (by decide) (by omega)).trans h14
            clear hp hlv hN
            unfold Roll.Goes
            simp only [Lblk10, List.getD_cons_zero, List.getD_cons_succ]
            generalize Roll.putD Dblk10 vals [12, 14] b0 = a1 at *
            refine Roll.goes_val (w' := p) (.int .u32 (wi (v.a &&& v.c))) rfl ?_ ⟨hI, trivial, rfl⟩
            (have ec : ∀ x, a1.eval (.const x) = x := fun _ => rfl); (have ef : ∀ x, a1.eval (.func x) = .func (.func x) #[] #[] := fun _ => rfl); generalize a1.eval = ρ at *
            clear h12 h14
            go_simp <;> (intros; first | (exfalso; omega) | rfl)
          · intro vals p hI hp
            have h11 : (vals 11) = .int .u32 (wi (v.a &&& v.b)) := hp 11 (by simp [Lblk10])
            have h15 : (vals 15) = .int .u32 (wi (v.a &&& v.c)) := hp 15 (by simp [Lblk10])
            have e67 : (Roll.putD Dblk10 vals [11, 15] b0).eval (.tmp 67) = .int .u32 (wi (v.a &&& v.b)) := (Roll.eval_new 11 rfl (by decide) (by decide) (by omega)).trans h11
            have e71 : (Roll.putD Dblk10 vals [11, 15] b0).eval (.tmp 71) = .int .u32 (wi (v.a &&& v.c)) := (Roll.eval_new 15 rfl (by decide) (by decide) (by omega)).trans h15
            clear hp hlv hN
            unfold Roll.Goes
            simp only [Lblk10, List.getD_cons_zero, List.getD_cons_succ]
            generalize Roll.putD Dblk10 vals [11, 15] b0 = a1 at *
            refine Roll.goes_val (w' := p) (.int .u32 (wi (v.a &&& v.b ^^^ v.a &&& v.c))) rfl ?_ ⟨hI, trivial, rfl⟩
            (have ec : ∀ x, a1.eval (.const x) = x := fun _ => rfl); (have ef : ∀ x, a1.eval (.func x) = .func (.func x) #[] #[] := fun _ => rfl); generalize a1.eval = ρ at *
            clear h11 h15
            go_simp <;> (intros; first | (exfalso; omega) | rfl)
          · intro vals p hI hp
            have e7 : (Roll.putD Dblk10 vals [] b0).eval (.tmp 7) = .pointer (some ⟨Vb, 0, none⟩) := (Roll.eval_old rfl).trans (hlv.at 0 (7, .pointer (some ⟨Vb, 0, none⟩)) rfl)
            clear hp hlv hN
            unfold Roll.Goes
            simp only [Lblk10, List.getD_cons_zero, List.getD_cons_succ]
            generalize Roll.putD Dblk10 vals [] b0 = a1 at *
            refine Roll.goes_val (w' := p) (.pointer (some ⟨Vb, 1, none⟩)) rfl ?_ ⟨hI, trivial, rfl⟩
            (have ec : ∀ x, a1.eval (.const x) = x := fun _ => rfl); (have ef : ∀ x, a1.eval (.func x) = .func (.func x) #[] #[] := fun _ => rfl); generalize a1.eval = ρ at *
            skip
            go_simp <;> (intros; first | (exfalso; omega) | rfl)
          · intro vals p hI hp
            have h17 : (vals 17) = .pointer (some ⟨Vb, 1, none⟩) := hp 17 (by simp [Lblk10])
            have e73 : (Roll.putD Dblk10 vals [17] b0).eval (.tmp 73) = .pointer (some ⟨Vb, 1, none⟩) := (Roll.eval_new 17 rfl (by decide) (by decide) (by omega)).trans h17
            clear hp hlv hN
            unfold Roll.Goes
            simp only [Lblk10, List.getD_cons_zero, List.getD_cons_succ]
            generalize Roll.putD Dblk10 vals [17] b0 = a1 at *
            have cc : p.cell? ⟨Vb, 1, none⟩ = some (.int .u32 (wi v.b)) := cell_words hI.v 1 (by rw [V8_len]; omega)
            refine Roll.goes_val (w' := p) (.int .u32 (wi (v.b))) rfl ?_ ⟨hI, trivial, rfl⟩
            (have ec : ∀ x, a1.eval (.const x) = x := fun _ => rfl); (have ef : ∀ x, a1.eval (.func x) = .func (.func x) #[] #[] := fun _ => rfl); generalize a1.eval = ρ at *
            clear h17
            go_simp <;> (intros; first | (exfalso; omega) | rfl)
          · intro vals p hI hp
            have e7 : (Roll.putD Dblk10 vals [] b0).eval (.tmp 7) = .pointer (some ⟨Vb, 0, none⟩) := (Roll.eval_old rfl).trans (hlv.at 0 (7, .pointer (some ⟨Vb, 0, none⟩)) rfl)
            clear hp hlv hN
            unfold Roll.Goes
            simp only [Lblk10, List.getD_cons_zero, List.getD_cons_succ]
            generalize Roll.putD Dblk10 vals [] b0 = a1 at *
            refine Roll.goes_val (w' := p) (.pointer (some ⟨Vb, 2, none⟩)) rfl ?_ ⟨hI, trivial, rfl⟩
            (have ec : ∀ x, a1.eval (.const x) = x := fun _ => rfl); (have ef : ∀ x, a1.eval (.func x) = .func (.func x) #[] #[] := fun _ => rfl); generalize a1.eval = ρ at *
            skip
            go_simp <;> (intros; first | (exfalso; omega) | rfl)
          · intro vals p hI hp
            have h19 : (vals 19) = .pointer (some ⟨Vb, 2, none⟩) := hp 19 (by simp [Lblk10])
            have e75 : (Roll.putD Dblk10 vals [19] b0).eval (.tmp 75) = .pointer (some ⟨Vb, 2, none⟩) := (Roll.eval_new 19 rfl (by decide) (by decide) (by omega)).trans h19
            clear hp hlv hN
            unfold Roll.Goes
            simp only [Lblk10, List.getD_cons_zero, List.getD_cons_succ]
            generalize Roll.putD Dblk10 vals [19] b0 = a1 at *
            have cc : p.cell? ⟨Vb, 2, none⟩ = some (.int .u32 (wi v.c)) := cell_words hI.v 2 (by rw [V8_len]; omega)
            refine Roll.goes_val (w' := p) (.int .u32 (wi (v.c))) rfl ?_ ⟨hI, trivial, rfl⟩
            (have ec : ∀ x, a1.eval (.const x) = x := fun _ => rfl); (have ef : ∀ x, a1.eval (.func x) = .func (.func x) #[] #[] := fun _ => rfl); generalize a1.eval = ρ at *
            clear h19
            go_simp <;> (intros; first | (exfalso; omega) | rfl)
          · intro vals p hI hp
            have h18 : (vals 18) = .int .u32 (wi (v.b)) := hp 18 (by simp [Lblk10])
            have h20 : (vals 20) = .int .u32 (wi (v.c)) := hp 20 (by simp [Lblk10])
            have e74 : (Roll.putD Dblk10 vals [18, 20] b0).eval (.tmp 74) = .int .u32 (wi (v.b)) := (Roll.eval_new 18 rfl (by decide) (by decide) (by omega)).trans h18
            have e76 : (Roll.putD Dblk10 vals [18, 20] b0).eval (.tmp 76) = .int .u32 (wi (v.c)) := (Roll.eval_new 20 rfl (by decide) (by decide) (by omega)).trans h20
            clear hp hlv hN
            unfold Roll.Goes
            simp only [Lblk10, List.getD_cons_zero, List.getD_cons_succ]
            generalize Roll.putD Dblk10 vals [18, 20] b0 = a1 at *
            refine Roll.goes_val (w' := p) (.int .u32 (wi (v.b &&& v.c))) rfl ?_ ⟨hI, trivial, rfl⟩
            (have ec : ∀ x, a1.eval (.const x) = x := fun _ => rfl); (have ef : ∀ x, a1.eval (.func x) = .func (.func x) #[] #[] := fun _ => rfl); generalize a1.eval = ρ at *
            clear h18 h20
            go_simp <;> (intros; first | (exfalso; omega) | rfl)
          · intro vals p hI hp
            have h16 : (vals 16) = .int .u32 (wi (v.a &&& v.b ^^^ v.a &&& v.c)) := hp 16 (by simp [Lblk10])
            have h21 : (vals 21) = .int .u32 (wi (v.b &&& v.c)) := hp 21 (by simp [Lblk10])
            have e72 : (Roll.putD Dblk10 vals [16, 21] b0).eval (.tmp 72) = .int .u32 (wi (v.a &&& v.b ^^^ v.a &&& v.c)) := (Roll.eval_new 16 rfl (by decide) (by decide) (by omega)).trans h16
            have e77 : (Roll.putD Dblk10 vals [16, 21] b0).eval (.tmp 77) = .int .u32 (wi (v.b &&& v.c)) := (Roll.eval_new 21 rfl (by decide) (by decide) (by omega)).trans h21
            clear hp hlv hN
            unfold Roll.Goes
            simp only [Lblk10, List.getD_cons_zero, List.getD_cons_succ]
            generalize Roll.putD Dblk10 vals [16, 21] b0 = a1 at *
            refine Roll.goes_val (w' := p) (.int .u32 (wi (v.a &&& v.b ^^^ v.a &&& v.c ^^^ v.b &&& v.c))) rfl ?_ ⟨hI, trivial, rfl⟩
            (have ec : ∀ x, a1.eval (.const x) = x := fun _ => rfl); (have ef : ∀ x, a1.eval (.func x) = .func (.func x) #[] #[] := fun _ => rfl); generalize a1.eval = ρ at *
            clear h16 h21
            go_simp <;> (intros; first | (exfalso; omega) | rfl)
          · intro vals p hI hp
            have h7 : (vals 7) = .int .u32 (wi (rotr v.a 2 ^^^ rotr v.a 13 ^^^ rotr v.a 22)) := hp 7 (by simp [Lblk10])
            have h22 : (vals 22) = .int .u32 (wi (v.a &&& v.b ^^^ v.a &&& v.c ^^^ v.b &&& v.c)) := hp 22 (by simp [Lblk10])
            have e63 : (Roll.putD Dblk10 vals [7, 22] b0).eval (.tmp 63) = .int .u32 (wi (rotr v.a 2 ^^^ rotr v.a 13 ^^^ rotr v.a 22)) := (Roll.eval_new 7 rfl (by decide) (by decide) (by omega)).trans h7
            have e78 : (Roll.putD Dblk10 vals [7, 22] b0).eval (.tmp 78) = .int .u32 (wi (v.a &&& v.b ^^^ v.a &&& v.c ^^^ v.b &&& v.c)) := (Roll.eval_new 22 rfl (by decide) (by decide) (by omega)).trans h22
            clear hp hlv hN
            unfold Roll.Goes
            simp only [Lblk10, List.getD_cons_zero, List.getD_cons_succ]
            generalize Roll.putD Dblk10 vals [7, 22] b0 = a1 at *
            refine Roll.goes_val (w' := p) (.int .u32 (wi (t2Of v))) rfl ?_ ⟨hI, trivial, rfl⟩
            (have ec : ∀ x, a1.eval (.const x) = x := fun _ => rfl); (have ef : ∀ x, a1.eval (.func x) = .func (.func x) #[] #[] := fun _ => rfl); generalize a1.eval = ρ at *
            clear h7 h22
            go_simp <;> (intros; first | (exfalso; omega) | rfl)
          · intro vals p hI hp
            have h23 : (vals 23) = .int .u32 (wi (t2Of v)) := hp 23 (by simp [Lblk10])
            have e79 : (Roll.putD Dblk10 vals [23] b0).eval (.tmp 79) = .int .u32 (wi (t2Of v)) := (Roll.eval_new 23 rfl (by decide) (by decide) (by omega)).trans h23
            clear hp hlv hN
            unfold Roll.Goes
            simp only [Lblk10, List.getD_cons_zero, List.getD_cons_succ]
            generalize Roll.putD Dblk10 vals [23] b0 = a1 at *
            refine Roll.goes_val (w' := p) (.int .u32 (wi (t2Of v))) rfl ?_ ⟨hI, trivial, rfl⟩
            (have ec : ∀ x, a1.eval (.const x) = x := fun _ => rfl); (have ef : ∀ x, a1.eval (.func x) = .func (.func x) #[] #[] := fun _ => rfl); generalize a1.eval = ρ at *
            clear h23
            go_simp <;> (intros; first | (exfalso; omega) | rfl)
        · intro vals p hI hR
          have h0 : (vals 0) = .int .u32 (wi v.a) := hR 0 (by omega)
          have h1 : (vals 1) = .int .u32 (wi (rotr v.a 2)) := hR 1 (by omega)
          have h2 : (vals 2) = .int .u32 (wi v.a) := hR 2 (by omega)
          have h3 : (vals 3) = .int .u32 (wi (rotr v.a 13)) := hR 3 (by omega)
          have h4 : (vals 4) = .int .u32 (wi (rotr v.a 2 ^^^ rotr v.a 13)) := hR 4 (by omega)
          have h5 : (vals 5) = .int .u32 (wi v.a) := hR 5 (by omega)
          have h6 : (vals 6) = .int .u32 (wi (rotr v.a 22)) := hR 6 (by omega)
          have h7 : (vals 7) = .int .u32 (wi (rotr v.a 2 ^^^ rotr v.a 13 ^^^ rotr v.a 22)) := hR 7 (by omega)
          have h8 : (vals 8) = .int .u32 (wi v.a) := hR 8 (by omega)
          have h9 : (vals 9) = .pointer (some ⟨Vb, 1, none⟩) := hR 9 (by omega)
          have h10 : (vals 10) = .int .u32 (wi (v.b)) := hR 10 (by omega)
          have h11 : (vals 11) = .int .u32 (wi (v.a &&& v.b)) := hR 11 (by omega)
          have h12 : (vals 12) = .int .u32 (wi v.a) := hR 12 (by omega)
          have h13 : (vals 13) = .pointer (some ⟨Vb, 2, none⟩) := hR 13 (by omega)
          have h14 : (vals 14) = .int .u32 (wi (v.c)) := hR 14 (by omega)
          have h15 : (vals 15) = .int .u32 (wi (v.a &&& v.c)) := hR 15 (by omega)
          have h16 : (vals 16) = .int .u32 (wi (v.a &&& v.b ^^^ v.a &&& v.c)) := hR 16 (by omega)
          have h17 : (vals 17) = .pointer (some ⟨Vb, 1, none⟩) := hR 17 (by omega)
          have h18 : (vals 18) = .int .u32 (wi (v.b)) := hR 18 (by omega)
          have h19 : (vals 19) = .pointer (some ⟨Vb, 2, none⟩) := hR 19 (by omega)
          have h20 : (vals 20) = .int .u32 (wi (v.c)) := hR 20 (by omega)
          have h21 : (vals 21) = .int .u32 (wi (v.b &&& v.c)) := hR 21 (by omega)
          have h22 : (vals 22) = .int .u32 (wi (v.a &&& v.b ^^^ v.a &&& v.c ^^^ v.b &&& v.c)) := hR 22 (by omega)
          have h23 : (vals 23) = .int .u32 (wi (t2Of v)) := hR 23 (by omega)
          have h24 : (vals 24) = .int .u32 (wi (t2Of v)) := hR 24 (by omega)
          clear hR
          simp only [List.range_succ, List.range_zero, List.nil_append, List.cons_append, Roll.putD, Act.put, List.getD_cons_zero, List.getD_cons_succ, List.setIfInBounds_toArray, List.set_cons_zero, List.set_cons_succ, List.drop_succ_cons, List.drop_zero, Dblk10]
          simp only [h0, h1, h2, h3, h4, h5, h6, h7, h8, h9, h10, h11, h12, h13, h14, h15, h16, h17, h18, h19, h20, h21, h22, h23, h24]
          clear h0 h1 h2 h3 h4 h5 h6 h7 h8 h9 h10 h11 h12 h13 h14 h15 h16 h17 h18 h19 h20 h21 h22 h23 h24
          
          have c1 : p.cell? ⟨Vb, 1, none⟩ = some (.int .u32 (wi v.b)) := cell_words hI.v 1 (by rw [V8_len]; omega)
          have c2 : p.cell? ⟨Vb, 2, none⟩ = some (.int .u32 (wi v.c)) := cell_words hI.v 2 (by rw [V8_len]; omega)
          have c3 : p.cell? ⟨Vb, 3, none⟩ = some (.int .u32 (wi v.d)) := cell_words hI.v 3 (by rw [V8_len]; omega)
          have c5 : p.cell? ⟨Vb, 5, none⟩ = some (.int .u32 (wi v.f)) := cell_words hI.v 5 (by rw [V8_len]; omega)
          have c6 : p.cell? ⟨Vb, 6, none⟩ = some (.int .u32 (wi v.g)) := cell_words hI.v 6 (by rw [V8_len]; omega)
          obtain ⟨t1, ht1⟩ : ∃ t, t = t1Of v (wAt K64 k) (wAt (sched (wordsOf l)) k) := ⟨_, rfl⟩
          obtain ⟨t2, ht2⟩ : ∃ t, t = t2Of v := ⟨_, rfl⟩
          rw [← ht1, ← ht2]
          have HT := Lib.hid (And.intro ht1 ht2)
          clear ht1 ht2
          go_wp2_with (refine wpList_store_row rfl 31 (.tmp 7) (.tmp 97) rfl Vb (wcells (V8.list ⟨t1 + t2, v.a, v.b, v.c, v.d + t1, v.e, v.f, v.g⟩)) rfl rfl 31 _ hI.v (by rw [wcells_size, V8_len]; exact size8w) (by rw [wcells_size, wcells_size, V8_len, V8_len]) (wcells_one _) ?_)
          go_roundw
          case rel =>
            have eq : (runTo (V8.of hs) (sched (wordsOf l)) (k + 1)).list = V8.list ⟨t1 + t2, v.a, v.b, v.c, v.d + t1, v.e, v.f, v.g⟩ := by
              rw [HT.out.1, HT.out.2]; simp only [runTo]; rw [Hv.out]; rfl
            refine ⟨k + 1, by omega, by go_num, ?_⟩
            rw [eq]
            exact ⟨(setRow_other _ _ _ _ (by omega)).trans hI.h, (setRow_other _ _ _ _ (by omega)).trans hI.z, (setRow_other _ _ _ _ (by omega)).trans hI.s, (setRow_other _ _ _ _ (by omega)).trans hI.k, setRow_heap _ _ _ _ _ _ hI.v, Below_setRow hI.bel (by omega) _⟩
          case measure => simp [intOf]; omega
    · obtain rfl : k = 64 := by omega
      generalize hv : runTo (V8.of hs) (sched (wordsOf l)) 64 = v at *
      have Hv := Lib.hid hv
      clear hv
      go_wp2
      obtain ⟨vs, hvs⟩ : ∃ vs, vs = v.list := ⟨_, rfl⟩
      rw [← hvs] at N
      have Hvl : Hid (vs.length = 8) := Lib.hid (by rw [hvs]; rfl)
      have Hvs := Lib.hid hvs
      clear hvs
      go_loopw [13] (fun i wx => ∃ j : Nat, j ≤ 8 ∧ i = .int .i64 (j : Int) ∧ BI w Wb Kb Vb (addTo hs vs j) (sched (wordsOf l)) vs wx) (fun i _ => 8 - (intOf i).toNat)
      case atStart => exact ⟨0, by omega, rfl, by rw [addTo_zero]; exact N.out⟩
      case round =>
        clear N
        obtain ⟨j, hj, rfl, bi⟩ := hrel
        have N := Lib.hid bi
        have Gl := Lib.hid (addTo_len hs vs Hh.out Hvl.out j hj)
        clear bi
        by_cases hlj : j < 8
        · have dlj : decide ((j : Int) < 8) = true := by simp; omega
          go_upto_region 15 with (fail)
          refine Roll.region_f 9 112 Dblk15 Lblk15 [(2, .pointer (some ⟨w.heap.size, 0, none⟩)), (7, .pointer (some ⟨Vb, 0, none⟩)), (13, .int .i64 (j : Int))] (fun p => BI w Wb Kb Vb (addTo hs vs j) (sched (wordsOf l)) vs p) (fun _ _ => True) [fun vv p => vv = .int .i64 (j : Int), fun vv p => vv = .int .i64 (j : Int), fun vv p => vv = .pointer (some ⟨w.heap.size, j, none⟩), fun vv p => vv = .int .u32 (wi (wAt hs j)), fun vv p => vv = .int .i64 (j : Int), fun vv p => vv = .pointer (some ⟨Vb, j, none⟩), fun vv p => vv = .int .u32 (wi (wAt vs j)), fun vv p => vv = .int .u32 (wi (wAt hs j + wAt vs j)), fun vv p => vv = .pointer (some ⟨w.heap.size, j, none⟩)] (by kernel_rfl) (by kernel_rfl) rfl ⟨rfl, rfl, rfl, trivial⟩ (N.out.drew) ?_ ?_ ?_
          · exact ⟨fun _ _ _ _ h => h, fun _ _ _ _ h => h, fun _ _ _ _ h => h, fun _ _ _ _ h => h, fun _ _ _ _ h => h, fun _ _ _ _ h => h, fun _ _ _ _ h => h, fun _ _ _ _ h => h, fun _ _ _ _ h => h, trivial⟩
          · intro b0 hN hlv
            refine ⟨?_, ?_, ?_, ?_, ?_, ?_, ?_, ?_, ?_, trivial⟩
            · intro vals p hI hp
              have e13 : (Roll.putD Dblk15 vals [] b0).eval (.tmp 13) = .int .i64 (j : Int) := (Roll.eval_old rfl).trans (hlv.at 2 (13, .int .i64 (j : Int)) rfl)
              clear hp hlv hN
              unfold Roll.Goes
              simp only [Lblk15, List.getD_cons_zero, List.getD_cons_succ]
              generalize Roll.putD Dblk15 vals [] b0 = a1 at *
              refine Roll.goes_val (w' := p) (.int .i64 (j : Int)) rfl ?_ ⟨hI, trivial, rfl⟩
              (have ec : ∀ x, a1.eval (.const x) = x := fun _ => rfl); (have ef : ∀ x, a1.eval (.func x) = .func (.func x) #[] #[] := fun _ => rfl); generalize a1.eval = ρ at *
              skip
              go_simp <;> (intros; first | (exfalso; omega) | rfl)
            · intro vals p hI hp
              have e13 : (Roll.putD Dblk15 vals [] b0).eval (.tmp 13) = .int .i64 (j : Int) := (Roll.eval_old rfl).trans (hlv.at 2 (13, .int .i64 (j : Int)) rfl)
              clear hp hlv hN
              unfold Roll.Goes
              simp only [Lblk15, List.getD_cons_zero, List.getD_cons_succ]
              generalize Roll.putD Dblk15 vals [] b0 = a1 at *
              refine Roll.goes_val (w' := p) (.int .i64 (j : Int)) rfl ?_ ⟨hI, trivial, rfl⟩
              (have ec : ∀ x, a1.eval (.const x) = x := fun _ => rfl); (have ef : ∀ x, a1.eval (.func x) = .func (.func x) #[] #[] := fun _ => rfl); generalize a1.eval = ρ at *
              skip
              go_simp <;> (intros; first | (exfalso; omega) | rfl)
            · intro vals p hI hp
              have h1 : (vals 1) = .int .i64 (j : Int) := hp 1 (by simp [Lblk15])
              have e2 : (Roll.putD Dblk15 vals [1] b0).eval (.tmp 2) = .pointer (some ⟨w.heap.size, 0, none⟩) := (Roll.eval_old rfl).trans (hlv.at 0 (2, .pointer (some ⟨w.heap.size, 0, none⟩)) rfl)
              have e103 : (Roll.putD Dblk15 vals [1] b0).eval (.tmp 103) = .int .i64 (j : Int) := (Roll.eval_new 1 rfl (by decide) (by decide) (by omega)).trans h1
              clear hp hlv hN
              unfold Roll.Goes
              simp only [Lblk15, List.getD_cons_zero, List.getD_cons_succ]
              generalize Roll.putD Dblk15 vals [1] b0 = a1 at *
              refine Roll.goes_val (w' := p) (.pointer (some ⟨w.heap.size, j, none⟩)) rfl ?_ ⟨hI, trivial, rfl⟩
              (have ec : ∀ x, a1.eval (.const x) = x := fun _ => rfl); (have ef : ∀ x, a1.eval (.func x) = .func (.func x) #[] #[] := fun _ => rfl); generalize a1.eval = ρ at *
              clear h1
              go_simp <;> (intros; first | (exfalso; omega) | rfl)
            · intro vals p hI hp
              have h2 : (vals 2) = .pointer (some ⟨w.heap.size, j, none⟩) := hp 2 (by simp [Lblk15])
              have e104 : (Roll.putD Dblk15 vals [2] b0).eval (.tmp 104) = .pointer (some ⟨w.heap.size, j, none⟩) := (Roll.eval_new 2 rfl (by decide) (by decide) (by omega)).trans h2
              clear hp hlv hN
              unfold Roll.Goes
              simp only [Lblk15, List.getD_cons_zero, List.getD_cons_succ]
              generalize Roll.putD Dblk15 vals [2] b0 = a1 at *
              have cc := cell_words hI.h j (by rw [Gl.out]; omega)
              rw [addTo_at hs vs Hh.out Hvl.out j hlj] at cc
              refine Roll.goes_val (w' := p) (.int .u32 (wi (wAt hs j))) rfl ?_ ⟨hI, trivial, rfl⟩
              (have ec : ∀ x, a1.eval (.const x) = x := fun _ => rfl); (have ef : ∀ x, a1.eval (.func x) = .func (.func x) #[] #[] := fun _ => rfl); generalize a1.eval = ρ at *
              clear h2
              go_simp <;> (intros; first | (exfalso; omega) | rfl)
            · intro vals p hI hp
              have e13 : (Roll.putD Dblk15 vals [] b0).eval (.tmp 13) = .int .i64 (j : Int) := (Roll.eval_old rfl).trans (hlv.at 2 (13, .int .i64 (j : Int)) rfl)
              clear hp hlv hN
              unfold Roll.Goes
              simp only [Lblk15, List.getD_cons_zero, List.getD_cons_succ]
              generalize Roll.putD Dblk15 vals [] b0 = a1 at *
              refine Roll.goes_val (w' := p) (.int .i64 (j : Int)) rfl ?_ ⟨hI, trivial, rfl⟩
              (have ec : ∀ x, a1.eval (.const x) = x := fun _ => rfl); (have ef : ∀ x, a1.eval (.func x) = .func (.func x) #[] #[] := fun _ => rfl); generalize a1.eval = ρ at *
              skip
              go_simp <;> (intros; first | (exfalso; omega) | rfl)
            · intro vals p hI hp
              have h4 : (vals 4) = .int .i64 (j : Int) := hp 4 (by simp [Lblk15])
              have e7 : (Roll.putD Dblk15 vals [4] b0).eval (.tmp 7) = .pointer (some ⟨Vb, 0, none⟩) := (Roll.eval_old rfl).trans (hlv.at 1 (7, .pointer (some ⟨Vb, 0, none⟩)) rfl)
              have e106 : (Roll.putD Dblk15 vals [4] b0).eval (.tmp 106) = .int .i64 (j : Int) := (Roll.eval_new 4 rfl (by decide) (by decide) (by omega)).trans h4
              clear hp hlv hN
              unfold Roll.Goes
              simp only [Lblk15, List.getD_cons_zero, List.getD_cons_succ]
              generalize Roll.putD Dblk15 vals [4] b0 = a1 at *
              refine Roll.goes_val (w' := p) (.pointer (some ⟨Vb, j, none⟩)) rfl ?_ ⟨hI, trivial, rfl⟩
              (have ec : ∀ x, a1.eval (.const x) = x := fun _ => rfl); (have ef : ∀ x, a1.eval (.func x) = .func (.func x) #[] #[] := fun _ => rfl); generalize a1.eval = ρ at *
              clear h4
              go_simp <;> (intros; first | (exfalso; omega) | rfl)
            · intro vals p hI hp
              have h5 : (vals 5) = .pointer (some ⟨Vb, j, none⟩) := hp 5 (by simp [Lblk15])
              have e107 : (Roll.putD Dblk15 vals [5] b0).eval (.tmp 107) = .pointer (some ⟨Vb, j, none⟩) := (Roll.eval_new 5 rfl (by decide) (by decide) (by omega)).trans h5
              clear hp hlv hN
              unfold Roll.Goes
              simp only [Lblk15, List.getD_cons_zero, List.getD_cons_succ]
              generalize Roll.putD Dblk15 vals [5] b0 = a1 at *
              have cc := cell_words hI.v j (by rw [Hvl.out]; omega)
              refine Roll.goes_val (w' := p) (.int .u32 (wi (wAt vs j))) rfl ?_ ⟨hI, trivial, rfl⟩
              (have ec : ∀ x, a1.eval (.const x) = x := fun _ => rfl); (have ef : ∀ x, a1.eval (.func x) = .func (.func x) #[] #[] := fun _ => rfl); generalize a1.eval = ρ at *
              clear h5
              go_simp <;> (intros; first | (exfalso; omega) | rfl)
            · intro vals p hI hp
              have h3 : (vals 3) = .int .u32 (wi (wAt hs j)) := hp 3 (by simp [Lblk15])
              have h6 : (vals 6) = .int .u32 (wi (wAt vs j)) := hp 6 (by simp [Lblk15])
              have e105 : (Roll.putD Dblk15 vals [3, 6] b0).eval (.tmp 105) = .int .u32 (wi (wAt hs j)) := (Roll.eval_new 3 rfl (by decide) (by decide) (by omega)).trans h3
              have e108 : (Roll.putD Dblk15 vals [3, 6] b0).eval (.tmp 108) = .int .u32 (wi (wAt vs j)) := (Roll.eval_new 6 rfl (by decide) (by decide) (by omega)).trans h6
              clear hp hlv hN
              unfold Roll.Goes
              simp only [Lblk15, List.getD_cons_zero, List.getD_cons_succ]
              generalize Roll.putD Dblk15 vals [3, 6] b0 = a1 at *
              refine Roll.goes_val (w' := p) (.int .u32 (wi (wAt hs j + wAt vs j))) rfl ?_ ⟨hI, trivial, rfl⟩
              (have ec : ∀ x, a1.eval (.const x) = x := fun _ => rfl); (have ef : ∀ x, a1.eval (.func x) = .func (.func x) #[] #[] := fun _ => rfl); generalize a1.eval = ρ at *
              clear h3 h6
              go_simp <;> (intros; first | (exfalso; omega) | rfl)
            · intro vals p hI hp
              have h0 : (vals 0) = .int .i64 (j : Int) := hp 0 (by simp [Lblk15])
              have e2 : (Roll.putD Dblk15 vals [0] b0).eval (.tmp 2) = .pointer (some ⟨w.heap.size, 0, none⟩) := (Roll.eval_old rfl).trans (hlv.at 0 (2, .pointer (some ⟨w.heap.size, 0, none⟩)) rfl)
              have e102 : (Roll.putD Dblk15 vals [0] b0).eval (.tmp 102) = .int .i64 (j : Int) := (Roll.eval_new 0 rfl (by decide) (by decide) (by omega)).trans h0
              clear hp hlv hN
              unfold Roll.Goes
              simp only [Lblk15, List.getD_cons_zero, List.getD_cons_succ]
              generalize Roll.putD Dblk15 vals [0] b0 = a1 at *
              refine Roll.goes_val (w' := p) (.pointer (some ⟨w.heap.size, j, none⟩)) rfl ?_ ⟨hI, trivial, rfl⟩
              (have ec : ∀ x, a1.eval (.const x) = x := fun _ => rfl); (have ef : ∀ x, a1.eval (.func x) = .func (.func x) #[] #[] := fun _ => rfl); generalize a1.eval = ρ at *
              clear h0
              go_simp <;> (intros; first | (exfalso; omega) | rfl)
          · intro vals p hI hR
            have h0 : (vals 0) = .int .i64 (j : Int) := hR 0 (by omega)
            have h1 : (vals 1) = .int .i64 (j : Int) := hR 1 (by omega)
            have h2 : (vals 2) = .pointer (some ⟨w.heap.size, j, none⟩) := hR 2 (by omega)
            have h3 : (vals 3) = .int .u32 (wi (wAt hs j)) := hR 3 (by omega)
            have h4 : (vals 4) = .int .i64 (j : Int) := hR 4 (by omega)
            have h5 : (vals 5) = .pointer (some ⟨Vb, j, none⟩) := hR 5 (by omega)
            have h6 : (vals 6) = .int .u32 (wi (wAt vs j)) := hR 6 (by omega)
            have h7 : (vals 7) = .int .u32 (wi (wAt hs j + wAt vs j)) := hR 7 (by omega)
            have h8 : (vals 8) = .pointer (some ⟨w.heap.size, j, none⟩) := hR 8 (by omega)
            clear hR
            simp only [List.range_succ, List.range_zero, List.nil_append, List.cons_append, Roll.putD, Act.put, List.getD_cons_zero, List.getD_cons_succ, List.setIfInBounds_toArray, List.set_cons_zero, List.set_cons_succ, List.drop_succ_cons, List.drop_zero, Dblk15]
            simp only [h0, h1, h2, h3, h4, h5, h6, h7, h8]
            clear h0 h1 h2 h3 h4 h5 h6 h7 h8
            have cc := cell_words hI.h j (by rw [Gl.out]; omega)
            have ff := frozen_of_row p w.heap.size j _ _ hI.h
            go_wp2
            go_roundw
            case rel =>
              refine ⟨j + 1, by omega, by go_num, ?_, (heap_setCell_other _ _ _ _ (by simp only; omega)).trans hI.z, (heap_setCell_other _ _ _ _ (by simp only; omega)).trans hI.s, (heap_setCell_other _ _ _ _ (by simp only; omega)).trans hI.k, (heap_setCell_other _ _ _ _ (by simp only; omega)).trans hI.v, (hI.bel).setCell (by simp only; omega) _⟩
              refine (heap_setCell_same _ _ _ _ _ _ hI.h).trans ?_
              rw [wcells_set]
              exact congrArg (fun l => some (Obj.cells (wcells l) 31 (0, 0))) (addTo_set hs vs Hh.out Hvl.out j hlj)
            case measure => simp [intOf]; omega
        · obtain rfl : j = 8 := by omega
          go_wp2_with (first | (refine wpList_load_row rfl 31 (.tmp 2) rfl w.heap.size rfl 31 _ (0, 0) _ N.out.h Tryd.underlying31 rfl (by rw [wcells_size, Gl.out]; exact size8w) ?_) | (refine wpList_store_row rfl 31 (.tmp 4) (.tmp 111) rfl (w.heap.size + 1) _ rfl rfl 31 _ N.out.z (by rw [wcells_size, Gl.out]; exact size8w) (by simp only [wcells_size, Gl.out, List.length_replicate]) (wcells_one _) ?_))
          refine bodyPost_ret (v := .agg (wcells (addTo hs vs 8))) ?_ rfl ⟨by rw [addTo_all _ _ Hh.out Hvl.out, Hvs.out, ← Hv.out]; rfl, Below_setRow N.out.bel (by omega) _⟩
          exact results_cell_row rfl _ _ (w.heap.size + 1) 31 _ (0, 0) _ rfl (setRow_heap _ _ _ _ _ _ N.out.z) Tryd.underlying31 rfl (by rw [wcells_size, Gl.out]; exact size8w)
end Go.Proofs.YtdfpjhpkkhdpoaaDoor

/-
  The reference's full blocks.
-/
import Derived.Test.YtdfpjhpkkhdpoaaDoorF3
import Derived.Test.YtdfpjhpkkhdpoaaDoorE4
namespace Go.Proofs.YtdfpjhpkkhdpoaaDoor
open Go.RowKit
set_option linter.unusedSimpArgs false
set_option linter.unusedVariables false
structure BJ (w : World) (Tb : Nat) (hs : List (BitVec 32)) (p : World) : Prop where
  z : p.heap[w.heap.size]? = some (.cells (wcells (List.replicate 8 0)) 31 (0, 0))
  h : p.heap[Tb]? = some (.cells (wcells hs) 31 (0, 0))
  ge : w.heap.size + 1 ≤ Tb
  bel : Below w.heap.size w p
theorem BJ.step {w : World} {Tb : Nat} {hs : List (BitVec 32)} {p q : World} (h : BJ w Tb hs p) (hb : Below p.heap.size p q) : BJ w Tb hs q :=
  ⟨(hb.block _ (heap_lt h.z)).trans h.z, (hb.block _ (heap_lt h.h)).trans h.h, h.ge, h.bel.trans (hb.mono h.bel.size)⟩
theorem load8_row {p : World} {g : Nat} {hs : List (BitVec 32)} (h : p.heap[g]? = some (.cells (wcells hs) 31 (0, 0))) (hl : hs.length = 8) :
    (load8A (.pointer (some ⟨g, 0, none⟩))).run Tryd.prog p = .ok (.value (.agg (wcells hs))) p := by
  have hr : p.rangeAt g 0 (wvals hs) := fun j v hv => by
    rw [Nat.zero_add, cell_of_row p g j _ _ _ h, ← wvals_arr, List.getElem?_toArray]; exact hv
  unfold load8A
  simp only [Sem.run_bind, Sem.run_pure, run_loadAt_mid p g 0 31 (wvals hs) _ hr Tryd.underlying31 rfl (by rw [wvals_len, hl]; exact size8w), Result.andThen_ok]
  rfl
attribute [local go_sem ↓] exec_sliceM exec_load8
def Dblocks5 : List (Option Tmp) := [some 13, some 14, some 15, some 16, some 17, some 18, some 19, none]
def Lblocks5 : List (List Nat) := [[], [], [], [], [3], [1, 2, 4], [0, 5], [6]]
set_option maxRecDepth 100000 in
set_option maxHeartbeats 2000000 in
theorem rblocks_any (a : Option Addr) (n c : Nat) (l : List UInt8) (w : World) (hB : Bs w a n c l) (hn : n ≤ 140737488355328) :
    Calls Tryd.prog 33 #[.slice a n c] w fun e w' => e = .returned (.agg (wcells (absH H8 l))) ∧ Below w.heap.size w w' := by
  have HB := Lib.hid hB
  have Hl := Lib.hid hB.1
  clear hB
  go_enter Tryd.func33, Tryd.ntmps33
  go_upto_region 1 with (fail)
  rw [zeros8]
  have b0 : Below w.heap.size w (w.alloc (.cells (wcells (List.replicate 8 0)) 31)) := (Below.refl _ _).alloc (Nat.le_refl _) _
  have g0 : (w.alloc (.cells (wcells (List.replicate 8 0)) 31)).heap[w.heap.size]? = some (.cells (wcells (List.replicate 8 0)) 31 (0, 0)) := heap_new rfl
  have s0 : (w.alloc (.cells (wcells (List.replicate 8 0)) 31)).heap.size = w.heap.size + 1 := by simp only [size_alloc1]
  generalize w.alloc (.cells (wcells (List.replicate 8 0)) 31) = q0 at *
  have B0 := Lib.hid b0
  have G0 := Lib.hid g0
  have S0 := Lib.hid s0
  clear b0 g0 s0
  go_upto_region 2 with (first
    | (go_at_call 41; refine (first_any _).mono ?_; rintro e w1 ⟨rfl, hb1⟩; have B1 := Lib.hid hb1; clear hb1)
    | (refine wpList_store_row rfl 31 (.tmp 3) (.tmp 5) rfl _ _ rfl rfl 31 _ (heap_new rfl) (by rw [wcells_size, H8_len]; exact size8w) rfl (wcells_one _) ?_))
  rw [World.setRow_alloc_new]
  have bj : BJ w w1.heap.size (absTo H8 l 0) (w1.alloc (.cells (wcells H8) 31)) :=
    ⟨heap_old ((B1.out.block _ (by have := S0.out; omega)).trans G0.out), heap_new rfl, by have := B1.out.size; have := S0.out; omega, (B0.out.trans (B1.out.mono (by have := S0.out; omega))).alloc (by have := B1.out.size; have := S0.out; omega) _⟩
  generalize w1.alloc (.cells (wcells H8) 31) = q1 at *
  obtain ⟨Tb, hTb⟩ : ∃ Tb, Tb = w1.heap.size := ⟨_, rfl⟩
  rw [← hTb] at bj ⊢
  have BJ0 := Lib.hid bj
  clear bj B0 G0 S0 B1 hTb
  go_wp2
  go_loopw [4] (fun i wr => ∃ k : Nat, 64 * k ≤ n ∧ i = .int .i64 ((64 * k : Nat) : Int) ∧ BJ w Tb (absTo H8 l k) wr) (fun i _ => n - (intOf i).toNat)
  case atStart => exact ⟨0, by omega, rfl, BJ0.out⟩
  case round =>
    clear BJ0
    obtain ⟨k, hk, rfl, bj⟩ := hrel
    have N := Lib.hid bj
    clear bj
    obtain ⟨E, hE⟩ : ∃ E, E = 64 * k := ⟨_, rfl⟩
    rw [← hE] at hk ⊢
    have HE := Lib.hid hE
    clear hE
    have e1 : IntKind.i64.wrap ((E : Int) + 64) = (E : Int) + 64 := i64_id _ (by omega) (by omega)
    by_cases hlt : E + 64 ≤ n
    · have dlt : decide ((E : Int) + 64 ≤ (n : Int)) = true := by simp; omega
      obtain ⟨a', c', hsl, hBs⟩ := run_sliceM HB.out E (E + 64) (by omega) hlt
      rw [show E + 64 - E = 64 by omega, show ((E + 64 : Nat) : Int) = (E : Int) + 64 by omega] at hsl
      rw [show E + 64 - E = 64 by omega] at hBs
      have HBs := Lib.hid hBs
      have hlen := absTo_len H8 l rfl k
      have Hlen := Lib.hid hlen
      clear hBs hlen
      go_upto_region 5 with (fail)
      refine Roll.region_f 7 21 Dblocks5 Lblocks5 [(0, .slice a n c), (3, .pointer (some ⟨Tb, 0, none⟩)), (4, .int .i64 (E : Int))] (fun p => BJ w Tb (absTo H8 l k) p) (fun p p' => Below p.heap.size p p') [fun vv p => vv = .agg (wcells (absTo H8 l k)), fun vv p => vv = .slice a n c, fun vv p => vv = .int .i64 (E : Int), fun vv p => vv = .int .i64 (E : Int), fun vv p => vv = .int .i64 ((E : Int) + 64), fun vv p => vv = .slice a' 64 c', fun vv p => vv = .agg (wcells (absTo H8 l (k + 1)))] (by kernel_rfl) (by kernel_rfl) rfl ⟨rfl, rfl, rfl, trivial⟩ (N.out.step (Below.refl _ _).drew) ?_ ?_ ?_
      · exact ⟨fun _ _ _ _ h => h, fun _ _ _ _ h => h, fun _ _ _ _ h => h, fun _ _ _ _ h => h, fun _ _ _ _ h => h, fun _ _ _ _ h => h, fun _ _ _ _ h => h, trivial⟩
      · intro b0 hN hlv
        refine ⟨?_, ?_, ?_, ?_, ?_, ?_, ?_, trivial⟩
        · intro vals p hI hp
          have e3 : (Roll.putD Dblocks5 vals [] b0).eval (.tmp 3) = .pointer (some ⟨Tb, 0, none⟩) := (Roll.eval_old rfl).trans (hlv.at 1 (3, .pointer (some ⟨Tb, 0, none⟩)) rfl)
          clear hp hlv hN
          unfold Roll.Goes
          simp only [Lblocks5, List.getD_cons_zero, List.getD_cons_succ]
          generalize Roll.putD Dblocks5 vals [] b0 = a1 at *
          refine Roll.goes_val (w' := p) (.agg (wcells (absTo H8 l k))) rfl ?_ ⟨hI, Below.refl _ _, rfl⟩
          have cc := load8_row hI.h Hlen.out
          generalize a1.eval = ρ at *
          go_simp
        · intro vals p hI hp
          have e0 : (Roll.putD Dblocks5 vals [] b0).eval (.tmp 0) = .slice a n c := (Roll.eval_old rfl).trans (hlv.at 0 (0, .slice a n c) rfl)
          clear hp hlv hN
          unfold Roll.Goes
          simp only [Lblocks5, List.getD_cons_zero, List.getD_cons_succ]
          generalize Roll.putD Dblocks5 vals [] b0 = a1 at *
          refine Roll.goes_val (w' := p) (.slice a n c) rfl ?_ ⟨hI, Below.refl _ _, rfl⟩
          (have ec : ∀ x, a1.eval (.const x) = x := fun _ => rfl); (have ef : ∀ x, a1.eval (.func x) = .func (.func x) #[] #[] := fun _ => rfl); generalize a1.eval = ρ at *
          skip
          go_simp <;> (intros; first | (exfalso; omega) | rfl)
        · intro vals p hI hp
          have e4 : (Roll.putD Dblocks5 vals [] b0).eval (.tmp 4) = .int .i64 (E : Int) := (Roll.eval_old rfl).trans (hlv.at 2 (4, .int .i64 (E : Int)) rfl)
          clear hp hlv hN
          unfold Roll.Goes
          simp only [Lblocks5, List.getD_cons_zero, List.getD_cons_succ]
          generalize Roll.putD Dblocks5 vals [] b0 = a1 at *
          refine Roll.goes_val (w' := p) (.int .i64 (E : Int)) rfl ?_ ⟨hI, Below.refl _ _, rfl⟩
          (have ec : ∀ x, a1.eval (.const x) = x := fun _ => rfl); (have ef : ∀ x, a1.eval (.func x) = .func (.func x) #[] #[] := fun _ => rfl); generalize a1.eval = ρ at *
          skip
          go_simp <;> (intros; first | (exfalso; omega) | rfl)
        · intro vals p hI hp
          have e4 : (Roll.putD Dblocks5 vals [] b0).eval (.tmp 4) = .int .i64 (E : Int) := (Roll.eval_old rfl).trans (hlv.at 2 (4, .int .i64 (E : Int)) rfl)
          clear hp hlv hN
          unfold Roll.Goes
          simp only [Lblocks5, List.getD_cons_zero, List.getD_cons_succ]
          generalize Roll.putD Dblocks5 vals [] b0 = a1 at *
          refine Roll.goes_val (w' := p) (.int .i64 (E : Int)) rfl ?_ ⟨hI, Below.refl _ _, rfl⟩
          (have ec : ∀ x, a1.eval (.const x) = x := fun _ => rfl); (have ef : ∀ x, a1.eval (.func x) = .func (.func x) #[] #[] := fun _ => rfl); generalize a1.eval = ρ at *
          skip
          go_simp <;> (intros; first | (exfalso; omega) | rfl)
        · intro vals p hI hp
          have h3 : (vals 3) = .int .i64 (E : Int) := hp 3 (by simp [Lblocks5])
          have e16 : (Roll.putD Dblocks5 vals [3] b0).eval (.tmp 16) = .int .i64 (E : Int) := (Roll.eval_new 3 rfl (by decide) (by decide) (by omega)).trans h3
          clear hp hlv hN
          unfold Roll.Goes
          simp only [Lblocks5, List.getD_cons_zero, List.getD_cons_succ]
          generalize Roll.putD Dblocks5 vals [3] b0 = a1 at *
          refine Roll.goes_val (w' := p) (.int .i64 ((E : Int) + 64)) rfl ?_ ⟨hI, Below.refl _ _, rfl⟩
          (have ec : ∀ x, a1.eval (.const x) = x := fun _ => rfl); (have ef : ∀ x, a1.eval (.func x) = .func (.func x) #[] #[] := fun _ => rfl); generalize a1.eval = ρ at *
          clear h3
          go_simp <;> (intros; first | (exfalso; omega) | rfl)
        · intro vals p hI hp
          have h1 : (vals 1) = .slice a n c := hp 1 (by simp [Lblocks5])
          have h2 : (vals 2) = .int .i64 (E : Int) := hp 2 (by simp [Lblocks5])
          have h4 : (vals 4) = .int .i64 ((E : Int) + 64) := hp 4 (by simp [Lblocks5])
          have e14 : (Roll.putD Dblocks5 vals [1, 2, 4] b0).eval (.tmp 14) = .slice a n c := (Roll.eval_new 1 rfl (by decide) (by decide) (by omega)).trans h1
          have e15 : (Roll.putD Dblocks5 vals [1, 2, 4] b0).eval (.tmp 15) = .int .i64 (E : Int) := (Roll.eval_new 2 rfl (by decide) (by decide) (by omega)).trans h2
          have e17 : (Roll.putD Dblocks5 vals [1, 2, 4] b0).eval (.tmp 17) = .int .i64 ((E : Int) + 64) := (Roll.eval_new 4 rfl (by decide) (by decide) (by omega)).trans h4
          clear hp hlv hN
          unfold Roll.Goes
          simp only [Lblocks5, List.getD_cons_zero, List.getD_cons_succ]
          generalize Roll.putD Dblocks5 vals [1, 2, 4] b0 = a1 at *
          refine Roll.goes_val (w' := p) (.slice a' 64 c') rfl ?_ ⟨hI, Below.refl _ _, rfl⟩
          (have ec : ∀ x, a1.eval (.const x) = x := fun _ => rfl); (have ef : ∀ x, a1.eval (.func x) = .func (.func x) #[] #[] := fun _ => rfl); generalize a1.eval = ρ at *
          clear h1 h2 h4
          go_simp <;> (intros; first | (exfalso; omega) | rfl)
        · intro vals p hI hp
          have h0 : (vals 0) = .agg (wcells (absTo H8 l k)) := hp 0 (by simp [Lblocks5])
          have h5 : (vals 5) = .slice a' 64 c' := hp 5 (by simp [Lblocks5])
          have e13 : (Roll.putD Dblocks5 vals [0, 5] b0).eval (.tmp 13) = .agg (wcells (absTo H8 l k)) := (Roll.eval_new 0 rfl (by decide) (by decide) (by omega)).trans h0
          have e18 : (Roll.putD Dblocks5 vals [0, 5] b0).eval (.tmp 18) = .slice a' 64 c' := (Roll.eval_new 5 rfl (by decide) (by decide) (by omega)).trans h5
          clear hp hlv hN
          unfold Roll.Goes
          simp only [Lblocks5, List.getD_cons_zero, List.getD_cons_succ]
          generalize Roll.putD Dblocks5 vals [0, 5] b0 = a1 at *
          refine Roll.goes_call 42 #[.agg (wcells (absTo H8 l k)), .slice a' 64 c'] p rfl (by have ec : ∀ x, a1.eval (.const x) = x := fun _ => rfl; have ef : ∀ x, a1.eval (.func x) = .func (.func x) #[] #[] := fun _ => rfl; generalize a1.eval = ρ at *; go_simp) ?_
          refine (rblock_any _ a' c' _ p (HBs.out.below hI.bel) Hlen.out).mono ?_
          rintro e p2 ⟨rfl, hb⟩
          refine ⟨_, rfl, hI.step hb, hb, ?_⟩
          show _ = Value.agg (wcells (absTo H8 l (k + 1)))
          have ee : (l.take (E + 64)).drop E = (l.drop (64 * k)).take 64 := by rw [List.drop_take, HE.out, show 64 * k + 64 - 64 * k = 64 by omega]
          rw [ee]; rfl
      · intro vals p hI hR
        have h0 : (vals 0) = .agg (wcells (absTo H8 l k)) := hR 0 (by omega)
        have h1 : (vals 1) = .slice a n c := hR 1 (by omega)
        have h2 : (vals 2) = .int .i64 (E : Int) := hR 2 (by omega)
        have h3 : (vals 3) = .int .i64 (E : Int) := hR 3 (by omega)
        have h4 : (vals 4) = .int .i64 ((E : Int) + 64) := hR 4 (by omega)
        have h5 : (vals 5) = .slice a' 64 c' := hR 5 (by omega)
        have h6 : (vals 6) = .agg (wcells (absTo H8 l (k + 1))) := hR 6 (by omega)
        clear hR
        simp only [List.range_succ, List.range_zero, List.nil_append, List.cons_append, Roll.putD, Act.put, List.getD_cons_zero, List.getD_cons_succ, List.setIfInBounds_toArray, List.set_cons_zero, List.set_cons_succ, List.drop_succ_cons, List.drop_zero, Dblocks5]
        simp only [h0, h1, h2, h3, h4, h5, h6]
        clear h0 h1 h2 h3 h4 h5 h6
        have HN := Lib.hid hI
        clear hI
        go_wp2_with (refine wpList_store_row rfl 31 (.tmp 3) (.tmp 19) rfl Tb _ rfl rfl 31 _ HN.out.h (by rw [wcells_size, absTo_len H8 l rfl]; exact size8w) (by rw [wcells_size, wcells_size, absTo_len H8 l rfl, absTo_len H8 l rfl]) (wcells_one _) ?_)
        go_roundw
        case rel =>
          refine ⟨k + 1, by have := HE.out; omega, by have := HE.out; simp only [Value.int.injEq, true_and]; omega, ?_⟩
          have := HN.out.ge
          exact ⟨(setRow_other _ _ _ _ (by omega)).trans HN.out.z, setRow_heap _ _ _ _ _ _ HN.out.h, HN.out.ge, Below_setRow HN.out.bel (by omega) _⟩
        case measure => simp [intOf]; omega
    · have dlt : decide ((E : Int) + 64 ≤ (n : Int)) = false := by simp; omega
      have ek : absTo H8 l k = absH H8 l := by
        unfold absH
        rw [Hl.out, show n / 64 = k by have := HE.out; omega]
      have N2 : Hid (BJ w Tb (absH H8 l) wr) := Lib.hid (by rw [← ek]; exact N.out)
      clear N ek
      go_wp2_with (first | (refine wpList_load_row rfl 31 (.tmp 3) rfl Tb rfl 31 _ (0, 0) _ N2.out.h Tryd.underlying31 rfl (by rw [wcells_size, absH_len]; exact size8w) ?_) | (refine wpList_store_row rfl 31 (.tmp 2) (.tmp 20) rfl w.heap.size _ rfl rfl 31 _ N2.out.z (by rw [wcells_size, absH_len]; exact size8w) (by simp only [wcells_size, absH_len, List.length_replicate]) (wcells_one _) ?_))
      refine bodyPost_ret (v := .agg (wcells (absH H8 l))) ?_ rfl ⟨rfl, Below_setRow N2.out.bel (by omega) _⟩
      exact results_cell_row rfl _ _ w.heap.size 31 _ (0, 0) _ rfl (setRow_heap _ _ _ _ _ _ N2.out.z) Tryd.underlying31 rfl (by rw [wcells_size, absH_len]; exact size8w)
end Go.Proofs.YtdfpjhpkkhdpoaaDoor

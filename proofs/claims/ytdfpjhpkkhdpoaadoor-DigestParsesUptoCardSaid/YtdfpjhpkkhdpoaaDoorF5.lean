/-
  The reference's Sum.
-/
import Derived.Test.YtdfpjhpkkhdpoaaDoorF4
import Derived.Test.YtdfpjhpkkhdpoaaDoorB3
import Derived.Deep.CutBlock
import Derived.Deep.CutRange
namespace Go.Proofs.YtdfpjhpkkhdpoaaDoor
open Go.RowKit
set_option linter.unusedSimpArgs false
set_option linter.unusedVariables false
theorem Bs_one {w : World} {g : Nat} {x : UInt8} {u : Int} {t : TypeId} {fr : Nat × Nat} (h : w.heap[g]? = some (.cells #[.int .u8 u] t fr)) (hu : u = bi x) : Bs w (some ⟨g, 0, none⟩) 1 1 [x] := by
  refine ⟨rfl, Nat.le_refl _, by decide, (fun h => by cases h), fun _ => ⟨g, 0, rfl, fun i hi => ?_⟩⟩
  obtain rfl : i = 0 := by omega
  rw [cell_of_row w g 0 _ _ _ h, hu]; rfl
theorem frozenless {w : World} {base : Nat} {v : Value} {n : Nat} {xs : List Value} (h : w.ownsRow base 5 1 v n xs) : ∀ k, v.ownBlock = some k → base ≤ k := fun k hk => (h.lt k hk).1
/-- what the walk carries: the results block, the collected bytes -/
structure SQ (w : World) (v : Value) (x : List UInt8) (p : World) : Prop where
  z : p.heap[w.heap.size]? = some (.cells (bcells (List.replicate 32 0)) 24 (0, 0))
  own : p.ownsRow (w.heap.size + 1) 5 1 v x.length (vals x)
  bel : Below w.heap.size w p
  sz : w.heap.size + 1 ≤ p.heap.size
theorem SQ.app {w : World} {v v' : Value} {x y : List UInt8} {p p' : World} {o : Obj} (h : SQ w v x p) (ho : p'.ownsRow (w.heap.size + 1) 5 1 v' (x.length + y.length) (vals x ++ vals y)) (hg : (p.alloc o).grownBy p' v.ownBlock) : SQ w v' (x ++ y) p' := by
  have hr := frozenless h.own
  have hz : p'.heap[w.heap.size]? = (p.alloc o).heap[w.heap.size]? := hg.block _ (by rw [size_alloc1]; have := h.sz; omega) (fun e => by have := hr _ e.symm; omega)
  refine ⟨by rw [hz]; exact heap_old h.z, by rw [List.length_append, vals_app]; exact ho, ?_, by have := hg.size; rw [size_alloc1] at this; have := h.sz; omega⟩
  exact (h.bel.alloc h.bel.size _).grown hg (by rw [size_alloc1]; have := h.bel.size; omega) (fun k hk => by have := hr k hk; omega)
theorem SQ.app0 {w : World} {v v' : Value} {x y : List UInt8} {p p' : World} (h : SQ w v x p) (ho : p'.ownsRow (w.heap.size + 1) 5 1 v' (x.length + y.length) (vals x ++ vals y)) (hg : p.grownBy p' v.ownBlock) : SQ w v' (x ++ y) p' := by
  have hr := frozenless h.own
  have hz : p'.heap[w.heap.size]? = p.heap[w.heap.size]? := hg.block _ (by have := h.sz; omega) (fun e => by have := hr _ e.symm; omega)
  refine ⟨by rw [hz]; exact h.z, by rw [List.length_append, vals_app]; exact ho, ?_, by have := hg.size; have := h.sz; omega⟩
  exact h.bel.grown hg h.bel.size (fun k hk => by have := hr k hk; omega)
theorem SQ.slice {w : World} {v : Value} {x : List UInt8} {p : World} (h : SQ w v x p) : ∃ a c, v = .slice a x.length c ∧ Bs p a x.length c x := Bs_of_own h.own
/-- .. and while the hash value is put together -/
structure SU (w : World) (T6 : Nat) (hs : List (BitVec 32)) (k : Nat) (p : World) : Prop where
  z : p.heap[w.heap.size]? = some (.cells (bcells (List.replicate 32 0)) 24 (0, 0))
  h : p.heap[T6]? = some (.cells (wcells hs) 31 (0, 0))
  o : p.heap[T6 + 1]? = some (.cells (bcells (firstB (joinAt hs) 32 k)) 24 (0, 0))
  ge : w.heap.size + 1 ≤ T6
  bel : Below w.heap.size w p
attribute [local go_sem] wi_shr
set_option maxRecDepth 100000 in
set_option maxHeartbeats 2000000 in
theorem rsum_any (a : Option Addr) (n c : Nat) (l : List UInt8) (w : World) (hB : Bs w a n c l) (hn : n ≤ 35184372088832) :
    Calls Tryd.prog 13 #[.slice a n c] w fun e w' => e = .returned (.agg (bcells (Hv l))) ∧ Below w.heap.size w w' := by
  have HB := Lib.hid hB
  have Hl := Lib.hid hB.1
  clear hB
  obtain ⟨q1, q2⟩ := padI_bd ((n : Int) + 1) 56
  obtain ⟨Q, hQ⟩ := Int.eq_ofNat_of_zero_le q1
  have hQm : ((n : Int) + 1 + Q) % 64 = 56 := by rw [← hQ]; unfold padI; omega
  have HQ := Lib.hid hQ
  have HQm := Lib.hid hQm
  rw [hQ] at q2
  clear hQ hQm q1
  go_enter Tryd.func13, Tryd.ntmps13
  go_upto_region 2 with (fail)
  rw [zeros32]
  have sq : SQ w (.slice none 0 0) [] (w.alloc (.cells (bcells (List.replicate 32 0)) 24)) :=
    ⟨heap_new rfl, World.ownsRow_nil _ _ _ _, (Below.refl _ _).alloc (Nat.le_refl _) _, by simp only [size_alloc1]; omega⟩
  generalize w.alloc (.cells (bcells (List.replicate 32 0)) 24) = p0 at *
  have S0 := Lib.hid sq
  clear sq
  go_upto_region 3 with (at_builtin; refine append_bs rfl (.tmp 9) (.tmp 10) rfl (w.heap.size + 1) _ 0 [] rfl S0.out.own a n c l rfl (HB.out.below S0.out.bel) (by omega) S0.out.sz ?_; intro v1 p1 ho hg; have S1 := Lib.hid (S0.out.app0 (y := l) (by rw [HB.out.1]; exact ho) hg); clear ho hg)
  rw [List.nil_append] at S1
  go_upto_block 0 with (at_builtin; refine append_bs rfl (.tmp 12) (.tmp 13) rfl (w.heap.size + 1) _ _ _ rfl (S1.out.own.alloc _) (some ⟨p1.heap.size, 0, none⟩) 1 1 [128] rfl (Bs_one (heap_new rfl) rfl) (by have := Hl.out; omega) (by rw [size_alloc1]; have := S1.out.sz; omega) ?_; intro v2 p2 ho hg; have S2 := Lib.hid (S1.out.app (y := [128]) ho hg); clear ho hg)
  go_cut [3] from 15 to 21 (fun v wx => SQ w v (l ++ 128 :: List.replicate Q 0) wx)
  case first =>
    go_wp2
    go_loopw [3] (fun v wr => ∃ q : Nat, q ≤ Q ∧ SQ w v (l ++ 128 :: List.replicate q 0) wr) (fun v _ => match v with | .slice _ m _ => n + 1 + Q - m | _ => 0)
    case atStart => exact ⟨0, by omega, S2.out⟩
    case round =>
      clear S1 S2
      obtain ⟨q, hq, sq⟩ := hrel
      obtain ⟨va, vc, rfl, hvB⟩ := sq.slice
      have hlen : (l ++ 128 :: List.replicate q 0).length = n + 1 + q := by simp [Hl.out]; omega
      rw [hlen] at sq ⊢
      have S3 := Lib.hid sq
      have Hlen := Lib.hid hlen
      clear sq hlen hvB
      by_cases hlt : q < Q
      · have dt : (((n + 1 + q : Nat) : Int) % 64 == 56) = false := by have := HQm.out; simp; omega
        have dt2 : (((n + 1 + q : Nat) : Int) % 64 != 56) = true := by have := HQm.out; simp; omega
        obtain ⟨m, hm⟩ : ∃ m, m = n + 1 + q := ⟨_, rfl⟩
        rw [← hm] at S3 dt dt2 ⊢
        have Hm := Lib.hid hm
        clear hm
        have hm2 : m ≤ 140737488355327 := by have := Hm.out; omega
        go_wp2_with (at_builtin; refine append_bs rfl (.tmp 19) (.tmp 20) rfl (w.heap.size + 1) _ m _ rfl (by have := S3.out.own.alloc (.cells #[.int .u8 0] 5); rw [Hlen.out, ← Hm.out] at this; exact this) (some ⟨wr.heap.size, 0, none⟩) 1 1 [0] rfl (Bs_one (heap_new rfl) rfl) (by omega) (by rw [size_alloc1]; have := S3.out.sz; omega) ?_; intro v4 p4 ho hg; have S4 := Lib.hid (S3.out.app (y := [0]) (by rw [Hlen.out, ← Hm.out]; exact ho) hg); clear ho hg)
        obtain ⟨vb, vd, rfl, _⟩ := S4.out.slice
        go_roundw
        case rel =>
          refine ⟨q + 1, by omega, ?_⟩
          have e : l ++ 128 :: List.replicate (q + 1) 0 = l ++ 128 :: List.replicate q 0 ++ [0] := by
            rw [List.replicate_succ']; simp
          rw [e]; exact S4.out
        case measure => simp [Hl.out]; have := Hm.out; omega
      · obtain rfl : q = Q := by omega
        have dt : (((n + 1 + q : Nat) : Int) % 64 == 56) = true := by have := HQm.out; simp; omega
        have dt2 : (((n + 1 + q : Nat) : Int) % 64 != 56) = false := by have := HQm.out; simp; omega
        obtain ⟨m, hm⟩ : ∃ m, m = n + 1 + q := ⟨_, rfl⟩
        rw [← hm] at S3 dt dt2 ⊢
        go_wp2_with fail
        go_meet
        case rel => exact S3.out
  case rest =>
    have S5 := Lib.hid hcut
    clear hcut S1 S2 q2
    obtain ⟨X, hX⟩ : ∃ X : Nat, X = 8 * n := ⟨_, rfl⟩
    have hX2 : IntKind.u64.wrap ((n : Int) * 8) = (X : Int) := by rw [IntKind.wrap_u64]; omega
    have hX4 : IntKind.u64.wrap (n : Int) = (n : Int) := by rw [IntKind.wrap_u64]; omega
    have hX5 : (n : Int) * 8 = (X : Int) := by omega
    have hX3 : X < 9223372036854775808 := by omega
    have HX := Lib.hid hX
    clear hX
    obtain ⟨L1, hL1⟩ : ∃ L1, L1 = l ++ 128 :: List.replicate Q 0 := ⟨_, rfl⟩
    rw [← hL1] at S5
    have HL1 := Lib.hid hL1
    have HLn : Hid (L1.length ≤ n + 65) := Lib.hid (by rw [hL1]; simp [Hl.out]; have := HQm.out; have := HQ.out; have := (padI_bd ((n : Int) + 1) 56).2; omega)
    clear hL1
    go_upto_block 2 with (fail)
    clear hX2 hX4 hX5
    go_cut [3] from 26 to 36 (fun v wx => SQ w v (l ++ padB n) wx)
    case first =>
      go_wp2
      go_loopw [3, 5] (fun v s wr => ∃ (j : Nat) (sh : Int), j ≤ 8 ∧ 8 * (j : Int) + sh = 56 ∧ s = .int .i64 sh ∧ SQ w v (L1 ++ (be8 X).take j) wr) (fun _ s _ => (intOf s + 8).toNat)
      case atStart => exact ⟨0, 56, by omega, by omega, rfl, by simpa using S5.out⟩
      case round =>
        clear S5
        obtain ⟨j, sh, hj, hsh, rfl, sq⟩ := hrel
        obtain ⟨va, vc, rfl, hvB⟩ := sq.slice
        have S6 := Lib.hid sq
        clear sq hvB
        have s2 : sh ≤ 56 := by omega
        by_cases hlt : j < 8
        · have s1 : 0 ≤ sh := by omega
          have Hsh := Lib.hid hsh
          clear hsh
          obtain ⟨t, rfl⟩ := Int.eq_ofNat_of_zero_le s1
          have e1 : min t 64 = t := by omega
          have hu : ((X : Int) / 2 ^ t % 256) = bi (UInt8.ofNat (X / 2 ^ t)) := by
            have := low_nat X t
            simp [vals] at this
            exact this.symm
          have HU := Lib.hid hu
          clear hu hX3
          obtain ⟨M, hM⟩ : ∃ M, M = (L1 ++ (be8 X).take j).length := ⟨_, rfl⟩
          have hM2 : M ≤ 140737488355327 := by rw [hM]; have := HLn.out; simp [be8]; omega
          rw [← hM] at S6 ⊢
          have HM := Lib.hid hM
          clear hM
          go_wp2_with (at_builtin; refine append_bs rfl (.tmp 30) (.tmp 35) rfl (w.heap.size + 1) _ M _ rfl (by have := S6.out.own.alloc (.cells #[.int .u8 ((X : Int) / 2 ^ t % 256)] 5); rw [← HM.out] at this; exact this) (some ⟨wr.heap.size, 0, none⟩) 1 1 [UInt8.ofNat (X / 2 ^ t)] rfl (Bs_one (heap_new rfl) HU.out) (by omega) (by rw [size_alloc1]; have := S6.out.sz; omega) ?_; intro v4 p4 ho hg; have S7 := Lib.hid (S6.out.app (y := [UInt8.ofNat (X / 2 ^ t)]) (by rw [← HM.out]; exact ho) hg); clear ho hg)
          go_roundw
          case rel =>
            refine ⟨j + 1, (t : Int) - 8, by omega, by have := Hsh.out; omega, rfl, ?_⟩
            have e : L1 ++ (be8 X).take (j + 1) = L1 ++ (be8 X).take j ++ [UInt8.ofNat (X / 2 ^ t)] := by
              rw [be8_take X j hlt, show 56 - 8 * j = t by have := Hsh.out; omega, List.append_assoc]
            rw [e]; exact S7.out
          case measure => simp [intOf]; have := Hsh.out; omega
        · obtain rfl : j = 8 := by omega
          obtain rfl : sh = -8 := by omega
          go_wp2_with fail
          go_meet
          case rel =>
            have e : l ++ padB n = L1 ++ (be8 X).take 8 := by
              unfold padB
              rw [HQ.out, HL1.out, HX.out, show (be8 (8 * n)).take 8 = be8 (8 * n) from List.take_of_length_le (by simp [be8])]
              simp
            rw [e]; exact S6.out
    case rest =>
      have S8 := Lib.hid hcut
      obtain ⟨va, vc, rfl, hvB⟩ := hcut.slice
      have HV := Lib.hid hvB
      have hpl := padB_len n
      have hlen : (l ++ padB n).length ≤ n + 72 := by rw [List.length_append, Hl.out]; omega
      clear hcut hvB S5 hX3 hpl
      obtain ⟨L2, hL2⟩ : ∃ L2, L2 = l ++ padB n := ⟨_, rfl⟩
      rw [← hL2] at S8 HV hlen ⊢
      have HL2 := Lib.hid hL2
      obtain ⟨M, hM⟩ : ∃ M, M = L2.length := ⟨_, rfl⟩
      rw [← hM] at HV hlen ⊢
      clear hL2 hM
      go_upto_region 12 with (first
        | (go_at_call 33; refine (rblocks_any va M vc L2 _ HV.out (by omega)).mono ?_; rintro e p5 ⟨rfl, hb⟩; have B5 := Lib.hid hb; clear hb)
        | (refine wpList_store_row rfl 31 (.tmp 6) (.tmp 38) rfl _ _ rfl rfl 31 _ (heap_new rfl) (by rw [wcells_size, absH_len]; exact size8w) (by rw [wcells_size, absH_len]; rfl) (wcells_one _) ?_))
      rw [World.setRow_alloc_new]
      obtain ⟨hs, hhs⟩ : ∃ hs, hs = absH H8 L2 := ⟨_, rfl⟩
      rw [← hhs]
      have Hhl : Hid (hs.length = 8) := Lib.hid (by rw [hhs]; exact absH_len _)
      have Hhs := Lib.hid hhs
      clear hhs
      go_upto_region 13 with (fail)
      rw [zeros32]
      have su : SU w p5.heap.size hs 0 ((p5.alloc (.cells (wcells hs) 31)).alloc (.cells (bcells (List.replicate 32 0)) 24)) := by
        have hz := B5.out.size
        have hz2 := S8.out.sz
        have hz3 := S8.out.bel.size
        exact ⟨heap_old (heap_old ((B5.out.block _ (heap_lt S8.out.z)).trans S8.out.z)), heap_old (heap_new rfl), by rw [firstB_zero]; exact heap_new (by simp only [size_alloc1]), by omega, ((S8.out.bel.trans (B5.out.mono hz3)).alloc (by omega) _).alloc (by rw [size_alloc1]; omega) _⟩
      have e7 : (p5.alloc (.cells (wcells hs) 31)).heap.size = p5.heap.size + 1 := by simp only [size_alloc1]
      generalize (p5.alloc (.cells (wcells hs) 31)).alloc (.cells (bcells (List.replicate 32 0)) 24) = p6 at *
      obtain ⟨T6, hT6⟩ : ∃ T6, T6 = p5.heap.size := ⟨_, rfl⟩
      rw [← hT6] at su ⊢
      have SU0 := Lib.hid su
      clear su B5 S8 HV hT6 e7
      go_wp2
      go_loopw [8] (fun i wr => ∃ k : Nat, k ≤ 32 ∧ i = .int .i64 (k : Int) ∧ SU w T6 hs k wr) (fun i _ => 32 - (intOf i).toNat)
      case atStart => exact ⟨0, by omega, rfl, SU0.out⟩
      case round =>
        clear SU0
        obtain ⟨k, hk, rfl, su⟩ := hrel
        have N := Lib.hid su
        clear su
        by_cases hlt : k < 32
        · have dlt : decide ((k : Int) < 32) = true := by simp; omega
          obtain ⟨I4, hI4⟩ : ∃ I4 : Nat, I4 = k / 4 := ⟨_, rfl⟩
          obtain ⟨Sh, hSh⟩ : ∃ Sh : Nat, Sh = 24 - k % 4 * 8 := ⟨_, rfl⟩
          have i1 : (k : Int) / 4 = (I4 : Int) := by omega
          have i2 : (I4 : Int) < 8 := by omega
          have i3 : IntKind.i64.wrap ((k : Int) % 4 * 8) = (k : Int) % 4 * 8 := i64_id _ (by omega) (by omega)
          have i4 : (24 : Int) - (k : Int) % 4 * 8 = (Sh : Int) := by omega
          have i5 : min Sh 32 = Sh := by omega
          have i6 : (k : Int) % 4 * 8 ≤ 24 := by omega
          have c0 := cell_words N.out.h I4 (by rw [Hhl.out]; omega)
          have c1 := cell_bytes N.out.o k (by rw [firstB_len]; exact hlt)
          have f1 := frozen_of_row wr (T6 + 1) k _ _ N.out.o
          have HI := Lib.hid (And.intro hI4 hSh)
          clear hI4 hSh
          go_wp2
          go_roundw
          case rel =>
            refine ⟨k + 1, by omega, by go_num, (heap_setCell_other _ _ _ _ (by have := N.out.ge; simp only; omega)).trans N.out.z, (heap_setCell_other _ _ _ _ (by simp only; omega)).trans N.out.h, ?_, N.out.ge, (N.out.bel).setCell (by have := N.out.ge; simp only; omega) _⟩
            refine (heap_setCell_same _ _ _ _ _ _ N.out.o).trans ?_
            rw [bcells_set]
            exact congrArg (fun l => some (Obj.cells (bcells l) 24 (0, 0))) (by rw [HI.out.1, HI.out.2]; exact firstB_set (joinAt hs) 32 k)
          case measure => simp [intOf]; omega
        · obtain rfl : k = 32 := by omega
          have dlt : decide ((32 : Int) < 32) = false := by simp
          go_wp2_with (first | (refine wpList_load_row rfl 24 (.tmp 7) rfl (T6 + 1) rfl 24 _ (0, 0) _ N.out.o Tryd.underlying24 rfl (by rw [bcells_size, firstB_len]; exact size32b) ?_) | (refine wpList_store_row rfl 24 (.tmp 2) (.tmp 55) rfl w.heap.size _ rfl rfl 24 _ N.out.z (by rw [bcells_size, firstB_len]; exact size32b) (by simp only [bcells_size, firstB_len, List.length_replicate]) (bcells_one _) ?_))
          have ev : Hv l = firstB (joinAt hs) 32 32 := by
            rw [firstB_all, Hhs.out, HL2.out]; unfold Hv joinB; rw [Hl.out]
          refine bodyPost_ret (v := .agg (bcells (Hv l))) ?_ rfl ⟨rfl, Below_setRow N.out.bel (by omega) _⟩
          rw [ev]
          exact results_cell_row rfl _ _ w.heap.size 24 _ (0, 0) _ rfl (setRow_heap _ _ _ _ _ _ N.out.z) Tryd.underlying24 rfl (by rw [bcells_size, firstB_len]; exact size32b)
end Go.Proofs.YtdfpjhpkkhdpoaaDoor

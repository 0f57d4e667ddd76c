/-
  The reference's Offset and Local (written by gen_Z8.py).
-/
import Derived.Test.YtcdjilnlmihnhaaZ8
namespace Go.Proofs.Ytcdjilnlmihnhaa
open Go.RowKit
set_option linter.unusedSimpArgs false
set_option linter.unusedVariables false
attribute [local go_sem ↓] exec_loadShift exec_storeShift exec_loadSeg exec_storeSeg exec_loadZone exec_storeZone
attribute [local go_sem] run_storeShift run_storeSeg run_storeZone
theorem offR_drop (t o : Int) (L : List SM) (i : Nat) (h : i < L.length) (cur : Int) : offR t cur (L.drop i) = offR t (if L[i].t ≤ t then L[i].o else cur) (L.drop (i + 1)) := by
  rw [List.drop_eq_getElem_cons h, offR]
set_option maxRecDepth 100000 in
set_option maxHeartbeats 1000000 in
theorem refOffset_any {w : World} {D : Nat → Prop} {o t : Int} {a : Option Addr} {n c : Nat} {L : List SM} (h : Ss D w a n c L) (hn : n ≤ 1000000) :
    Calls Try.prog 19 #[zV o a n c, .int .i64 t] w fun e w' => e = .returned (.int .i64 (offR t o L)) ∧ Below w.heap.size w w' := by
  obtain ⟨W1, hW1⟩ : ∃ W1, W1 = w.alloc (.cells #[.int .i64 o, .slice a n c] 24) := ⟨_, rfl⟩
  obtain ⟨gz, hgz⟩ : ∃ gz, gz = w.heap.size := ⟨_, rfl⟩
  have hr1 : W1.heap[gz]? = some (.cells #[.int .i64 o, .slice a n c] 24 (0, 0)) := by rw [hW1, hgz]; exact heap_newZ
  have hb1 : Below w.heap.size w W1 := by rw [hW1]; exact (Below.refl _ w).alloc (Nat.le_refl _) _
  have hs1 := h.below hb1
  have c0 : W1.cell? ⟨gz, 0, none⟩ = some (.int .i64 o) := cell_of_row W1 gz 0 _ _ _ hr1
  have c1 : W1.cell? ⟨gz, 1, none⟩ = some (.slice a n c) := cell_of_row W1 gz 1 _ _ _ hr1
  have HS := Lib.hid hs1
  have HB := Lib.hid hb1
  have HL := Lib.hid hs1.1
  have hm1 : n ≤ c := h.2.2.1
  have hm2 : c ≤ 9223372036854775807 := h.2.2.2.1
  clear h hs1 hb1 hr1
  unfold zV
  go_enter Try.func19, Try.ntmps19
  go_upto_region 1 with fail
  rw [← hW1]
  rw [← hgz]
  clear hW1 hgz
  go_wp2
  go_loopw [5, 6] (fun x y wr => ∃ (i : Nat) (cur : Int), i ≤ n ∧ x = .int .i64 cur ∧ y = .int .i64 (i : Int) ∧ offR t cur (L.drop i) = offR t o L ∧ W1 = wr) (fun _ y _ => n - (intOf y).toNat)
  case atStart => exact ⟨0, o, Nat.zero_le _, rfl, rfl, rfl, rfl⟩
  case round =>
    obtain ⟨i, cur, hi, rfl, rfl, hoff, rfl⟩ := hrel
    have HF := Lib.hid hoff
    clear hoff
    by_cases hlt : i < n
    · have hil : i < L.length := by rw [HL.out]; exact hlt
      obtain ⟨b, off, -, hbl, rfl, hc⟩ := HS.out.cells (by omega)
      obtain ⟨hct, hco⟩ := hc i hil
      have HE := Lib.hid (offR_drop t o L i hil cur)
      obtain ⟨ob, hob⟩ : ∃ ob, ob = off + i * 2 := ⟨_, rfl⟩
      rw [← hob] at hct hco
      have hob2 : off + i * 2 = ob := hob.symm
      have hlt2 : (i : Int) < (n : Int) := by omega
      have j1 : IntKind.i64.wrap ((i : Int) + 1) = (i : Int) + 1 := i64_id _ (by omega) (by omega)
      generalize L[i] = s at *
      clear hc hob
      by_cases hst : s.t ≤ t
      · have HE2 : Hid (offR t s.o (L.drop (i + 1)) = offR t o L) := Lib.hid (by have := HE.out; rw [if_pos hst] at this; rw [← this]; exact HF.out)
        go_wp2
        go_roundw
        case rel => exact ⟨i + 1, s.o, by omega, rfl, by go_num, HE2.out, trivial⟩
        case measure => simp [intOf]; omega
      · have HE2 : Hid (offR t cur (L.drop (i + 1)) = offR t o L) := Lib.hid (by have := HE.out; rw [if_neg hst] at this; rw [← this]; exact HF.out)
        go_wp2
        go_roundw
        case rel => exact ⟨i + 1, cur, by omega, rfl, by go_num, HE2.out, trivial⟩
        case measure => simp [intOf]; omega
    · obtain rfl : i = n := by omega
      have HE : Hid (cur = offR t o L) := Lib.hid (by have := HF.out; rw [List.drop_of_length_le (by rw [HL.out]; exact Nat.le_refl _)] at this; exact this)
      go_wp2
      go_ret
      exact ⟨ret_intZ HE.out, HB.out⟩
set_option maxRecDepth 100000 in
set_option maxHeartbeats 1000000 in
theorem refLocal_any {w : World} {D : Nat → Prop} {o t : Int} {a : Option Addr} {n c : Nat} {L : List SM} (h : Ss D w a n c L) (hn : n ≤ 1000000) (ho : -900 ≤ o ∧ o ≤ 900) (hF : Far 0 L) (h1 : -4398046511104 ≤ t) (h2 : t ≤ 4398046511104) :
    Calls Try.prog 17 #[zV o a n c, .int .i64 t] w fun e w' => e = .returned (.tuple #[.int .i64 (lclZ t o L / 1440), .int .i64 (lclZ t o L % 1440)]) ∧ Below w.heap.size w w' := by
  have hof := offZ_bd (t := t) L 0 o hF ho.1 ho.2
  have hoe : offR t o L = offZ t o L := offR_eq L 0 o hF
  have HO : Hid (∀ u, Below w.heap.size w u → Calls Try.prog 19 #[.agg #[.int .i64 o, .slice a n c], .int .i64 t] u fun e w' => e = .returned (.int .i64 (offZ t o L)) ∧ Below u.heap.size u w') := Lib.hid (fun u hu => by rw [← hoe]; exact refOffset_any (h.below hu) hn)
  obtain ⟨x, hx⟩ : ∃ x, x = offZ t o L := ⟨_, rfl⟩
  obtain ⟨m, hm⟩ : ∃ m, m = lclZ t o L := ⟨_, rfl⟩
  have hmx : t + x = m := by rw [hm, hx]; rfl
  rw [← hx] at hof HO
  rw [← hm]
  have i0 : IntKind.i64.wrap (t + x) = m := by rw [i64_id _ (by omega) (by omega), hmx]
  have ldz : (loadZoneA (.pointer (some ⟨w.heap.size, 0, none⟩))).run Try.prog (w.alloc (.cells #[.int .i64 o, .slice a n c] 24)) = .ok (.value (.agg #[.int .i64 o, .slice a n c])) _ := run_loadZone heap_newZ
  have hb1 : Below w.heap.size w (w.alloc (.cells #[.int .i64 o, .slice a n c] 24)) := (Below.refl _ w).alloc (Nat.le_refl _) _
  have HB1 := Lib.hid hb1
  have hmb : -4398046512004 ≤ m ∧ m ≤ 4398046512004 := by omega
  have HFL := Lib.hid (fun u => floorZ_any m u (by omega) (by omega))
  obtain ⟨d, hd⟩ : ∃ d, d = m / 1440 := ⟨_, rfl⟩
  rw [← hd] at HFL ⊢
  have j1 : IntKind.i64.wrap (1440 * d) = 1440 * d := i64_id _ (by omega) (by omega)
  have j2 : IntKind.i64.wrap (m - 1440 * d) = m - 1440 * d := i64_id _ (by omega) (by omega)
  have HE : Hid (m % 1440 = m - 1440 * d) := Lib.hid (by omega)
  clear hoe h hx hm hmx hb1 hof hd hmb
  unfold zV
  go_enter Try.func17, Try.ntmps17
  go_wp2_with (first
    | (go_at_call 19; refine (HO.out _ HB1.out).mono ?_; rintro e w2 ⟨rfl, hb⟩; have HB2 := Lib.hid (HB1.out.trans (hb.mono HB1.out.size)); clear hb)
    | (go_at_call 28; refine (HFL.out _).mono ?_; rintro e w3 ⟨rfl, rfl⟩))
  go_ret2
  exact ⟨by rw [HE.out]; rfl, HB2.out⟩
end Go.Proofs.Ytcdjilnlmihnhaa

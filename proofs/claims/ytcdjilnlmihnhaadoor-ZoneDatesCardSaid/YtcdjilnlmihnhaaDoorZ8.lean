/-
  Local; the reference's Offset and Local (written by gen_Z8.py).
-/
import Derived.Test.YtcdjilnlmihnhaaDoorZ7
namespace Go.Proofs.YtcdjilnlmihnhaaDoor
open Go.RowKit
set_option linter.unusedSimpArgs false
set_option linter.unusedVariables false
attribute [local go_sem ↓] exec_loadShift exec_storeShift exec_loadSeg exec_storeSeg exec_loadZone exec_storeZone
attribute [local go_sem] run_storeShift run_storeSeg run_storeZone
/-- the minutes of the local time at an instant -/
def lclZ (t o : Int) (L : List SM) : Int := t + offZ t o L
theorem ret_twoZ {a b x y : Int} (h : a = x) (k : b = y) : Ending.returned (.tuple #[.int .i64 a, .int .i64 b]) = .returned (.tuple #[.int .i64 x, .int .i64 y]) := by rw [h, k]
set_option maxRecDepth 100000 in
set_option maxHeartbeats 1000000 in
theorem local_any {w : World} {D : Nat → Prop} {o t : Int} {a : Option Addr} {n c : Nat} {L : List SM} (h : Ss D w a n c L) (ho : -900 ≤ o ∧ o ≤ 900) (hF : Far 0 L) (h1 : -4398046511104 ≤ t) (h2 : t ≤ 4398046511104) :
    Calls Tryd.prog 6 #[zV o a n c, .int .i64 t] w fun e w' => e = .returned (.tuple #[.int .i64 (lclZ t o L / 1440), .int .i64 (lclZ t o L % 1440)]) ∧ Below w.heap.size w w' := by
  have hof := offZ_bd (t := t) L 0 o hF ho.1 ho.2
  have hoe : offP t 0 (segL minI o L) = offZ t o L := offP_eq L minI o 0 (by unfold minI; omega)
  have HO : Hid (∀ u, Below w.heap.size w u → Calls Tryd.prog 11 #[.agg #[.int .i64 o, .slice a n c], .int .i64 t] u fun e w' => e = .returned (.int .i64 (offZ t o L)) ∧ Below u.heap.size u w') := Lib.hid (fun u hu => by rw [← hoe]; exact offset_any (h.below hu))
  obtain ⟨x, hx⟩ : ∃ x, x = offZ t o L := ⟨_, rfl⟩
  obtain ⟨m, hm⟩ : ∃ m, m = lclZ t o L := ⟨_, rfl⟩
  have hmx : t + x = m := by rw [hm, hx]; rfl
  rw [← hx] at hof HO
  rw [← hm]
  have i0 : IntKind.i64.wrap (t + x) = m := by rw [i64_id _ (by omega) (by omega), hmx]
  have ldz : (loadZoneA (.pointer (some ⟨w.heap.size, 0, none⟩))).run Tryd.prog (w.alloc (.cells #[.int .i64 o, .slice a n c] 25)) = .ok (.value (.agg #[.int .i64 o, .slice a n c])) _ := run_loadZone heap_newZ
  have hb1 : Below w.heap.size w (w.alloc (.cells #[.int .i64 o, .slice a n c] 25)) := (Below.refl _ w).alloc (Nat.le_refl _) _
  have HB1 := Lib.hid hb1
  have hmb : -4398046512004 ≤ m ∧ m ≤ 4398046512004 := by omega
  clear hoe h hx hm hmx hb1 hof
  unfold zV
  by_cases hn : m < 0
  · obtain ⟨p, hp⟩ : ∃ p, p = -m := ⟨_, rfl⟩
    have e : m = -p := by omega
    have t1 : m.tdiv 1440 = -(p / 1440) := by rw [e, Int.neg_tdiv, Int.tdiv_eq_ediv_of_nonneg (by omega)]
    have t2 : m.tmod 1440 = -(p % 1440) := by rw [e, Int.neg_tmod, Int.tmod_eq_emod_of_nonneg (by omega)]
    obtain ⟨q, hq⟩ : ∃ q, q = -(p / 1440) := ⟨_, rfl⟩
    obtain ⟨r, hr⟩ : ∃ r, r = -(p % 1440) := ⟨_, rfl⟩
    rw [← hq] at t1
    rw [← hr] at t2
    have j1 : IntKind.i64.wrap q = q := i64_id _ (by omega) (by omega)
    have j2 : IntKind.i64.wrap r = r := i64_id _ (by omega) (by omega)
    by_cases hr0 : r < 0
    · have HD : Hid (m / 1440 = q - 1) := Lib.hid (by omega)
      have HM : Hid (m % 1440 = r + 1440) := Lib.hid (by omega)
      have j3 : IntKind.i64.wrap (q - 1) = q - 1 := i64_id _ (by omega) (by omega)
      have j4 : IntKind.i64.wrap (r + 1440) = r + 1440 := i64_id _ (by omega) (by omega)
      clear hp e hq hr hmb
      go_enter Tryd.func6, Tryd.ntmps6
      go_wp2_with (go_at_call 11; refine (HO.out _ HB1.out).mono ?_; rintro e w2 ⟨rfl, hb⟩; have HB2 := Lib.hid (HB1.out.trans (hb.mono HB1.out.size)); clear hb)
      go_ret2
      exact ⟨ret_twoZ HD.out.symm HM.out.symm, HB2.out⟩
    · have HD : Hid (m / 1440 = q) := Lib.hid (by omega)
      have HM : Hid (m % 1440 = r) := Lib.hid (by omega)
      clear hp e hq hr hmb
      go_enter Tryd.func6, Tryd.ntmps6
      go_wp2_with (go_at_call 11; refine (HO.out _ HB1.out).mono ?_; rintro e w2 ⟨rfl, hb⟩; have HB2 := Lib.hid (HB1.out.trans (hb.mono HB1.out.size)); clear hb)
      go_ret2
      exact ⟨ret_twoZ HD.out.symm HM.out.symm, HB2.out⟩
  · have h0 : 0 ≤ m := by omega
    obtain ⟨q, hq⟩ : ∃ q, m / 1440 = q := ⟨_, rfl⟩
    obtain ⟨r, hr⟩ : ∃ r, m % 1440 = r := ⟨_, rfl⟩
    have hr0 : 0 ≤ r := by omega
    have HQ := Lib.hid hq
    have HR := Lib.hid hr
    go_enter Tryd.func6, Tryd.ntmps6
    go_wp2_with (go_at_call 11; refine (HO.out _ HB1.out).mono ?_; rintro e w2 ⟨rfl, hb⟩; have HB2 := Lib.hid (HB1.out.trans (hb.mono HB1.out.size)); clear hb)
    go_ret2
    exact ⟨ret_twoZ (by have := HQ.out; omega) (by have := HR.out; omega), HB2.out⟩
end Go.Proofs.YtcdjilnlmihnhaaDoor

/-
  The reference's disk: how it lies in memory; spend, Blow, Last, Read.
-/
import Derived.Test.YtbnodhcgdgcebaaUK
import Derived.Test.YtbnodhcgdgcebaaSF
import Derived.Test.YtbnodhcgdgcebaaR5
namespace Go.Proofs.Ytbnodhcgdgcebaa
open Go.RowKit
set_option linter.unusedSimpArgs false
set_option linter.unusedVariables false
/-- the reference's fuse -/
def rf (d : DM) : Int := if d.fuse = 0 then -1 else (d.fuse : Int)
def refX (d : DM) : List Value := [.bool (!d.on), .int .i64 (rf d)]
/-- a disk of the reference -/
def refO (g : Nat) (d : DM) : Obj := trackO 87 (refX d) g d.S
section
variable {w : World} {ty : TypeId} {x y : Value} {g : Nat} {gso : Option Nat} {vo : Value} {row : Nat → Nat} {Bf : Nat → Prop} {S : List (List (List UInt8))}
theorem Trk.cells3 (h : Trk w ty [x, y] g gso vo row Bf S) : g < w.heap.size ∧ w.cell? ⟨g, 0, none⟩ = some vo ∧ w.cell? ⟨g, 1, none⟩ = some x ∧ w.cell? ⟨g, 2, none⟩ = some y ∧ ∀ j, w.frozen? ⟨g, j, none⟩ = false := by
  have hs := h.self
  refine ⟨heap_lt hs, ?_, ?_, ?_, fun j => frozen_of_row w g j _ _ hs⟩ <;> (rw [cell_of_row w g _ _ _ _ hs]; rfl)
/-- the other fields change -/
theorem Trk.restruct {ext ext' : List Value} (h : Trk w ty ext g gso vo row Bf S) {w' : World} (hself : w'.heap[g]? = some (.cells (vo :: ext').toArray ty (0, 0))) (hK : Kept (fun j => j = g) w w') : Trk w' ty ext' g gso vo row Bf S := by
  obtain ⟨xs, h1, h2⟩ := h.outer
  refine ⟨hself, ⟨xs, h1.kept hK (fun j hj e => h.ap1 (by rw [hj, e])), fun k hk => ?_⟩, h.inj, h.ap1, h.ap2, h.bf, fun z hz => Nat.lt_of_lt_of_le (h.lt z hz) hK.size⟩
  obtain ⟨v, h3, h4⟩ := h2 k hk
  exact ⟨v, h3, h4.kept hK (h.ap2 k hk).1 (fun z _ hz e => h.bf.1 (e ▸ hz))⟩
/-- the outer slice -/
theorem Trk.vo_at (h : Trk w ty [x, y] g gso vo row Bf S) (hp : 0 < S.length) : ∃ gs so co, gso = some gs ∧ vo = .slice (some ⟨gs, so, none⟩) S.length co ∧ S.length ≤ co ∧ co ≤ 9223372036854775807 := by
  obtain ⟨xs, h1, _⟩ := h.outer
  obtain ⟨gs, so, co, e1, e2, e3, e4, _⟩ := h1.at hp
  exact ⟨gs, so, co, e1, e2, e3, e4⟩
end
def spOff (off : Bool) (f : Int) : Bool := if f = 1 then true else off
def spF (f : Int) : Int := if f = 1 then -1 else if 0 < f then f - 1 else f
set_option maxRecDepth 100000 in
set_option maxHeartbeats 1000000 in
theorem spend_any (g : Nat) (a : Option Addr) (n c : Nat) (off : Bool) (f : Int) (w : World) (hg : w.heap[g]? = some (.cells #[.slice a n c, .bool off, .int .i64 f] 87 (0, 0))) (h1 : -1 ≤ f) (h2 : f ≤ 9223372036854775807) :
    Calls Try.prog 63 #[.pointer (some ⟨g, 0, none⟩)] w fun e w' => e = .returned (.tuple #[]) ∧ w'.heap[g]? = some (.cells #[.slice a n c, .bool (spOff off f), .int .i64 (spF f)] 87 (0, 0)) ∧ Kept (fun j => j = g) w w' := by
  have c1 : w.cell? ⟨g, 1, none⟩ = some (.bool off) := by rw [cell_of_row w g 1 _ _ _ hg]; rfl
  have c2 : w.cell? ⟨g, 2, none⟩ = some (.int .i64 f) := by rw [cell_of_row w g 2 _ _ _ hg]; rfl
  have f1 : w.frozen? ⟨g, 1, none⟩ = false := frozen_of_row w g 1 _ _ hg
  have f2 : w.frozen? ⟨g, 2, none⟩ = false := frozen_of_row w g 2 _ _ hg
  have HG := Lib.hid hg
  have hgl := heap_lt hg
  by_cases h0 : 0 < f
  · by_cases h3 : f = 1
    · subst h3
      have hP : ((((w.setCell ⟨g, 2, none⟩ (.int .i64 0)).setCell ⟨g, 1, none⟩ (.bool true)).setCell ⟨g, 2, none⟩ (.int .i64 (-1))).heap[g]? = some (.cells #[.slice a n c, .bool true, .int .i64 (-1)] 87 (0, 0))) ∧ Kept (fun j => j = g) w (((w.setCell ⟨g, 2, none⟩ (.int .i64 0)).setCell ⟨g, 1, none⟩ (.bool true)).setCell ⟨g, 2, none⟩ (.int .i64 (-1))) := by
        have e1 := heap_setCell_same w g 2 _ _ (.int .i64 0) hg
        have e2 := heap_setCell_same _ g 1 _ _ (.bool true) e1
        have e3 := heap_setCell_same _ g 2 _ _ (.int .i64 (-1)) e2
        refine ⟨e3, ?_⟩
        exact (((Kept.refl (fun j => j = g) w).setCell (fun _ => rfl) _).setCell (fun _ => rfl) _).setCell (fun _ => rfl) _
      have HP := Lib.hid hP
      clear hg hP hgl
      go_enter Try.func63, Try.ntmps63
      go_wp2
      go_end0
      exact ⟨rfl, HP.out.1, HP.out.2⟩
    · have h4 : ¬ f - 1 = 0 := by omega
      have hw : IntKind.i64.wrap (f - 1) = f - 1 := i64_id _ (by omega) (by omega)
      have hP : ((w.setCell ⟨g, 2, none⟩ (.int .i64 (f - 1))).heap[g]? = some (.cells #[.slice a n c, .bool (spOff off f), .int .i64 (spF f)] 87 (0, 0))) ∧ Kept (fun j => j = g) w (w.setCell ⟨g, 2, none⟩ (.int .i64 (f - 1))) := by
        have e1 := heap_setCell_same w g 2 _ _ (.int .i64 (f - 1)) hg
        unfold spOff spF
        rw [if_neg h3, if_neg h3, if_pos h0]
        exact ⟨e1, (Kept.refl (fun j => j = g) w).setCell (fun _ => rfl) _⟩
      have HP := Lib.hid hP
      clear hg hP hgl
      go_enter Try.func63, Try.ntmps63
      go_wp2
      go_end0
      exact ⟨rfl, HP.out.1, HP.out.2⟩
  · have hP : w.heap[g]? = some (.cells #[.slice a n c, .bool (spOff off f), .int .i64 (spF f)] 87 (0, 0)) := by
      unfold spOff spF
      rw [if_neg (by omega), if_neg (by omega), if_neg h0]; exact hg
    have HP := Lib.hid hP
    have h5 : f ≤ 0 := by omega
    clear hg hP hgl
    go_enter Try.func63, Try.ntmps63
    go_wp2
    go_end0
    exact ⟨rfl, HP.out, Kept.refl _ _⟩
theorem rf_bd {d : DM} (h : d.fuse ≤ 9223372036854775807) : -1 ≤ rf d ∧ rf d ≤ 9223372036854775807 := by unfold rf; split <;> omega
theorem rf_burn (d : DM) : rf d.burn = (if rf d = 1 then -1 else if 0 < rf d then rf d - 1 else rf d) ∧ (d.burn).on = (if rf d = 1 then false else d.on) ∨ (¬ d.fuse = 0 ∧ d.on = false) := by
  unfold rf DM.burn
  by_cases h : d.fuse = 0
  · simp [h]
  · by_cases hon : d.on = true
    · left
      by_cases h1 : d.fuse = 1
      · simp [h1]
      · have h2 : ¬ ((d.fuse : Int) = 1) := by omega
        have h3 : 0 < (d.fuse : Int) := by omega
        have h4 : ¬ d.fuse - 1 = 0 := by omega
        have h5 : 1 < d.fuse := by omega
        simp [h, h2, h3, h4, h5, hon]
        omega
    · right; exact ⟨h, by simpa using hon⟩
/-- what spend does to a disk of the reference -/
theorem spend_lv {w0 w : World} {L : List Obj} {i g : Nat} {d : DM} (h : Lv w0 w L) (hi : L[i]? = some (refO g d)) (hon : d.on = true) (hp : 0 < d.S.length) (hf : d.fuse ≤ 9223372036854775807) :
    Calls Try.prog 63 #[.pointer (some ⟨g, 0, none⟩)] w fun e w' => e = .returned (.tuple #[]) ∧ Lv w0 w' (L.set i (refO g d.burn)) := by
  obtain ⟨B, ⟨gso, vo, row, Bf, hT, hTB⟩, hlt, _, hset⟩ := h.get hi
  obtain ⟨gs, so, co, rfl, rfl, e1, e2⟩ := hT.vo_at hp
  have hb := rf_bd hf
  refine (spend_any g _ _ _ (!d.on) (rf d) w hT.self hb.1 hb.2).mono ?_
  rintro e w' ⟨rfl, hg, hK⟩
  have hT' : Trk w' 87 (refX d.burn) g (some gs) (.slice (some ⟨gs, so, none⟩) d.S.length co) row Bf d.burn.S := by
    rw [DM.burn_S]
    refine hT.restruct ?_ hK
    rcases rf_burn d with ⟨r1, r2⟩ | ⟨_, r2⟩
    · unfold refX
      rw [r1, r2, hg]
      unfold spOff spF
      by_cases h1 : rf d = 1
      · simp [h1]
      · simp [h1]
    · rw [hon] at r2; cases r2
  have hl : d.burn.S.length = d.S.length := by rw [DM.burn_S]
  exact ⟨rfl, hset w' (refO g d.burn) (TBlk g (some gs) row Bf d.S.length) ⟨some gs, _, row, Bf, hT', fun x hx => by rw [hl] at hx; exact hx⟩ (hK.mono (fun j _ e => hTB j (.inl e))) (fun j hj => .inl (hTB j hj)) (fun j hj => Nat.lt_of_lt_of_le (hT.blk_lt j hj) hK.size)⟩
def blOff (off : Bool) (n : Int) : Bool := if off then off else n == 0
def blF (off : Bool) (f n : Int) : Int := if off then f else if n ≤ 0 then -1 else n
set_option maxRecDepth 100000 in
set_option maxHeartbeats 1000000 in
theorem blow_any (g : Nat) (vo : Value) (off : Bool) (f n : Int) (w : World) (hg : w.heap[g]? = some (.cells #[vo, .bool off, .int .i64 f] 87 (0, 0))) (h1 : -9223372036854775808 ≤ n) (h2 : n ≤ 9223372036854775807) :
    Calls Try.prog 49 #[.pointer (some ⟨g, 0, none⟩), .int .i64 n] w fun e w' => e = .returned (.tuple #[]) ∧ w'.heap[g]? = some (.cells #[vo, .bool (blOff off n), .int .i64 (blF off f n)] 87 (0, 0)) ∧ Kept (fun j => j = g) w w' := by
  have c1 : w.cell? ⟨g, 1, none⟩ = some (.bool off) := by rw [cell_of_row w g 1 _ _ _ hg]; rfl
  have c2 : w.cell? ⟨g, 2, none⟩ = some (.int .i64 f) := by rw [cell_of_row w g 2 _ _ _ hg]; rfl
  have f1 : w.frozen? ⟨g, 1, none⟩ = false := frozen_of_row w g 1 _ _ hg
  have f2 : w.frozen? ⟨g, 2, none⟩ = false := frozen_of_row w g 2 _ _ hg
  have HG := Lib.hid hg
  cases off with
  | true =>
    clear hg
    go_enter Try.func49, Try.ntmps49
    go_wp2
    exact bodyPost_ret (results_none rfl _ _ _) rfl ⟨rfl, HG.out, Kept.refl _ _⟩
  | false =>
    by_cases h0 : n ≤ 0
    · have hP : (((w.setCell ⟨g, 2, none⟩ (.int .i64 n)).setCell ⟨g, 2, none⟩ (.int .i64 (-1))).setCell ⟨g, 1, none⟩ (.bool (n == 0))).heap[g]? = some (.cells #[vo, .bool (n == 0), .int .i64 (-1)] 87 (0, 0)) ∧ Kept (fun j => j = g) w (((w.setCell ⟨g, 2, none⟩ (.int .i64 n)).setCell ⟨g, 2, none⟩ (.int .i64 (-1))).setCell ⟨g, 1, none⟩ (.bool (n == 0))) := by
        have e1 := heap_setCell_same w g 2 _ _ (.int .i64 n) hg
        have e2 := heap_setCell_same _ g 2 _ _ (.int .i64 (-1)) e1
        have e3 := heap_setCell_same _ g 1 _ _ (.bool (n == 0)) e2
        refine ⟨e3, ?_⟩
        exact (((Kept.refl (fun j => j = g) w).setCell (fun _ => rfl) _).setCell (fun _ => rfl) _).setCell (fun _ => rfl) _
      have HP := Lib.hid hP
      have HN : Hid (n ≤ 0) := Lib.hid h0
      clear hg hP
      go_enter Try.func49, Try.ntmps49
      go_wp2
      go_end0
      exact ⟨rfl, by unfold blOff blF; rw [if_neg (by simp), if_neg (by simp), if_pos HN.out]; exact HP.out.1, HP.out.2⟩
    · have hn0 : (n == 0) = false := by rw [beq_eq_false_iff_ne]; omega
      have hn1 : ¬ n = 0 := by omega
      have hn2 : 0 < n := by omega
      have hP : ((w.setCell ⟨g, 2, none⟩ (.int .i64 n)).setCell ⟨g, 1, none⟩ (.bool false)).heap[g]? = some (.cells #[vo, .bool false, .int .i64 n] 87 (0, 0)) ∧ Kept (fun j => j = g) w ((w.setCell ⟨g, 2, none⟩ (.int .i64 n)).setCell ⟨g, 1, none⟩ (.bool false)) := by
        have e1 := heap_setCell_same w g 2 _ _ (.int .i64 n) hg
        have e3 := heap_setCell_same _ g 1 _ _ (.bool false) e1
        refine ⟨e3, ?_⟩
        exact ((Kept.refl (fun j => j = g) w).setCell (fun _ => rfl) _).setCell (fun _ => rfl) _
      have HP := Lib.hid hP
      have HN : Hid (¬ n ≤ 0 ∧ (n == 0) = false) := Lib.hid ⟨h0, hn0⟩
      clear hg hP h0
      go_enter Try.func49, Try.ntmps49
      go_wp2
      go_end0
      exact ⟨rfl, by unfold blOff blF; rw [if_neg (by simp), if_neg (by simp), if_neg (by omega), hn0]; exact HP.out.1, HP.out.2⟩
/-- what Blow does to a disk of the reference -/
theorem blow_lv {w0 w : World} {L : List Obj} {i g : Nat} {d : DM} (h : Lv w0 w L) (hi : L[i]? = some (refO g d)) (n : Int) (h1 : -9223372036854775808 ≤ n) (h2 : n ≤ 9223372036854775807) :
    Calls Try.prog 49 #[.pointer (some ⟨g, 0, none⟩), .int .i64 n] w fun e w' => e = .returned (.tuple #[]) ∧ Lv w0 w' (L.set i (refO g (d.setFuse n))) := by
  obtain ⟨B, ⟨gso, vo, row, Bf, hT, hTB⟩, hlt, _, hset⟩ := h.get hi
  refine (blow_any g vo (!d.on) (rf d) n w hT.self h1 h2).mono ?_
  rintro e w' ⟨rfl, hg, hK⟩
  have hT' : Trk w' 87 (refX (d.setFuse n)) g gso vo row Bf (d.setFuse n).S := by
    rw [setFuse_S']
    refine hT.restruct ?_ hK
    rw [hg]
    unfold refX DM.setFuse rf blOff blF
    cases hon : d.on with
    | false => simp [hon]
    | true =>
      by_cases h0 : n ≤ 0
      · have e : n.toNat = 0 := by omega
        by_cases h3 : n = 0
        · simp [h0, e, h3]
        · simp [h0, e, h3, bne]
      · have e : ¬ n.toNat = 0 := by omega
        have e2 : ((n.toNat : Nat) : Int) = n := by omega
        have h3 : ¬ n = 0 := by omega
        simp only [if_true, if_neg h0, if_neg e, e2, Bool.not_true, Bool.false_eq_true, if_false, bne, Bool.not_not]
  have hl : (d.setFuse n).S.length = d.S.length := by rw [setFuse_S']
  exact ⟨rfl, hset w' (refO g (d.setFuse n)) (TBlk g gso row Bf d.S.length) ⟨gso, vo, row, Bf, hT', fun x hx => by rw [hl] at hx; exact hx⟩ (hK.mono (fun j _ e => hTB j (.inl e))) (fun j hj => .inl (hTB j hj)) (fun j hj => Nat.lt_of_lt_of_le (hT.blk_lt j hj) hK.size)⟩
end Go.Proofs.Ytbnodhcgdgcebaa

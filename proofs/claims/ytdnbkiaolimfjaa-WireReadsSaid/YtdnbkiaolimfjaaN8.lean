/-
  The reader and the specification side by side.
-/
import Derived.Test.YtdnbkiaolimfjaaN7
import Derived.Test.YtdnbkiaolimfjaaM4
import Derived.Test.YtdnbkiaolimfjaaR2
namespace Go.Proofs.Ytdnbkiaolimfjaa
open Go.RowKit
/-- the values are alike, and what is left too, as long as there is no error -/
theorem ref_sim (k : Nat) (l l' : List UInt8) (e : Nat) (h : e = 0 → l = l') (most : Int) :
    (refVal k ⟨l', e⟩ most).1 = (rVal k ⟨l, e⟩ most).1 ∧ (refVal k ⟨l', e⟩ most).2.e = (rVal k ⟨l, e⟩ most).2.e ∧ ((rVal k ⟨l, e⟩ most).2.e = 0 → (rVal k ⟨l, e⟩ most).2.l = (refVal k ⟨l', e⟩ most).2.l) := by
  by_cases he : e = 0
  · obtain rfl := h he
    subst he
    unfold refVal
    by_cases hk : k % 5 = 2
    · rw [if_pos hk]
      unfold rVal
      rw [if_neg (by omega), if_neg (by omega), if_pos hk]
      unfold refBool rBool
      simp only [if_true]
      cases l with
      | nil => exact ⟨rfl, rfl, fun _ => rfl⟩
      | cons b r =>
        simp only
        by_cases hb : 1 < b.toNat
        · simp only [if_pos hb]
          have : (b.toNat == 1) = false := by rw [beq_eq_false_iff_ne]; omega
          simp [this]
        · simp [if_neg hb]
    · rw [if_neg hk]
      exact ⟨rfl, rfl, fun _ => rfl⟩
  · have h1 : refVal k ⟨l', e⟩ most = (pzero, ⟨l', e⟩) := by
      unfold refVal
      split
      · unfold refBool; rw [if_neg he]; rfl
      · exact rVal_err k l' e he most
    rw [h1, rVal_err k l e he most]
    exact ⟨rfl, rfl, fun h => absurd h he⟩
theorem refVal_len (k : Nat) (s : RS) (most : Int) : (refVal k s most).2.l.length ≤ s.l.length := by
  unfold refVal
  split
  · unfold refBool
    split
    · cases h : s.l with
      | nil => simp
      | cons b r =>
        simp only
        split <;> simp
    · exact Nat.le_refl _
  · exact rVal_len k s most
/-- a cell of a row of one's own is stored -/
theorem Own.set1 {w : World} {e : TypeId} {g : Nat} {v : Value} {n : Nat} {xs : List Value} (h : Own w e 1 (some g) v n xs) (i : Nat) (hi : i < n) (x : Value) : Own (w.setCell ⟨g, i, none⟩ x) e 1 (some g) v n (xs.set i x) := by
  obtain ⟨h1, h2⟩ := h
  refine ⟨by rw [List.length_set]; exact h1, ?_⟩
  rcases h2 with ⟨h0, _⟩ | ⟨g', cap, cur, hg', hv, hh, hn, hc, hs, ht⟩
  · cases h0
  · cases hg'
    refine .inr ⟨g, cap, cur.setIfInBounds i x, rfl, hv, heap_setCell_same w g i cur e x hh, hn, hc, by rw [Array.size_setIfInBounds]; exact hs, ?_⟩
    rw [← ht, Array.toList_setIfInBounds, List.take_set]
theorem vals_set (l : List UInt8) (i : Nat) (x : UInt8) : vals (l.set i x) = (vals l).set i (.int .u8 (x.toNat : Int)) := by simp [vals, List.map_set]
/-- a block with the two cells of a reader by value -/
def T2 (p : World) (j : Nat) : Prop := ∃ x y, p.heap[j]? = some (.cells #[x, y] 48 (0, 0))
/-- such a block that holds what was read -/
def New2 (D : Nat → Prop) (l : List UInt8) (e : Nat) (p : World) (g : Nat) : Prop := ∃ a c, p.heap[g]? = some (.cells #[.slice a l.length c, .int .i64 (e : Int)] 48 (0, 0)) ∧ Bs D p a l.length c l
structure ExS (B : Nat) (D : Nat → Prop) (l : List UInt8) (e : Nat) (p p' : World) : Prop where
  kept : Kept (fun j => B ≤ j ∧ T2 p j) p p'
  two : ∀ j, T2 p j → T2 p' j
  new : ∀ g, B ≤ g → New2 D l e p g → New2 D l e p' g
theorem ExS.below {B : Nat} {D : Nat → Prop} {l : List UInt8} {e : Nat} {p p' : World} (h : Below p.heap.size p p') : ExS B D l e p p' := by
  refine ⟨Kept.of_below _ h, ?_, ?_⟩
  · rintro j ⟨x, y, hj⟩
    exact ⟨x, y, (h.block _ (heap_lt hj)).trans hj⟩
  · rintro g _ ⟨a, c, hg, hB⟩
    exact ⟨a, c, (h.block _ (heap_lt hg)).trans hg, hB.kept (Kept.of_below (fun _ => False) h) (fun _ _ _ h => h)⟩
theorem ExS.store {B : Nat} {D : Nat → Prop} {l : List UInt8} {e : Nat} {p : World} {g : Nat} {a : Option Addr} {c : Nat} (hD : ∀ b, D b → b < B) (hg : B ≤ g) (h2 : T2 p g) (hB : Bs D p a l.length c l) :
    ExS B D l e p (p.setRow g #[.slice a l.length c, .int .i64 (e : Int)]) ∧ New2 D l e (p.setRow g #[.slice a l.length c, .int .i64 (e : Int)]) g := by
  obtain ⟨x, y, hx⟩ := id h2
  have K : Kept (fun j => j = g) p (p.setRow g #[.slice a l.length c, .int .i64 (e : Int)]) := (Kept.refl (fun j => j = g) p).setRow (fun _ => rfl) _
  have hnew : New2 D l e (p.setRow g #[.slice a l.length c, .int .i64 (e : Int)]) g := ⟨a, c, setRow_heap _ _ _ _ _ _ hx, hB.kept K (fun b _ hb e => by have := hD b hb; omega)⟩
  refine ⟨⟨K.mono (fun j _ h => by subst h; exact ⟨hg, h2⟩), ?_, ?_⟩, hnew⟩
  · rintro j ⟨x', y', hj⟩
    by_cases e : j = g
    · subst e; exact ⟨_, _, setRow_heap _ _ _ _ _ _ hx⟩
    · exact ⟨x', y', (setRow_other _ _ _ _ e).trans hj⟩
  · rintro j hj ⟨a', c', h1, hB'⟩
    by_cases e : j = g
    · subst e; exact hnew
    · exact ⟨a', c', (setRow_other _ _ _ _ e).trans h1, hB'.kept K (fun b _ hb e => by have := hD b hb; omega)⟩
theorem ExS.bs {B : Nat} {D : Nat → Prop} {l : List UInt8} {e : Nat} {p p' : World} (h : ExS B D l e p p') (hD : ∀ b, D b → b < B) {a : Option Addr} {n c : Nat} {l2 : List UInt8} (hB : Bs D p a n c l2) : Bs D p' a n c l2 :=
  hB.kept h.kept (fun b _ hb e => by have := hD b hb; omega)
theorem ExS.vok {B : Nat} {D : Nat → Prop} {l : List UInt8} {e : Nat} {p p' : World} (h : ExS B D l e p p') {m : VM} (hm : VOk (fun b => B ≤ b ∧ IntRow p b) p m) : VOk (fun b => B ≤ b ∧ IntRow p' b) p' m := by
  have no : ∀ b, IntRow p b → ¬ T2 p b := by
    rintro b ⟨cur, hc⟩ ⟨x, y, h2⟩
    rw [hc] at h2
    simp at h2
  refine (hm.kept h.kept (fun b _ hb e => no b hb.2 e.2)).dom (fun b hb => ⟨hb.1, ?_⟩)
  obtain ⟨cur, hc⟩ := hb.2
  exact ⟨cur, h.kept.heap hc (fun e => no b hb.2 e.2)⟩
theorem ExS.row {B : Nat} {D : Nat → Prop} {l : List UInt8} {e : Nat} {p p' : World} (h : ExS B D l e p p') {g : Nat} {cs : Array Value} (hg : p.heap[g]? = some (.cells cs 34 (0, 0))) : p'.heap[g]? = some (.cells cs 34 (0, 0)) :=
  h.kept.heap hg (fun ⟨_, x, y, h2⟩ => by rw [hg] at h2; simp at h2)
/-- where the inner loop of WireReads stands -/
structure RnAt (D : Nat → Prop) (g : Nat) (k3 : Option Nat) (gx : Nat) (w7 wr : World) (l l' : List UInt8) (e : Nat) : Prop where
  rd : Rd wr g k3 l e
  rb : ∃ a c, RdB wr gx a l'.length c e ∧ Bs D wr a l'.length c l'
  sim : e = 0 → l = l'
  len : l.length ≤ 1000000000 ∧ l'.length ≤ 1000000000
  kept : Kept (fun b => b = g ∨ b = gx) w7 wr
theorem endE_sim (l l' : List UInt8) (e : Nat) (h : e = 0 → l = l') : endE e l.length = endE e l'.length := by
  unfold endE
  by_cases he : e = 0
  · rw [h he]
  · rw [if_neg (fun hh => he hh.1), if_neg (fun hh => he hh.1)]
end Go.Proofs.Ytdnbkiaolimfjaa

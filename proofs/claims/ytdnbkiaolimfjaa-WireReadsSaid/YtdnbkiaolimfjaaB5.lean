/-
  The laws' lives: the examples.
-/
import Derived.Test.YtdnbkiaolimfjaaB4
import Derived.Deep.Cut
namespace Go.Proofs.Ytdnbkiaolimfjaa
open Go.RowKit
set_option linter.unusedSimpArgs false
set_option linter.unusedVariables false
theorem ex_u300 : encU 300 = [172, 2] := by rw [encU_big (by omega), encU_small (by omega)]; rfl
theorem ex_i3 : encI (-3) = [5] := by unfold encI; rw [show zig (-3) = 5 by decide, encU_small (by omega)]; rfl
theorem ex_tab : encT [97, 98] = [2, 97, 98] := by unfold encT; rw [show ([97, 98] : List UInt8).length = 2 by rfl, encU_small (by omega)]; rfl
theorem ex_l : encL [-1, 64] = [2, 1, 128, 1] := by
  unfold encL encI
  simp only [List.flatMap_cons, List.flatMap_nil]
  rw [show zig (-1) = 1 by decide, show zig 64 = 128 by decide, show ([-1, 64] : List Int).length = 2 by rfl, encU_small (n := 2) (by omega), encU_small (n := 1) (by omega), encU_big (n := 128) (by omega), encU_small (n := 128 / 128) (by omega)]
  rfl
theorem ex_all : ((([] ++ encU 300) ++ encI (-3)) ++ encT [97, 98]) ++ encL [-1, 64] = [172, 2, 5, 2, 97, 98, 2, 1, 128, 1] := by rw [ex_u300, ex_i3, ex_tab, ex_l]; rfl
theorem ex_r1 : rUint ⟨[128], 0⟩ = (0, ⟨[128], 6⟩) := by rfl
theorem ex_r2 : rUint ⟨[128, 0], 0⟩ = (0, ⟨[128, 0], 7⟩) := by rfl
theorem ex_ok : Ok64 [-1, 64] := by
  intro x hx
  simp at hx
  rcases hx with rfl | rfl <;> decide
theorem Is.two (w : World) (x y : Int) : Is (fun b => b = w.heap.size) (w.alloc (.cells #[.int .i64 x, .int .i64 y] 3)) (some ⟨w.heap.size, 0, none⟩) 2 2 [x, y] := by
  have h := Own.made w 3 1 #[.int .i64 x, .int .i64 y] 2 (by decide) rfl
  obtain ⟨a, c, e, hs⟩ := h.sl
  cases e
  exact ⟨rfl, hs.dom (fun b h => (Option.some.inj h).symm)⟩
theorem Bs.lit (w : World) (l : List UInt8) (n : Nat) (cs : Array Value) (hc : cs.toList = vals l) (hn : l.length = n) (hm : n ≤ maxLen) : Bs (fun b => b = w.heap.size) (w.alloc (.cells cs 5)) (some ⟨w.heap.size, 0, none⟩) n n l := by
  have h := Own.made w 5 1 cs n hm (by rw [← Array.length_toList, hc, vals_len, hn, Nat.mul_one])
  obtain ⟨a, c, e, hs⟩ := h.sl
  cases e
  rw [hc] at hs
  exact ⟨hn, hs.dom (fun b h => (Option.some.inj h).symm)⟩
set_option maxRecDepth 100000 in
set_option maxHeartbeats 1000000 in
theorem lives_any (w : World) :
    Calls Try.prog 17 #[] w fun x w' => x = .returned (.bool true) ∧ Below w.heap.size w w' := by
  go_enter Try.func17, Try.ntmps17
  go_upto_region 2 with (fail)
  obtain ⟨w1, hw1⟩ : ∃ w1, w1 = w.alloc (.cells #[.slice none 0 0] 27) := ⟨_, rfl⟩
  have hb1 : Below w.heap.size w w1 := by rw [hw1]; exact (Below.refl _ _).alloc (Nat.le_refl _) _
  have hz1 : w1.heap.size = w.heap.size + 1 := by rw [hw1, size_alloc1]
  have hN : Wr w1 w.heap.size none [] := by rw [hw1]; exact Wr.new w
  have HN := Lib.hid hN
  have HB1 := Lib.hid hb1
  have HZ1 := Lib.hid hz1
  rw [← hw1]
  clear hw1 hb1 hz1 hN
  go_wp2_with (first
    | (go_at_call 34; refine (wints_any w.heap.size _ _ (fun b => b = w4.heap.size) _ 2 2 [-1, 64] _ (W4.out.kept ((Kept.refl (fun _ => False) w4).alloc _) (fun h => h) (fun _ _ h => h)) (by rw [ex_u300, ex_i3, ex_tab]; decide) (Is.two w4 (-1) 64) Z4.out ex_ok (by omega)).mono ?_; rintro e w5 ⟨rfl, h5⟩; obtain ⟨k5, hw5, hl5⟩ := h5; have W5 := Lib.hid ((congrArg (Wr w5 w.heap.size k5) ex_all).mp hw5); have L5 := Lib.hid (Link.trans L4.out (Link.trans (Link.of_below ((Below.refl _ _).alloc (Nat.le_refl _) _)) hl5)); clear hw5 hl5)
    | (go_at_call 33; refine (wtext_any w.heap.size _ _ _ _ W3.out (by rw [ex_u300, ex_i3]; decide) (by decide)).mono ?_; rintro e w4 ⟨rfl, h4⟩; obtain ⟨k4, hw4, hl4⟩ := h4; have W4 := Lib.hid hw4; have L4 := Lib.hid (Link.trans L3.out hl4); have Z4 : Hid (∀ b, b = w4.heap.size → b ≠ w.heap.size ∧ k4 ≠ some b) := Lib.hid (fun b hb => ⟨by have := hw4.lt; omega, fun e => by obtain ⟨v, _, ho, _⟩ := hw4; have := ho.lt b e; omega⟩); clear hw4 hl4)
    | (go_at_call 31; refine (wint_any w.heap.size _ _ (-3) _ W2.out (by rw [ex_u300]; decide) (by decide) (by decide)).mono ?_; rintro e w3 ⟨rfl, h3⟩; obtain ⟨k3, hw3, hl3⟩ := h3; have W3 := Lib.hid hw3; have L3 := Lib.hid (Link.trans L2.out hl3); clear hw3 hl3)
    | (go_at_call 30; refine (wuint_any w.heap.size none [] 300 _ _ HN.out (by decide) (by decide) rfl).mono ?_; rintro e w2 ⟨rfl, h2⟩; obtain ⟨k2, hw2, hl2⟩ := h2; have W2 := Lib.hid hw2; have L2 := Lib.hid hl2; clear hw2 hl2))
  refine (done_any w.heap.size _ _ _ W5.out (by decide)).mono ?_
  rintro e w6 ⟨v6, rfl, hm⟩
  obtain ⟨a6, c6, rfl, hs6⟩ := hm.bs
  have r6 : (convert 23 9 (.slice a6 10 c6)).run Try.prog w6 = .ok (.string ⟨#[172, 2, 5, 2, 97, 98, 2, 1, 128, 1]⟩) w6 := run_str hs6
  obtain ⟨-, -, -, hb6⟩ := hm
  have B6 := Lib.hid hb6
  clear hs6 hb6
  have sz6 : w1.heap.size ≤ w6.heap.size := Nat.le_trans L5.out.kept.size B6.out.size
  have Bw6 : Below w.heap.size w w6 := (HB1.out.trans (L5.out.kept.below (by have := HZ1.out; omega) (fun i hi e => by
    rcases e with e | e
    · omega
    · cases e))).trans (B6.out.mono (by have := HZ1.out; have := L5.out.kept.size; omega))
  have HBw := Lib.hid Bw6
  clear W2 W3 W4 W5 L2 L3 L4 L5 Z4 B6 Bw6 HN HB1 HZ1 sz6
  go_wp2_with (first
    | (go_at_call 20; refine (newReader_any _ _ 2 2 [128, 0] _ (Bs.lit w7 [128, 0] 2 _ rfl rfl (by decide)) (by omega)).mono ?_; rintro e w8 ⟨g8, rfl, k8, hr8, hg8, hf8, hb8⟩; have R8 := Lib.hid hr8; have G8 : Hid (w7.heap.size + 1 ≤ g8) := Lib.hid (by simpa using hg8); have F8 : Hid (∀ j, k8 = some j → w7.heap.size + 1 ≤ j ∧ j < w8.heap.size) := Lib.hid (by simpa using hf8); have B8 : Hid (Below w7.heap.size w7 w8) := Lib.hid (((Below.refl _ _).alloc (Nat.le_refl _) _).trans (hb8.mono (by simp))); clear hr8 hg8 hf8 hb8)
    | (go_at_call 20; refine (newReader_any _ _ 1 1 [128] _ (Bs.lit w6 [128] 1 _ rfl rfl (by decide)) (by omega)).mono ?_; rintro e w7 ⟨g7, rfl, k7, hr7, hg7, hf7, hb7⟩; have R7 := Lib.hid hr7; have G7 : Hid (w6.heap.size + 1 ≤ g7) := Lib.hid (by simpa using hg7); have F7 : Hid (∀ j, k7 = some j → w6.heap.size + 1 ≤ j ∧ j < w7.heap.size) := Lib.hid (by simpa using hf7); have B7 : Hid (Below w6.heap.size w6 w7) := Lib.hid (((Below.refl _ _).alloc (Nat.le_refl _) _).trans (hb7.mono (by simp))); clear hr7 hg7 hf7 hb7))
  have l7 := R7.out.lt
  have R7b : Rd w8 g7 k7 [128] 0 := R7.out.kept (Kept.of_below (fun _ => False) B8.out) (fun h => h) (fun _ _ h => h)
  have hA := ruint_any g7 k7 [128] 0 w8 R7b (by decide)
  rw [ex_r1] at hA
  refine hA.mono ?_
  rintro e w9 ⟨rfl, h9⟩
  have R8b : Rd w9 g8 k8 [128, 0] 0 := R8.out.kept h9.2 (fun e => by have := G8.out; omega) (fun j hj e => by have := (F8.out j hj).1; omega)
  have hB := ruint_any g8 k8 [128, 0] 0 w9 R8b (by decide)
  rw [ex_r2] at hB
  have H9 := Lib.hid h9
  have HBb := Lib.hid hB
  clear hA hB h9 R8b R7b l7
  go_wp2_with fail
  refine HBb.out.mono ?_
  rintro e w10 ⟨rfl, h10⟩
  have R7c : Rd w10 g7 k7 [128] 6 := H9.out.1.kept h10.2 (fun e => by have := R7.out.lt; have := G8.out; omega) (fun j hj e => by have := (F7.out j hj).2; have := G8.out; omega)
  have H10 := Lib.hid h10
  have HR7 := Lib.hid R7c
  clear h10 R7c
  go_wp2_with (first
    | (go_at_call 24; refine (err_any g8 k8 _ 7 _ H10.out.1).mono ?_; rintro e w11 ⟨rfl, rfl⟩; have tok := True.intro)
    | (go_at_call 24; refine (err_any g7 k7 _ 6 _ HR7.out).mono ?_; rintro e w11 ⟨rfl, rfl⟩))
  go_ret
  have s6 := HBw.out.size
  have s7 := B7.out.size
  have s8 := B8.out.size
  have g7b := G7.out
  have g8b := G8.out
  refine ⟨rfl, ((HBw.out.trans (B7.out.mono (by omega))).trans (B8.out.mono (by omega))).trans ((H9.out.2.below (B := w.heap.size) (by omega) (fun j hj e => by omega)).trans (H10.out.2.below (by have := H9.out.2.size; omega) (fun j hj e => by omega)))⟩
end Go.Proofs.Ytdnbkiaolimfjaa

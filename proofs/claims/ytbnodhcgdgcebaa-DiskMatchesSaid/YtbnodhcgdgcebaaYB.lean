/-
  The reference's disk: Last, Read.
-/
import Derived.Test.YtbnodhcgdgcebaaYA
namespace Go.Proofs.Ytbnodhcgdgcebaa
open Go.RowKit
set_option linter.unusedSimpArgs false
set_option linter.unusedVariables false
theorem kept_drewN (S : Nat → Prop) (w : World) (n : Nat) : Kept S w (w.drewN n) := ⟨rfl, rfl, rfl, Nat.le_refl _, fun _ _ _ => rfl⟩
theorem below_drewN (B : Nat) (w : World) (n : Nat) (h : B ≤ w.heap.size) : Below B w (w.drewN n) := ⟨rfl, rfl, rfl, Nat.le_refl _, fun _ _ => rfl⟩
theorem last_get (s : List (List UInt8)) (s1 : Nat) (h : s.length = s1 + 1) (hl : s1 < s.length) : s[s1] = lastB s := by
  unfold lastB
  rw [List.getLastD_eq_getLast?, List.getLast?_eq_getElem?, h, Nat.add_sub_cancel, List.getElem?_eq_getElem hl]
  rfl
set_option maxRecDepth 100000 in
set_option maxHeartbeats 1000000 in
theorem last_any {w : World} {x y : Value} {g : Nat} {gso : Option Nat} {vo : Value} {row : Nat → Nat} {Bf : Nat → Prop} {S : List (List (List UInt8))} (h : Trk w 87 [x, y] g gso vo row Bf S) (k : Nat) (hk : k < S.length) (hp : 0 < S[k].length) :
    Calls Try.prog 64 #[.pointer (some ⟨g, 0, none⟩), .int .i64 (k : Int)] w fun e w' => ∃ a c, e = .returned (.slice a 64 c) ∧ Bs Bf w a 64 c (lastB S[k]) ∧ ∃ d, w' = w.drewN d := by
  obtain ⟨gs, so, co, ro, rc, rfl, rfl, f1, f2, f3, f4, f5, f6, f7, f8, f9⟩ := h.look hk hp
  obtain ⟨SN, hSN⟩ : ∃ SN, SN = S.length := ⟨_, rfl⟩
  obtain ⟨sl, hsl⟩ : ∃ sl, sl = S[k].length := ⟨_, rfl⟩
  obtain ⟨lk, hlk⟩ : ∃ lk, lk = lastB S[k] := ⟨_, rfl⟩
  obtain ⟨s1, hs1⟩ : ∃ s1, sl = s1 + 1 := ⟨sl - 1, by omega⟩
  obtain ⟨a, c, hc, hb⟩ := f9 s1 (by omega)
  rw [last_get _ s1 (by omega) (by omega), ← hlk] at hb
  rw [← hlk]
  rw [← hSN] at f6 f1
  rw [← hsl] at f7 f2
  have hk2 : (k : Int) < (SN : Int) := by omega
  have hco : SN ≤ co := f1.1
  have hrc : sl ≤ rc := f2.1
  have hw : IntKind.i64.wrap ((sl : Int) - 1) = (s1 : Int) := by rw [i64_id _ (by omega) (by omega)]; omega
  have hs3 : s1 < sl := by omega
  have hs4 : (s1 : Int) < (sl : Int) := by omega
  have HB := Lib.hid hb
  clear f1 f2 f3 f4 f5 f8 f9 hSN hsl hs1 hb hlk hk hp h
  go_enter Try.func64, Try.ntmps64
  go_wp2
  go_quiet (fail)
  go_wp2
  go_ret
  exact ⟨a, c, rfl, HB.out, _, rfl⟩
/-- bytes that are new -/
def FreshB (w : World) (l : List UInt8) (v : Value) (w' : World) : Prop := ∃ a c, v = .slice a 64 c ∧ Bs (fun b => w.heap.size ≤ b) w' a 64 c l ∧ Below w.heap.size w w'
set_option maxRecDepth 100000 in
set_option maxHeartbeats 1000000 in
theorem rread_any {w : World} {g : Nat} {gso : Option Nat} {vo : Value} {row : Nat → Nat} {Bf : Nat → Prop} {d : DM} (h : Trk w 87 (refX d) g gso vo row Bf d.S) (k : Nat) (hk : k < d.S.length) (hp : d.S[k] ≠ []) (h64 : ∀ b ∈ d.S[k], b.length = 64) (hon : d.on = true) :
    Calls Try.prog 47 #[.pointer (some ⟨g, 0, none⟩), .int .i64 (k : Int)] w fun e w' => ∃ v, e = .returned (.tuple #[v, .int .i64 0]) ∧ FreshB w (lastB d.S[k]) v w' := by
  have hlast := lastB_mem hp
  have hl := h64 _ hlast
  obtain ⟨gs, so, co, rfl, rfl, e1, e2⟩ := h.vo_at (by omega)
  obtain ⟨g1, c0, c1, c2, f0⟩ := h.cells3
  rw [hon] at c1
  obtain ⟨SN, hSN⟩ : ∃ SN, d.S.length = SN := ⟨_, rfl⟩
  obtain ⟨lk, hlk⟩ : ∃ lk, lk = lastB d.S[k] := ⟨_, rfl⟩
  have HL : Hid (∀ wz, Kept (fun _ => False) w wz → Calls Try.prog 64 #[.pointer (some ⟨g, 0, none⟩), .int .i64 (k : Int)] wz fun e w' => ∃ a c, e = .returned (.slice a 64 c) ∧ Bs Bf wz a 64 c lk ∧ ∃ d, w' = wz.drewN d) := Lib.hid (fun wz hz => by
    rw [hlk]
    exact last_any (h.kept hz (fun _ _ h => h)) k hk (List.length_pos_iff.2 hp))
  rw [← hlk] at hl ⊢
  rw [hSN] at c0 e1
  have hk2 : (k : Int) < (SN : Int) := by omega
  have hk3 : (0 : Int) ≤ (k : Int) := by omega
  have Hl := Lib.hid hl
  have HTK : Hid (lk.take 64 = lk) := Lib.hid (List.take_of_length_le (by omega))
  have hlt := h.blk_lt
  clear h hk hp h64 hlast hon hlk hl f0 c2 hlt hSN
  go_enter Try.func47, Try.ntmps47
  go_wp2_with (first
    | (go_at_call 64; refine (HL.out w (Kept.refl _ _)).mono ?_; rintro e w2 ⟨a, c, rfl, hb, dd, rfl⟩; have HB := Lib.hid (hb.kept (kept_drewN (fun _ => False) w dd) (fun _ _ _ h => h)); clear hb HL)
    | (go_at_call 33; refine (few_any _ a 64 c 64 lk _ HB.out (by omega)).mono ?_; rintro e w3 ⟨v, rfl, hm⟩; rw [HTK.out] at hm; obtain ⟨a4, c4, rfl, hb4⟩ := hm.bs; obtain ⟨_, _, _, hbl⟩ := hm; rw [Hl.out] at hb4; rw [Hl.out]; have HB4 := Lib.hid hb4; have HBL := Lib.hid ((below_drewN _ w dd (Nat.le_refl _)).trans hbl); clear hb4 hbl))
  go_ret2
  exact ⟨_, rfl, a4, c4, rfl, HB4.out, HBL.out⟩
theorem rread_off {w : World} {g : Nat} {gso : Option Nat} {vo : Value} {row : Nat → Nat} {Bf : Nat → Prop} {d : DM} (h : Trk w 87 (refX d) g gso vo row Bf d.S) (k : Int) (hk : hasB d k = true) (hon : d.on = false) :
    Calls Try.prog 47 #[.pointer (some ⟨g, 0, none⟩), .int .i64 k] w fun e w' => e = .returned (.tuple #[.slice none 0 0, .int .i64 10]) ∧ w = w' := by
  unfold hasB at hk
  have hk := of_decide_eq_true hk
  obtain ⟨gs, so, co, rfl, rfl, e1, e2⟩ := h.vo_at (by omega)
  obtain ⟨g1, c0, c1, c2, f0⟩ := h.cells3
  rw [hon] at c1
  obtain ⟨SN, hSN⟩ : ∃ SN, d.S.length = SN := ⟨_, rfl⟩
  rw [hSN] at c0 e1 hk
  obtain ⟨hk1, hk2⟩ := hk
  clear h hon f0 c2 hSN
  go_enter Try.func47, Try.ntmps47
  go_wp2
  go_ret2
  exact ⟨rfl, rfl⟩
theorem rread_no {w : World} {g : Nat} {gso : Option Nat} {vo : Value} {row : Nat → Nat} {Bf : Nat → Prop} {d : DM} (h : Trk w 87 (refX d) g gso vo row Bf d.S) (k : Int) (hk : hasB d k = false) (hp : 0 < d.S.length) :
    Calls Try.prog 47 #[.pointer (some ⟨g, 0, none⟩), .int .i64 k] w fun e w' => e = .returned (.tuple #[.slice none 0 0, .int .i64 5]) ∧ w = w' := by
  unfold hasB at hk
  have hk := of_decide_eq_false hk
  obtain ⟨gs, so, co, rfl, rfl, e1, e2⟩ := h.vo_at hp
  obtain ⟨g1, c0, c1, c2, f0⟩ := h.cells3
  obtain ⟨SN, hSN⟩ : ∃ SN, d.S.length = SN := ⟨_, rfl⟩
  rw [hSN] at c0 e1 hk
  by_cases hk1 : k < 0
  · clear h f0 c2 hSN hk c1
    go_enter Try.func47, Try.ntmps47
    go_wp2
    go_ret2
    exact ⟨rfl, rfl⟩
  · have hk2 : (SN : Int) ≤ k := by omega
    have hk3 : 0 ≤ k := by omega
    clear h f0 c2 hSN hk c1
    go_enter Try.func47, Try.ntmps47
    go_wp2
    go_ret2
    exact ⟨rfl, rfl⟩
end Go.Proofs.Ytbnodhcgdgcebaa

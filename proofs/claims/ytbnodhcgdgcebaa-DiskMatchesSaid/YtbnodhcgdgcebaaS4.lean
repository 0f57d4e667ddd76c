/-
  The disk's Read.
-/
import Derived.Test.YtbnodhcgdgcebaaS3
import Derived.Laws.CopyOwn
namespace Go.Proofs.Ytbnodhcgdgcebaa
open Go.RowKit
set_option linter.unusedSimpArgs false
set_option linter.unusedVariables false
theorem size64v {l : List UInt8} (h : l.length = 64) : (Try.prog.info? 94).map (·.size) = some (vals l).length := by rw [vals_len, h]; exact size64
theorem size64a {l : List UInt8} (h : l.length = 64) : (Try.prog.info? 94).map (·.size) = some (vals l).toArray.size := by rw [List.size_toArray, vals_len, h]; exact size64
theorem one64 (l : List UInt8) : (vals l).toArray.all (·.oneCell') = true := Array.all_eq_true_iff_forall_mem.2 (fun v hv => vals_one l v (by simpa using hv))
theorem run_alloc94 (W : World) : (Instr.alloc 94 true (.tuple #[])).run Try.prog W = .ok (.pointer (some ⟨W.heap.size, 0, none⟩)) (W.alloc (.cells Z64 94)) := by kernel_rfl
theorem wpList_alloc_z {P : Program} {ops : Array Oper} {rest : List Oper} {o : Oper} {a : Act} {w : World} {Q : Exit → Act → World → Prop} (hgd : o.guard = none) (ty : TypeId) (ho : o.op = .alloc ty) (cs : Array Value) (t : TypeId)
    (hr : ∀ W : World, (Instr.alloc ty true (.tuple #[])).run P W = .ok (.pointer (some ⟨W.heap.size, 0, none⟩)) (W.alloc (.cells cs t)))
    (h : wpList P ops Q rest (a.put o.dst (.pointer (some ⟨w.heap.size, 0, none⟩))) (w.alloc (.cells cs t))) : wpList P ops Q (o :: rest) a w := by
  refine wpList_plain hgd fun K hK => ?_
  unfold Oper.wp execOp
  simp only [ho, hr, Sem.run_bind, Sem.run_pure, Result.andThen_ok]
  exact hK _ _ h
theorem Own.secs {w : World} {gk : Nat} {v : Value} {n : Nat} {l : List (List UInt8)} (h : Own w 94 64 (some gk) v n (scells l)) (h64 : ∀ b ∈ l, b.length = 64) (hn : l.length = n) :
    ∃ c, v = .slice (some ⟨gk, 0, none⟩) n c ∧ n ≤ c ∧ c ≤ 9223372036854775807 ∧ ∀ (i : Nat) (hi : i < l.length), w.rangeAt gk (i * 64) (vals l[i]) := by
  obtain ⟨h1, h2⟩ := h
  rcases h2 with ⟨h0, _⟩ | ⟨g', cap, cur, hg', hv, hh, hnc, hc, hs, ht⟩
  · cases h0
  · cases hg'
    refine ⟨cap, hv, hnc, hc, fun i hi j u hu => ?_⟩
    rw [cell_of_row w gk _ cur _ _ hh]
    have hj : j < 64 := by have := (List.getElem?_eq_some_iff.1 hu).1; rwa [vals_len, h64 _ (List.getElem_mem hi)] at this
    have e := scells_get h64 i j hi hj
    rw [hu, ← ht, List.getElem?_take] at e
    split at e
    · simpa using e
    · cases e
theorem Dk.durAt {w : World} {g gd gm : Nat} {row : Nat → Option Nat} {N : Nat} {d : DM} (h : Dk w g gd gm row N d) (k : Nat) (hk : k < d.S.length) : w.rangeAt gd (k * 64) (vals (dur d.S[k])) ∧ (dur d.S[k]).length = 64 := by
  obtain ⟨cap, cur, _, h2, _, _, _, h6⟩ := h.self
  have h64 : ∀ b ∈ d.S.map dur, b.length = 64 := by
    intro b hb
    obtain ⟨s, hs, rfl⟩ := List.mem_map.1 hb
    obtain ⟨h1, _, h3⟩ := h.ok.2.2.2 s hs
    exact h3 _ (dur_mem h1)
  refine ⟨fun j u hu => ?_, h64 _ (List.mem_map.2 ⟨_, List.getElem_mem hk, rfl⟩)⟩
  rw [cell_of_row w gd _ cur _ _ h2]
  have hj : j < 64 := by have := (List.getElem?_eq_some_iff.1 hu).1; rwa [vals_len, h64 _ (List.mem_map.2 ⟨_, List.getElem_mem hk, rfl⟩)] at this
  have e := scells_get h64 k j (by simpa using hk) hj
  rw [List.getElem_map, hu, ← h6, List.getElem?_take] at e
  split at e
  · simpa using e
  · cases e
section
variable {w : World} {g gd gm : Nat} {row : Nat → Option Nat} {N : Nat} {d : DM}
theorem read_no (h : Dk w g gd gm row N d) (k : Int) (hk : hasB d k = false) :
    Calls Try.prog 21 #[.pointer (some ⟨g, 0, none⟩), .int .i64 k] w fun e w' => e = .returned (.tuple #[.slice none 0 0, .int .i64 5]) ∧ w = w' := by
  have hC := has_dk h k
  rw [hk] at hC
  have HC := Lib.hid hC
  clear h hC hk
  go_enter Try.func21, Try.ntmps21
  go_wp2_with (go_at_call 52; refine HC.out.mono ?_; rintro e w1 ⟨rfl, rfl⟩)
  go_ret2
  exact ⟨rfl, rfl⟩
theorem read_off (h : Dk w g gd gm row N d) (k : Int) (hk : hasB d k = true) (ho : d.on = false) :
    Calls Try.prog 21 #[.pointer (some ⟨g, 0, none⟩), .int .i64 k] w fun e w' => e = .returned (.tuple #[.slice none 0 0, .int .i64 10]) ∧ w = w' := by
  have hC := has_dk h k
  rw [hk] at hC
  have HC := Lib.hid hC
  obtain ⟨cap, h1, h2, c0, c1, c2, c3, f0⟩ := h.facts
  rw [ho] at c2
  clear h hC hk ho
  go_enter Try.func21, Try.ntmps21
  go_wp2_with (go_at_call 52; refine HC.out.mono ?_; rintro e w1 ⟨rfl, rfl⟩)
  go_ret2
  exact ⟨rfl, rfl⟩
/-- new bytes -/
def NewB (w : World) (l : List UInt8) (v : Value) (w' : World) : Prop := ∃ g, v = .slice (some ⟨g, 0, none⟩) l.length l.length ∧ w.heap.size ≤ g ∧ Bs (fun b => b = g) w' (some ⟨g, 0, none⟩) l.length l.length l ∧ Below w.heap.size w w'
theorem bs_block {w : World} {g : Nat} {l : List UInt8} {t : TypeId} (h : w.heap[g]? = some (.cells (vals l).toArray t (0, 0))) (hl : l.length ≤ maxLen) : Bs (fun b => b = g) w (some ⟨g, 0, none⟩) l.length l.length l := by
  refine ⟨rfl, by rw [vals_len]; omega, Nat.le_refl _, hl, (fun h => by cases h), fun hp => ⟨g, 0, rfl, rfl, fun j v hv => ?_⟩⟩
  rw [Nat.zero_add, cell_of_row w g j _ _ _ h]
  simpa using hv
theorem tail_last (s : List (List UInt8)) (h : s.tail ≠ []) (h2 : s.tail.length - 1 < s.tail.length) : s.tail[s.tail.length - 1] = lastB s := by
  rw [← List.getLast_eq_getElem h]
  unfold lastB
  match s, h with
  | x :: y :: r, _ => simp [List.getLastD_eq_getLast?, List.getLast?_eq_some_getLast]
set_option maxRecDepth 100000 in
set_option maxHeartbeats 1000000 in
theorem read_ok (h : Dk w g gd gm row N d) (k : Nat) (hk : k < d.S.length) (ho : d.on = true) :
    Calls Try.prog 21 #[.pointer (some ⟨g, 0, none⟩), .int .i64 (k : Int)] w fun e w' => ∃ v, e = .returned (.tuple #[v, .int .i64 0]) ∧ NewB w (lastB d.S[k]) v w' := by
  have hC := has_dk h (k : Int)
  rw [show hasB d (k : Int) = true by unfold hasB; rw [decide_eq_true]; omega] at hC
  have HC := Lib.hid hC
  obtain ⟨cap, h1, h2, c0, c1, c2, c3, f0⟩ := h.facts
  rw [ho] at c2
  obtain ⟨hd, hd64⟩ := h.durAt k hk
  have Hd := Lib.hid hd
  have Hd64 := Lib.hid hd64
  obtain ⟨hne, hsl, hs64⟩ := h.ok.2.2.2 _ (List.getElem_mem hk)
  have hn4 := h.ok.2.1
  obtain ⟨M, f, hm, hf, hr⟩ := h.map
  have hr := hr k hk
  have Hm := Lib.hid hm
  generalize d.S[k] = s at *
  have hlt := h.lt
  have hgm : gm < w.heap.size := hlt gm (.inr (.inr (.inl rfl)))
  have hg : g < w.heap.size := hlt g (.inl rfl)
  -- the world behind the copy of the durable bytes
  obtain ⟨w1, hw1⟩ : ∃ w1, w1 = (w.alloc (.cells Z64 94)).setRow w.heap.size (vals (dur s)).toArray := ⟨_, rfl⟩
  have hb1 : Below w.heap.size w w1 := by rw [hw1]; exact below_setRow ((Below.refl _ _).alloc (Nat.le_refl _) _) (Nat.le_refl _) _
  have hn1 : w1.heap[w.heap.size]? = some (.cells (vals (dur s)).toArray 94 (0, 0)) := by rw [hw1]; exact setRow_heap _ _ _ _ _ _ (heap_new rfl)
  have b0 := (hb1.cell (p := ⟨g, 1, none⟩) hg).trans c1
  have wfk : (Lit.int .i64 (k : Int)).wf = true := by exact WalkArith.wf_i64 (by omega)
  have hz : (zeroValue 89).run Try.prog w1 = .ok (.slice none 0 0) w1 := by kernel_rfl
  have hlk := (hm.kept (Kept.of_below (fun _ => False) hb1) (fun h => h)).look (P := Try.prog) (t := 90) (kt := 3) (et := 89) Try.underlying90 Try.underlying3 hz (k : Int) wfk false
  have Hb1 := Lib.hid hb1
  have Hn1 := Lib.hid hn1
  have Hw1 := Lib.hid hw1
  rcases hr with ⟨hp, hfk, hrow⟩ | ⟨hp, gk, v, hrow, hfk, hown⟩
  · rw [hfk] at hlk
    simp only [Bool.false_eq_true, if_false] at hlk
    have HL : Hid (lastB s = dur s) := Lib.hid (by
      match s, hp with
      | [x], _ => rfl
      | [], _ => exact absurd rfl hne)
    clear h hC ho hd hd64 hne hsl hs64 hm hf hlt hb1 hn1 hw1 hp hfk hrow hz wfk
    go_enter Try.func21, Try.ntmps21
    go_upto_region 6 with (first
      | (go_at_call 52; refine HC.out.mono ?_; rintro e w1 ⟨rfl, rfl⟩)
      | (refine wpList_alloc_z rfl 94 rfl Z64 94 run_alloc94 ?_)
      | (refine wpList_load_mid rfl 94 (.tmp 22) rfl gd (k * 64) rfl _ _ Hd.out Try.underlying94 rfl (size64v Hd64.out) ?_)
      | (refine wpList_store_row rfl 94 (.tmp 6) (.tmp 23) rfl w.heap.size _ rfl rfl 94 Z64 (heap_new rfl) (size64a Hd64.out) (by rw [cells64, List.size_toArray, vals_len, Hd64.out]) (one64 _) ?_))
    rw [← Hw1.out]
    go_wp2_with fail
    go_ret2
    refine ⟨_, rfl, w.heap.size, ?_, Nat.le_refl _, ?_, Hb1.out⟩
    · rw [HL.out, Hd64.out]; rfl
    · rw [HL.out]; exact bs_block Hn1.out (by rw [Hd64.out]; unfold maxLen; omega)
  · rw [hfk] at hlk
    simp only [Bool.false_eq_true, if_false] at hlk
    have hpl : 0 < s.tail.length := List.length_pos_iff.2 hp
    have ht64 : ∀ b ∈ s.tail, b.length = 64 := fun b hb => hs64 b (List.mem_of_mem_tail hb)
    obtain ⟨c, rfl, hc1, hc2, hat⟩ := (hown.kept (Kept.of_below (fun _ => False) hb1) (fun _ _ h => h)).secs ht64 rfl
    have hr2 := hat (s.tail.length - 1) (by omega)
    have hlast : s.tail[s.tail.length - 1] = lastB s := tail_last s hp (by omega)
    have hl64 : (lastB s).length = 64 := hs64 _ (lastB_mem hne)
    rw [hlast] at hr2
    have Hr2 := Lib.hid hr2
    have Hl64 := Lib.hid hl64
    have hb2 : Below w.heap.size w (w1.setRow w.heap.size (vals (lastB s)).toArray) := below_setRow hb1 (Nat.le_refl _) _
    have hn2 : (w1.setRow w.heap.size (vals (lastB s)).toArray).heap[w.heap.size]? = some (.cells (vals (lastB s)).toArray 94 (0, 0)) := setRow_heap _ _ _ _ _ _ hn1
    have Hb2 := Lib.hid hb2
    have Hn2 := Lib.hid hn2
    have hml : s.tail.length ≤ 9223372036854775807 := by omega
    have hpos : (0 : Int) < (s.tail.length : Int) := by omega
    clear h hC ho hd hd64 hne hsl hs64 hm hf hlt hb1 hn1 hw1 hfk hrow hz wfk hr hown hr2 hl64 hlast hb2 hn2 hat ht64 hp
    generalize s.tail.length = m at *
    go_enter Try.func21, Try.ntmps21
    go_upto_region 6 with (first
      | (go_at_call 52; refine HC.out.mono ?_; rintro e w1 ⟨rfl, rfl⟩)
      | (refine wpList_alloc_z rfl 94 rfl Z64 94 run_alloc94 ?_)
      | (refine wpList_load_mid rfl 94 (.tmp 22) rfl gd (k * 64) rfl _ _ Hd.out Try.underlying94 rfl (size64v Hd64.out) ?_)
      | (refine wpList_store_row rfl 94 (.tmp 6) (.tmp 23) rfl w.heap.size _ rfl rfl 94 Z64 (heap_new rfl) (size64a Hd64.out) (by rw [cells64, List.size_toArray, vals_len, Hd64.out]) (one64 _) ?_))
    rw [← Hw1.out]
    go_wp2_with (first
      | (refine wpList_load_mid rfl 94 (.tmp 37) rfl gk ((m - 1) * 64) rfl _ _ Hr2.out Try.underlying94 rfl (size64v Hl64.out) ?_)
      | (refine wpList_store_row rfl 94 (.tmp 6) (.tmp 38) rfl w.heap.size _ rfl rfl 94 _ Hn1.out (size64a Hl64.out) (by rw [List.size_toArray, List.size_toArray, vals_len, vals_len, Hd64.out, Hl64.out]) (one64 _) ?_))
    go_ret2
    refine ⟨_, rfl, w.heap.size, ?_, Nat.le_refl _, ?_, Hb2.out⟩
    · rw [Hl64.out]; rfl
    · exact bs_block Hn2.out (by rw [Hl64.out]; unfold maxLen; omega)
end
end Go.Proofs.Ytbnodhcgdgcebaa

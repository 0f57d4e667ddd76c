/-
  The disk's Clone.
-/
import Derived.Test.YtbnodhcgdgcebaaT1
import Derived.Lib.AppendZerosOnto
namespace Go.Proofs.Ytbnodhcgdgcebaa
open Go.RowKit
set_option linter.unusedSimpArgs false
set_option linter.unusedVariables false
def Dcl7 : List (Option Tmp) := [some 32, some 33, some 34, some 35, some 36, none]
def Lcl7 : List (List Nat) := [[], [0], [], [], [3], [1, 2, 4]]
/-- m[k] = new writes -/
theorem Dk.setTail {w p : World} {g gd gm : Nat} {row : Nat → Option Nat} {N : Nat} {d : DM} (h : Dk w g gd gm row N d) {k : Nat} (hk : k < d.S.length) {T : List (List UInt8)} (hT0 : T ≠ []) (hT64 : ∀ b ∈ T, b.length = 64) (hTN : T.length ≤ N) {k' : Nat} {v' : Value}
    (hK : Kept (fun j => row k = some j) w p) (ho : Own p 94 64 (some k') v' T.length (scells T)) (hf : row k = some k' ∨ w.heap.size ≤ k') :
    ∃ p2, (Instr.mapUpdate 90 (.map (some gm)) (.int .i64 (k : Int)) v').run Try.prog p = .ok () p2 ∧ Dk p2 g gd gm (rowSet row k (some k')) N ⟨d.S.set k (dur d.S[k] :: T), d.on, d.fuse⟩ ∧ Kept (fun j => row k = some j ∨ j = gm) w p2 ∧ p2.heap.size = p.heap.size := by
  obtain ⟨n1, n2, n3, n4⟩ := h.g_ne
  have hlt := h.lt
  obtain ⟨hok, ⟨cap, cur, h1, h2, h3, h4, h5, h6⟩, ⟨M, f, hm, hfd, hr⟩, hdom, hinj, hap⟩ := h
  have hn4 := hok.2.1
  have hgm : ¬ row k = some gm := fun e => (n4 k gm e).2 rfl
  have hgm2 := hlt gm (.inr (.inr (.inl rfl)))
  obtain ⟨p2, hrun, hm2, hk2, hs2⟩ := (hm.kept hK hgm).put (P := Try.prog) Try.underlying90 Try.underlying3 (k : Int) (WalkArith.wf_i64 (by omega)) v'
  have hK2 : Kept (fun j => row k = some j ∨ j = gm) w p2 := (hK.mono fun j _ hj => .inl hj).trans hk2 (fun j _ hj => .inr hj)
  have hkgm : k' ≠ gm := by
    rcases hf with e | e
    · exact (n4 k k' e).2
    · omega
  have hkg : k' ≠ g ∧ k' ≠ gd := by
    rcases hf with e | e
    · exact ⟨(n4 k k' e).1, hap k k' e⟩
    · have := hlt g (.inl rfl)
      have := hlt gd (.inr (.inl rfl))
      omega
  have hlen : (d.S.set k (dur d.S[k] :: T)).length = d.S.length := by simp
  have hold : ∀ i j, row i = some j → i ≠ k → j ≠ k' := by
    intro i j hi hne e
    subst e
    rcases hf with e2 | e2
    · exact hne (hinj i k j hi e2)
    · have := hlt j (.inr (.inr (.inr ⟨i, hi⟩)))
      omega
  have hdm : (d.S.set k (dur d.S[k] :: T)).map dur = d.S.map dur := by
    apply List.ext_getElem (by simp)
    intro i hi hi2
    rw [List.getElem_map, List.getElem_map, List.getElem_set]
    split
    · rename_i e
      subst e
      rfl
    · rfl
  refine ⟨p2, hrun, ⟨?_, ⟨cap, cur, ?_, ?_, ?_, h4, h5, ?_⟩, ⟨_, _, hm2, ?_, ?_⟩, ?_, ?_, ?_⟩, hK2, hs2⟩
  · refine ⟨by simpa using hok.1, by simpa using hok.2.1, hok.2.2.1, fun s hs => ?_⟩
    simp only at hs
    rcases List.mem_or_eq_of_mem_set hs with hs | rfl
    · exact hok.2.2.2 s hs
    · obtain ⟨e1, _, e3⟩ := hok.2.2.2 _ (List.getElem_mem hk)
      refine ⟨by simp, by rw [List.length_cons]; omega, fun x hx => ?_⟩
      rcases List.mem_cons.1 hx with rfl | hx
      · exact e3 _ (dur_mem e1)
      · exact hT64 x hx
  · rw [hlen]
    exact hK2.heap h1 (fun e => by rcases e with e | e; exact (n4 k g e).1 rfl; exact n2 e)
  · exact hK2.heap h2 (fun e => by rcases e with e | e; exact hap k gd e rfl; exact n3 e)
  · rw [hlen]; exact h3
  · rw [hlen, h6, hdm]
  · intro j hj
    rw [hlen]
    by_cases e : j = (k : Int)
    · subst e; omega
    · rw [fput_other _ _ e] at hj; exact hfd j hj
  · intro j hj
    have hj' : j < d.S.length := by rw [hlen] at hj; exact hj
    by_cases e : j = k
    · subst e
      refine .inr ?_
      have et : ((d.S.set j (dur d.S[j] :: T))[j]).tail = T := by rw [List.getElem_set_self]; rfl
      simp only [et]
      refine ⟨hT0, k', v', rowSet_same _ _ _, fput_same _ _ _, ?_⟩
      exact ho.kept hk2 (fun j hj e => hkgm (by cases hj; exact e))
    · have et : (d.S.set k (dur d.S[k] :: T))[j] = d.S[j] := List.getElem_set_ne (fun e2 => e e2.symm) _
      simp only [et, rowSet_other _ _ e, fput_other f v' (show (j : Int) ≠ (k : Int) by omega)]
      rcases hr j hj' with h0 | ⟨h0, gk, v, hg, hv, hoo⟩
      · exact .inl h0
      · refine .inr ⟨h0, gk, v, hg, hv, hoo.kept hK2 (fun j2 hj2 e2 => ?_)⟩
        cases hj2
        rcases e2 with e2 | e2
        · exact e (hinj j k gk hg e2)
        · exact (n4 j gk hg).2 e2
  · intro i j hi
    rw [hlen]
    by_cases e : i = k
    · omega
    · rw [rowSet_other _ _ e] at hi; exact hdom i j hi
  · intro i j g' hi hj
    by_cases e : i = k
    · by_cases e2 : j = k
      · omega
      · subst e
        rw [rowSet_same] at hi
        rw [rowSet_other _ _ e2] at hj
        cases hi
        exact absurd rfl (hold j _ hj e2)
    · rw [rowSet_other _ _ e] at hi
      by_cases e2 : j = k
      · subst e2
        rw [rowSet_same] at hj
        cases hj
        exact absurd rfl (hold i _ hi e)
      · rw [rowSet_other _ _ e2] at hj
        exact hinj i j g' hi hj
  · intro i g' hi
    by_cases e : i = k
    · subst e
      rw [rowSet_same] at hi
      cases hi
      exact hkg.2
    · rw [rowSet_other _ _ e] at hi
      exact hap i g' hi

theorem run_build0 (W : World) : (Instr.buildSlice 89 0 #[]).run Try.prog W = .ok (.slice (some ⟨W.heap.size, 0, none⟩) 0 0) (W.alloc (.cells #[] 94)) := by kernel_rfl
theorem run_makeMap90 (n : Int) (W : World) : (Instr.makeMap 90 (some (.int .i64 n))).run Try.prog W = .ok (.map (some W.heap.size)) (W.alloc (.map #[] 0)) := by kernel_rfl
set_option maxRecDepth 100000 in
set_option maxHeartbeats 400000 in
theorem clone_sec (w : World) (b n c : Nat) (l : List (List UInt8)) (hn : l.length = n) (hp : 0 < n ∧ ∀ x ∈ l, x.length = 64) (hnc : n ≤ c ∧ c ≤ maxLen) (hnN : n ≤ 1000000) (hr : w.rangeAt b 0 (scells l)) :
    Calls Try.prog 55 #[.slice (some ⟨b, 0, none⟩) n c] w fun e w' => ∃ k cp, e = .returned (.slice (some ⟨k, 0, none⟩) n cp) ∧ Own w' 94 64 (some k) (.slice (some ⟨k, 0, none⟩) n cp) n (scells l) ∧ w.heap.size ≤ k ∧ Below w.heap.size w w' := by
  obtain ⟨i0, hi, hz0, hz1, hz2⟩ := info_parts info94
  have hB : Sl (fun _ => True) w (some ⟨b, 0, none⟩) n c (scells l) 64 := ⟨by rw [scells_len hp.2, hn], hnc.1, hnc.2, (fun h => by cases h), fun _ => ⟨b, 0, trivial, rfl, hr⟩⟩
  have HB := Lib.hid hB
  have HP := Lib.hid hp.1
  have ke := fun (w : World) => Lib.run_eql_slice_nil (P := Try.prog) w 89 94 (some ⟨b, 0, none⟩) n c 0 0 Try.underlying89
  have hb0 := run_build0
  clear hB hr hp hn
  go_enter Try.func55, Try.ntmps55
  go_wp2_with (at_builtin; refine wpList_append_any _ rfl (.tmp 5) (.tmp 6) 89 89 rfl 94 i0 (.agg Z64) 64 64 Try.underlying89 hi hz0 hz1 hz2 cells64 (some w.heap.size) _ 0 [] rfl (Own.made w 94 64 #[] 0 (Nat.zero_le _) rfl) n (scells l) ((HB.out.kept (by decide) ((Kept.refl (fun _ => False) w).alloc _) (fun _ _ _ h => h)).src Try.underlying89 (scells_one _)) (by unfold maxLen; omega) (by omega) ?_)
  intro k' v' w' ho hf hK hn
  obtain ⟨k2, rfl⟩ := Option.ne_none_iff_exists'.1 (hn HP.out)
  have ho : Own w' 94 64 (some k2) v' n (scells l) := by first | exact ho | (rw [Nat.zero_add] at ho; exact ho)
  obtain ⟨cp, rfl⟩ : ∃ cp, v' = .slice (some ⟨k2, 0, none⟩) n cp := by
    rcases ho.2 with ⟨h0, _⟩ | ⟨g', cap', cur, hg', hv, _⟩
    · cases h0
    · cases hg'; exact ⟨cap', hv⟩
  have HO : Hid (Own w' 94 64 (some k2) (.slice (some ⟨k2, 0, none⟩) n cp) n (scells l)) := Lib.hid ho
  have HF : Hid (w.heap.size ≤ k2) := Lib.hid (by
    rcases hf k2 rfl with h | h
    · cases h; exact Nat.le_refl _
    · exact Nat.le_trans (by simp) h)
  have HBL : Hid (Below w.heap.size w w') := Lib.hid (((Below.refl w.heap.size w).alloc (Nat.le_refl _) _).trans (hK.below (by simp) (fun j hj h => by cases h; omega)))
  clear ho hf hK hn
  go_wp2
  go_ret
  exact ⟨k2, _, rfl, HO.out, HF.out, HBL.out⟩
theorem clone_list (S : List (List (List UInt8))) (k : Nat) (left : Int → Bool) (s : List (List UInt8)) (hs : ∀ (hk : k < S.length), S[k] = s) :
    (S.mapIdx fun j s => if left (j : Int) then [dur s] else s).set k s = S.mapIdx fun j s => if (left (j : Int) && !decide ((j : Int) = (k : Int))) then [dur s] else s := by
  apply List.ext_getElem (by simp)
  intro j h1 h2
  have hj : j < S.length := by simpa using h2
  rw [List.getElem_set, List.getElem_mapIdx, List.getElem_mapIdx]
  by_cases e : k = j
  · subst e
    rw [if_pos rfl]
    simp [hs hj]
  · rw [if_neg e]
    have : ((j : Int) = (k : Int)) = False := by rw [eq_iff_iff, iff_false]; omega
    simp [this]
section
variable {w : World} {g gd gm : Nat} {row : Nat → Option Nat} {N : Nat} {d : DM}
theorem Dk.fresh {W : World} {gc gdc gmc cap M : Nat} (hok : d.Ok N) (h1 : ∀ s ∈ d.S, s.tail = []) (hg : W.heap[gc]? = some (.cells #[.slice (some ⟨gdc, 0, none⟩) d.S.length cap, .map (some gmc), .bool d.on, .int .i64 (d.fuse : Int)] 92 (0, 0)))
    (ho : Own W 94 64 (some gdc) (.slice (some ⟨gdc, 0, none⟩) d.S.length cap) d.S.length (scells (d.S.map dur))) (hm : Mp W gmc M (fun _ => none)) : Dk W gc gdc gmc (fun _ => none) N d := by
  rcases ho.2 with ⟨h0, _⟩ | ⟨g', cap', cur, hg', hv, hh, hnc, hc, hs, ht⟩
  · cases h0
  · cases hg'
    obtain rfl : cap = cap' := by injection hv
    exact ⟨hok, ⟨cap, cur, hg, hh, hnc, hc, hs, ht⟩, ⟨M, _, hm, fun k h => absurd rfl h, fun j hj => .inl ⟨h1 _ (List.getElem_mem hj), rfl, rfl⟩⟩, fun _ _ h => (by cases h), fun _ _ _ h => (by cases h), fun _ _ h => (by cases h)⟩
theorem run_alloc92 (W : World) : (Instr.alloc 92 true (.tuple #[])).run Try.prog W = .ok (.pointer (some ⟨W.heap.size, 0, none⟩)) (W.alloc (.cells #[.slice none 0 0, .map none, .bool false, .int .i64 0] 92)) := by kernel_rfl
set_option maxRecDepth 100000 in
set_option maxHeartbeats 2000000 in
theorem clone_dk (h : Dk w g gd gm row N d) (hN : N ≤ 100000) :
    Calls Try.prog 37 #[.pointer (some ⟨g, 0, none⟩)] w fun e w' => ∃ gc, e = .returned (.pointer (some ⟨gc, 0, none⟩)) ∧ (∃ gdc gmc rowc, Dk w' gc gdc gmc rowc N d ∧ ∀ j, Blk gc gdc gmc rowc j → w.heap.size ≤ j) ∧ Below w.heap.size w w' := by
  obtain ⟨cap, cur0, s1, s2, s3, s4, s5, s6⟩ := h.self
  obtain ⟨M, f, hm, hfd, hr⟩ := h.map
  have hlt := h.lt
  have hgl := hlt g (.inl rfl)
  have hgdl := hlt gd (.inr (.inl rfl))
  have hgml := hlt gm (.inr (.inr (.inl rfl)))
  have hok := h.ok
  have hd64 : ∀ b ∈ d.S.map dur, b.length = 64 := by
    intro x hx
    obtain ⟨s, hs, rfl⟩ := List.mem_map.1 hx
    obtain ⟨e1, _, e3⟩ := hok.2.2.2 s hs
    exact e3 _ (dur_mem e1)
  obtain ⟨L, hL⟩ : ∃ L, L = d.S.length := ⟨_, rfl⟩
  rw [← hL] at s1
  obtain ⟨w1, hw1⟩ : ∃ w1, w1 = (w.alloc (.cells #[.slice none 0 0, .map none, .bool false, .int .i64 0] 92)).setRow w.heap.size #[.slice (some ⟨gd, 0, none⟩) L cap, .map (some gm), .bool d.on, .int .i64 (d.fuse : Int)] := ⟨_, rfl⟩
  have hb1 : Below w.heap.size w w1 := by rw [hw1]; exact below_setRow ((Below.refl _ _).alloc (Nat.le_refl _) _) (Nat.le_refl _) _
  have hn1 : w1.heap[w.heap.size]? = some (.cells #[.slice (some ⟨gd, 0, none⟩) L cap, .map (some gm), .bool d.on, .int .i64 (d.fuse : Int)] 92 (0, 0)) := by rw [hw1]; exact setRow_heap _ _ _ _ _ _ (heap_new rfl)
  have c0 : w1.cell? ⟨g, 0, none⟩ = some (.slice (some ⟨gd, 0, none⟩) L cap) := (hb1.cell (p := ⟨g, 0, none⟩) hgl).trans (by rw [cell_of_row w g _ _ _ _ s1]; rfl)
  have c1 : w.cell? ⟨g, 1, none⟩ = some (.map (some gm)) := by rw [cell_of_row w g _ _ _ _ s1]; rfl
  have hrd : w1.rangeAt gd 0 (scells (d.S.map dur)) := by
    intro j v hv
    refine (hb1.cell (p := ⟨gd, 0 + j, none⟩) hgdl).trans ?_
    rw [Nat.zero_add, cell_of_row w gd _ _ _ _ s2]
    rw [← s6, List.getElem?_take] at hv
    split at hv
    · simpa using hv
    · cases hv
  have HC := clone_sec w1 gd L cap (d.S.map dur) (by rw [List.length_map, hL]) ⟨by rw [hL]; exact hok.1, hd64⟩ ⟨by rw [hL]; exact s3, s4⟩ (by have := hok.2.1; omega) hrd
  have HC := Lib.hid HC
  have H := Lib.hid h
  have HOK := Lib.hid hok
  have Hw1 := Lib.hid hw1
  have Hb1 := Lib.hid hb1
  have Hn1 := Lib.hid hn1
  have S1 := Lib.hid s1
  have C1 := Lib.hid c1
  have Hm := Lib.hid hm
  have Hrr := Lib.hid hr
  have Hfd := Lib.hid hfd
  have Hgl := Lib.hid hgl
  have Hgml := Lib.hid hgml
  have HL := Lib.hid hL
  have Hr2 : Hid (∀ k j, row k = some j → j < w.heap.size) := Lib.hid (fun k j hj => hlt j (.inr (.inr (.inr ⟨k, hj⟩))))
  clear h hok hlt hgl hgdl hgml hw1 hb1 hn1 hrd s1 s2 s3 s4 s5 s6 hm hr hfd c1 hd64 hL
  go_enter Try.func37, Try.ntmps37
  go_upto_region 2 with (first
    | (refine wpList_load_row rfl 92 (.tmp 7) rfl g rfl 92 _ (0, 0) _ S1.out Try.underlying92 rfl (by kernel_rfl) ?_)
    | (refine wpList_alloc_z rfl 92 rfl _ 92 run_alloc92 ?_)
    | (refine wpList_store_row rfl 92 (.tmp 3) (.tmp 8) rfl w.heap.size _ rfl rfl 92 _ (heap_new rfl) (by kernel_rfl) rfl (by simp [Value.oneCell']) ?_))
  rw [← Hw1.out]
  obtain ⟨gc, hgc⟩ : ∃ gc, gc = w.heap.size := ⟨_, rfl⟩
  rw [← hgc]
  have Hgc := Lib.hid hgc
  have hn1 := Hn1.out
  rw [← hgc] at hn1
  have fz : ∀ i, w1.frozen? ⟨gc, i, none⟩ = false := fun i => frozen_of_row w1 gc i _ _ hn1
  have e0 : w1.cell? ⟨gc, 0, none⟩ = some (.slice (some ⟨gd, 0, none⟩) L cap) := by rw [cell_of_row w1 gc _ _ _ _ hn1]; rfl
  have Hn1b := Lib.hid hn1
  have Hfz := Lib.hid fz
  have He0 := Lib.hid e0
  clear hgc hn1 fz e0 Hn1
  go_upto_region 3 with (go_at_call 55; refine HC.out.mono ?_; rintro e w2 ⟨gdc, vc, rfl, ho, hf, hb⟩; have HO := Lib.hid ho; have HF := Lib.hid hf; have HB := Lib.hid hb; have f2 := (hb.frozen (p := ⟨gc, 0, none⟩) (heap_lt Hn1b.out)).trans (Hfz.out 0); have e2 := (hb.cell (p := ⟨gc, 0, none⟩) (heap_lt Hn1b.out)).trans He0.out; clear ho hf hb)
  obtain ⟨W2, hW2⟩ : ∃ W2, W2 = w2.setCell ⟨gc, 0, none⟩ (.slice (some ⟨gdc, 0, none⟩) L vc) := ⟨_, rfl⟩
  rw [← hW2]
  clear f2 e2
  have hgcw : gc = w.heap.size := Hgc.out
  have hs1 : w.heap.size < w1.heap.size := by rw [← hgcw]; exact heap_lt Hn1b.out
  have hn2 : w2.heap[gc]? = _ := (HB.out.block _ (heap_lt Hn1b.out)).trans Hn1b.out
  have hW2c : W2.heap[gc]? = some (.cells #[.slice (some ⟨gdc, 0, none⟩) L vc, .map (some gm), .bool d.on, .int .i64 (d.fuse : Int)] 92 (0, 0)) := by rw [hW2]; exact heap_setCell_same w2 gc 0 _ _ _ hn2
  have hK2 : Kept (fun _ => False) w W2 := by
    have k1 : Kept (fun j => j = gc) w W2 := by rw [hW2]; exact (((Kept.of_below (fun j => j = gc) Hb1.out).trans (Kept.of_below (fun j => j = gc) HB.out) (fun _ _ h => h)).setCell (p := ⟨gc, 0, none⟩) (fun _ => rfl) _)
    exact ⟨k1.os, k1.tape, k1.output, k1.size, fun j hj _ => k1.block j hj (fun e => by omega)⟩
  have hgdcs : gdc < w2.heap.size := HO.out.lt _ rfl
  have HO2 : Hid (Own W2 94 64 (some gdc) (.slice (some ⟨gdc, 0, none⟩) L vc) L (scells (d.S.map dur))) := Lib.hid (by rw [hW2]; exact HO.out.kept ((Kept.refl (fun j => j = gc) w2).setCell (p := ⟨gc, 0, none⟩) (fun _ => rfl) _) (fun j hj e => by cases hj; have := HF.out; omega))
  obtain ⟨n', _, hlen⟩ := (Hm.out.kept hK2 (fun h => h)).len (P := Try.prog) (t := 90) Try.underlying90 3
  obtain ⟨gmc, hgmc⟩ : ∃ gmc, gmc = W2.heap.size := ⟨_, rfl⟩
  obtain ⟨W2b, hW2b⟩ : ∃ W2b, W2b = W2.alloc (.map #[] 0) := ⟨_, rfl⟩
  have hmk := run_makeMap90 (n' : Int) W2
  rw [← hgmc, ← hW2b] at hmk
  have hW2bc : W2b.heap[gc]? = some (.cells #[.slice (some ⟨gdc, 0, none⟩) L vc, .map (some gm), .bool d.on, .int .i64 (d.fuse : Int)] 92 (0, 0)) := by rw [hW2b]; exact heap_old hW2c
  have i1 := (hK2.cell (p := ⟨g, 1, none⟩) Hgl.out (fun h => h)).trans C1.out
  have fz2 : W2b.frozen? ⟨gc, 1, none⟩ = false := frozen_of_row W2b gc 1 _ _ hW2bc
  have e12 : W2b.cell? ⟨gc, 1, none⟩ = some (.map (some gm)) := by rw [cell_of_row W2b gc _ _ _ _ hW2bc]; rfl
  have HW2b := Lib.hid hW2b
  have Hgmc0 := Lib.hid hgmc
  have HW2bc := Lib.hid hW2bc
  have HW2c := Lib.hid hW2c
  have HK2 := Lib.hid hK2
  have hW2s : w2.heap.size ≤ W2.heap.size := by rw [hW2]; simp [World.setCell]
  have HgdW : Hid (gdc < W2.heap.size ∧ w.heap.size < gdc ∧ gc < W2.heap.size) := Lib.hid ⟨by omega, by have := HF.out; omega, heap_lt hW2c⟩
  have Hs1 := Lib.hid hs1
  clear hW2b hgmc hW2bc hn2 hW2c hK2 hgdcs HO HF HB hW2 hW2s c0 hgcw hs1
  go_upto_region 4 with fail
  have hgcw : gc = w.heap.size := Hgc.out
  have hs1 := Hs1.out
  obtain ⟨W3, hW3⟩ : ∃ W3, W3 = W2b.setCell ⟨gc, 1, none⟩ (.map (some gmc)) := ⟨_, rfl⟩
  rw [← hW3]
  have hgmc := Hgmc0.out
  have hW2b := HW2b.out
  have hK3 : Kept (fun j => j = gc) W2 W3 := by rw [hW3, hW2b]; exact ((Kept.refl (fun j => j = gc) W2).alloc _).setCell (p := ⟨gc, 1, none⟩) (fun _ => rfl) _
  have hW3c : W3.heap[gc]? = some (.cells #[.slice (some ⟨gdc, 0, none⟩) L vc, .map (some gmc), .bool d.on, .int .i64 (d.fuse : Int)] 92 (0, 0)) := by rw [hW3]; exact heap_setCell_same _ gc 1 _ _ _ HW2bc.out
  have hW3m : Mp W3 gmc 0 (fun _ => none) := by
    have := Mp.made W2
    rw [← hgmc] at this
    rw [hW3, hW2b]
    exact this.kept ((Kept.refl (fun j => j = gc) _).setCell (p := ⟨gc, 1, none⟩) (fun _ => rfl) _) (fun e => by have := HgdW.out; omega)
  have hK3w : Kept (fun _ => False) w W3 := by
    have k1 : Kept (fun j => j = gc) w W3 := (HK2.out.mono (fun _ _ h => h.elim)).trans hK3 (fun _ _ h => h)
    exact ⟨k1.os, k1.tape, k1.output, k1.size, fun j hj _ => k1.block j hj (fun e => by omega)⟩
  have hOw3 : Own W3 94 64 (some gdc) (.slice (some ⟨gdc, 0, none⟩) L vc) L (scells (d.S.map dur)) := HO2.out.kept hK3 (fun j hj e => by cases hj; have := HgdW.out; omega)
  obtain ⟨w4, hrg, ⟨cnt0, hRg0⟩, hk4, hs4⟩ := (Hm.out.kept hK3w (fun h => h)).range (P := Try.prog) (t := 90) Try.underlying90
  have d1 := (hK3w.cell (p := ⟨g, 1, none⟩) Hgl.out (fun h => h)).trans C1.out
  obtain ⟨r, hrr⟩ : ∃ r, r = W3.heap.size := ⟨_, rfl⟩
  rw [← hrr] at hrg hRg0
  have hstart : Rg w4 r gm M f (fun k => (f k).isSome) cnt0 ∧ Dk w4 gc gdc gmc (fun _ => none) N ⟨d.S.mapIdx fun k s => if (f (k : Int)).isSome then [dur s] else s, d.on, d.fuse⟩ ∧ (∀ k, (f k).isSome = true → (f k).isSome = true) ∧ (∀ (k j : Nat), (none : Option Nat) = some j → w.heap.size ≤ j ∧ j ≠ r) ∧ Kept (fun _ => False) w w4 := by
    refine ⟨hRg0, ?_, fun _ h => h, fun _ _ h => (by cases h), hK3w.trans hk4 (fun _ _ h => h)⟩
    have hone : ∀ (k : Nat) (hk : k < d.S.length), (if (f (k : Int)).isSome then [dur d.S[k]] else d.S[k]) = [dur d.S[k]] := by
      intro k hk
      rcases Hrr.out k hk with ⟨e1, e2, _⟩ | ⟨_, _, v, _, e2, _⟩
      · rw [e2]
        have hne := (HOK.out.2.2.2 _ (List.getElem_mem hk)).1
        match hS : d.S[k], e1, hne with
        | [x], _, _ => rfl
      · rw [e2]; rfl
    have hlist : (d.S.mapIdx fun k s => if (f (k : Int)).isSome then [dur s] else s) = d.S.map fun s => [dur s] := by
      apply List.ext_getElem (by simp)
      intro j h1 h2
      rw [List.getElem_map, List.getElem_mapIdx]
      exact hone j (by simpa using h1)
    rw [hlist]
    rw [HL.out] at hW3c hOw3
    refine (Dk.fresh (d := ⟨d.S.map fun s => [dur s], d.on, d.fuse⟩) (N := N) (cap := vc) (M := 0) (W := W3) (gc := gc) (gdc := gdc) (gmc := gmc) ⟨by simpa using HOK.out.1, by simpa using HOK.out.2.1, HOK.out.2.2.1, ?_⟩ ?_ (by rw [List.length_map]; exact hW3c) (by rw [List.length_map, List.map_map]; exact hOw3) hW3m).kept hk4 (fun _ _ h => h)
    · intro s hs
      obtain ⟨s', hs', rfl⟩ := List.mem_map.1 hs
      obtain ⟨e1, _, e3⟩ := HOK.out.2.2.2 s' hs'
      exact ⟨by simp, by simp, fun x hx => by rw [List.mem_singleton.1 hx]; exact e3 _ (dur_mem e1)⟩
    · intro s hs
      obtain ⟨s', hs', rfl⟩ := List.mem_map.1 hs
      rfl
  have HS := Lib.hid hstart
  have hgm3 : gmc < W3.heap.size := hW3m.lt
  have Hgmc : Hid (w.heap.size ≤ gmc ∧ w.heap.size ≤ gc ∧ w.heap.size ≤ gdc) := Lib.hid (by have := HgdW.out; have := HK2.out.size; omega)
  have Hr : Hid (w.heap.size ≤ r ∧ gmc < r) := Lib.hid ⟨by rw [hrr]; exact hK3w.size, by omega⟩
  have Hne : Hid (gmc ≠ gm ∧ gmc ≠ r) := Lib.hid ⟨by have := Hgml.out; have := HK2.out.size; omega, by omega⟩
  have Hs4 : Hid (w4.heap.size = r + 1) := Lib.hid (by rw [hrr]; exact hs4)
  clear hstart hW3 hgmc hW2b HW2b Hgmc0 HW2bc hK3 hW3c hW3m hK3w hOw3 hRg0 hk4 hs4 hrr hgm3 hmk hlen i1 fz2 e12 hgcw hs1 HO2 HW2c HK2 HgdW Hfz He0 Hn1b
  go_wp2_with fail
  go_loopw [] (fun wr => ∃ left cnt rowc, Rg wr r gm M f left cnt ∧ Dk wr gc gdc gmc rowc N ⟨d.S.mapIdx fun k s => if left (k : Int) then [dur s] else s, d.on, d.fuse⟩ ∧ (∀ k, left k = true → (f k).isSome = true) ∧ (∀ k j, rowc k = some j → w.heap.size ≤ j ∧ j ≠ r) ∧ Kept (fun _ => False) w wr) (fun wr => wr.rangeLeft gm r)
  case atStart => exact ⟨_, cnt0, _, HS.out⟩
  case round =>
    obtain ⟨left, cnt, rowc, hRg, hDc, hLf, hRc, hKr⟩ := hrel
    have HRg := Lib.hid hRg
    have HDc := Lib.hid hDc
    have HLf := Lib.hid hLf
    have HRc := Lib.hid hRc
    have HKr := Lib.hid hKr
    rcases hRg.next (P := Try.prog) 0 with ⟨hall, hrun⟩ | ⟨k', v, w2, cnt', hlk, hfk, hrun, hRg2, hlt, hk2, hsz2, hen⟩
    · have hfin : (d.S.mapIdx fun k s => if left (k : Int) then [dur s] else s) = d.S := by
        apply List.ext_getElem (by simp)
        intro j h1 h2
        rw [List.getElem_mapIdx, hall]
        rfl
      have HD : Hid (Dk wr gc gdc gmc rowc N d) := Lib.hid (by have := HDc.out; rw [hfin] at this; exact this)
      clear hRg hDc hLf hRc hKr hall hfin
      go_wp2_with fail
      go_ret
      refine ⟨gc, rfl, ⟨gdc, gmc, rowc, HD.out, ?_⟩, HKr.out.below (Nat.le_refl _) (fun _ _ h => h)⟩
      rintro j (rfl | rfl | rfl | ⟨k, hk⟩)
      · exact Hgmc.out.2.1
      · exact Hgmc.out.2.2
      · exact Hgmc.out.1
      · exact (HRc.out k j hk).1
    · obtain ⟨hk0, hkl⟩ := Hfd.out k' (by rw [hfk]; simp)
      obtain ⟨k, rfl⟩ : ∃ k : Nat, k' = (k : Int) := ⟨k'.toNat, by omega⟩
      have hkL0 : k < d.S.length := by omega
      rcases Hrr.out k hkL0 with ⟨_, e0, _⟩ | ⟨htl, gk, v', hrow, e0, hown⟩
      · rw [e0] at hfk; cases hfk
      rw [e0] at hfk
      obtain rfl : v' = v := by cases hfk; rfl
      obtain ⟨hsne, hsN, hs64⟩ := HOK.out.2.2.2 _ (List.getElem_mem hkL0)
      have ht64 : ∀ b ∈ d.S[k].tail, b.length = 64 := fun b hb => hs64 b (List.mem_of_mem_tail hb)
      have hgk := Hr2.out k gk hrow
      obtain ⟨c, rfl, hmc, hc2, _⟩ := hown.secs ht64 rfl
      obtain ⟨tl, htlE⟩ : ∃ tl, tl = d.S[k].tail := ⟨_, rfl⟩
      obtain ⟨m, hmm⟩ : ∃ m, m = tl.length := ⟨_, rfl⟩
      have hKq : Kept (fun j => j = r) w w2 := (hKr.mono (fun _ _ e => e.elim)).trans hk2 (fun _ _ e => e)
      obtain ⟨q, hq⟩ : ∃ q, q = w2 := ⟨_, rfl⟩
      have hsl := (hown.kept hKq (fun j hj e => by cases hj; have := Hr.out; omega)).sl
      obtain ⟨a9, c9, hv9, hsl9⟩ := hsl
      obtain ⟨rfl, rfl⟩ : a9 = some ⟨gk, 0, none⟩ ∧ c = c9 := by injection hv9 with e1 e2 e3; exact ⟨e1.symm, e3⟩
      have hpl : 0 < d.S[k].tail.length := List.length_pos_iff.2 htl
      obtain ⟨b9, o9, _, hab, hrg9⟩ := hsl9.2.2.2.2 hpl
      obtain ⟨rfl, rfl⟩ : gk = b9 ∧ 0 = o9 := by injection hab with e1; injection e1 with e2 e3; exact ⟨e2, e3⟩
      rw [← htlE] at hrg9 hmc hpl hrun hen ht64 htl
      rw [← hmm] at hmc hpl hrun hen
      have Htm : Hid (tl.length = m ∧ (0 < m ∧ ∀ x ∈ tl, x.length = 64) ∧ (m ≤ c ∧ c ≤ maxLen) ∧ m ≤ 1000000) := Lib.hid ⟨hmm.symm, ⟨hpl, ht64⟩, ⟨hmc, hc2⟩, by rw [hmm, htlE, List.length_tail]; omega⟩
      have Htl : Hid (tl ≠ [] ∧ (∀ b ∈ tl, b.length = 64) ∧ tl.length ≤ N) := Lib.hid ⟨htl, ht64, by rw [htlE, List.length_tail]; omega⟩
      have Hgkq : Hid (gk < q.heap.size) := Lib.hid (by rw [hq]; exact Nat.lt_of_lt_of_le hgk hKq.size)
      have PR : Hid (q.rangeAt gk 0 (scells tl)) := Lib.hid (by rw [hq]; exact hrg9)
      have HDq : Hid (Dk q gc gdc gmc rowc N ⟨d.S.mapIdx fun k s => if left (k : Int) then [dur s] else s, d.on, d.fuse⟩) := Lib.hid (by
        rw [hq]
        refine hDc.kept hk2 ?_
        rintro j (rfl | rfl | rfl | ⟨k, hk⟩) e
        · have := hDc.lt j (.inl rfl); exact absurd (hDc.self) (by rintro ⟨_, _, x, _⟩; rw [e] at x; obtain ⟨_, _, _, _, _, _, _, _, _, _, y, _⟩ := hRg; rw [x] at y; cases y)
        · exact absurd (hDc.self) (by rintro ⟨_, _, _, x, _⟩; rw [e] at x; obtain ⟨_, _, _, _, _, _, _, _, _, _, y, _⟩ := hRg; rw [x] at y; cases y)
        · exact Hne.out.2 e
        · exact (HRc.out k j hk).2 e)
      have PC1 : Hid (q.cell? ⟨gc, 1, none⟩ = some (.map (some gmc))) := Lib.hid (by obtain ⟨_, _, _, _, x, _⟩ := HDq.out.facts; exact x)
      have Hgcq : Hid (gc < q.heap.size) := Lib.hid (HDq.out.lt gc (.inl rfl))
      have hkC : k < (d.S.mapIdx fun k s => if left (k : Int) then [dur s] else s).length := by simpa using hkL0
      have hgetC : (d.S.mapIdx fun k s => if left (k : Int) then [dur s] else s)[k] = [dur d.S[k]] := by rw [List.getElem_mapIdx, hlk]; rfl
      have HrN : Hid (rowc k = none) := Lib.hid (by
        obtain ⟨_, f9, _, _, hr9⟩ := hDc.map
        rcases hr9 k hkC with ⟨_, _, x⟩ | ⟨x, _⟩
        · exact x
        · exact absurd (by simp only [hgetC]; rfl) x)
      have Hset : Hid ((d.S.mapIdx fun k s => if left (k : Int) then [dur s] else s).set k (dur ((d.S.mapIdx fun k s => if left (k : Int) then [dur s] else s)[k]) :: tl) = d.S.mapIdx fun j s => if (left (j : Int) && !decide ((j : Int) = (k : Int))) then [dur s] else s) := Lib.hid (by
        rw [hgetC, show dur [dur d.S[k]] :: tl = d.S[k] by
          rw [htlE]
          cases hS : d.S[k] with
          | nil => exact absurd hS hsne
          | cons x rr => rfl]
        exact clone_list d.S k left _ (fun _ => rfl))
      have Hlt := Lib.hid hlt
      have HRg2 : Hid (Rg q r gm M f (fun j => left j && !decide (j = (k : Int))) cnt') := Lib.hid (by rw [hq]; exact hRg2)
      have Hkn : Hid (Kept (fun j => j = r) wr q) := Lib.hid (by rw [hq]; exact hk2)
      have Hrq : Hid (r < q.heap.size ∧ w.heap.size ≤ q.heap.size) := Lib.hid ⟨HRg2.out.lt, by rw [hq]; exact hKq.size⟩
      rw [← hq] at hrun hen
      clear hRg hDc hLf hRc hKr hlk hfk hRg2 hlt hk2 hsz2 hk0 hkl e0 hown hsne hs64 hsN ht64 hgk hc2 hKq hq hrow hsl9 hv9 hab hrg9 hpl hgetC hmm htlE htl
      go_upto_region 7 with fail
      refine Roll.region_f 5 37 Dcl7 Lcl7 [(3, .pointer (some ⟨gc, 0, none⟩)), (4, .int .i64 (k : Int)), (5, .slice (some ⟨gk, 0, none⟩) m c)] (fun p => Kept (fun _ => False) q p) (fun p p2 => Kept (fun _ => False) p p2) [fun vv p => vv = .pointer (some ⟨gc, 1, none⟩), fun vv p => vv = .map (some gmc), fun vv p => vv = .int .i64 (k : Int), fun vv p => vv = .slice (some ⟨gk, 0, none⟩) m c, fun vv p => ∃ k2, Own p 94 64 (some k2) vv m (scells tl) ∧ q.heap.size ≤ k2] (by kernel_rfl) (by kernel_rfl) rfl ⟨rfl, rfl, rfl, trivial⟩ ((Kept.refl _ _).drew) ?_ ?_ ?_
      · exact ⟨fun _ _ _ _ h => h, fun _ _ _ _ h => h, fun _ _ _ _ h => h, fun _ _ _ _ h => h, fun _ _ _ hs h => by obtain ⟨k2, h1, h2⟩ := h; exact ⟨k2, h1.kept hs (fun _ _ h => h), h2⟩, trivial⟩
      · intro b0 hN hlv
        refine ⟨?_, ?_, ?_, ?_, ?_, trivial⟩
        · intro vs p hI hp
          have e3 : (Roll.putD Dcl7 vs [] b0).eval (.tmp 3) = .pointer (some ⟨gc, 0, none⟩) := (Roll.eval_old rfl).trans (hlv.at 0 (3, .pointer (some ⟨gc, 0, none⟩)) rfl)
          clear hp hlv hN
          unfold Roll.Goes
          simp only [Lcl7, List.getD_cons_zero, List.getD_cons_succ]
          generalize Roll.putD Dcl7 vs [] b0 = a1 at *
          refine Roll.goes_val (w' := p) (.pointer (some ⟨gc, 1, none⟩)) rfl ?_ ⟨hI, Kept.refl _ _, rfl⟩
          (have ec : ∀ x, a1.eval (.const x) = x := fun _ => rfl); (have ef : ∀ x, a1.eval (.func x) = .func (.func x) #[] #[] := fun _ => rfl); generalize a1.eval = ρ at *
          skip
          go_simp <;> (intros; first | (exfalso; omega) | rfl)
        · intro vs p hI hp
          have h0 : (vs 0) = .pointer (some ⟨gc, 1, none⟩) := hp 0 (by simp [Lcl7])
          have e32 : (Roll.putD Dcl7 vs [0] b0).eval (.tmp 32) = .pointer (some ⟨gc, 1, none⟩) := (Roll.eval_new 0 rfl (by decide) (by decide) (by omega)).trans h0
          clear hp hlv hN
          unfold Roll.Goes
          simp only [Lcl7, List.getD_cons_zero, List.getD_cons_succ]
          generalize Roll.putD Dcl7 vs [0] b0 = a1 at *
          have c1p : p.cell? ⟨gc, 1, none⟩ = some (.map (some gmc)) := (hI.cell Hgcq.out (fun h => h)).trans PC1.out
          refine Roll.goes_val (w' := p) (.map (some gmc)) rfl ?_ ⟨hI, Kept.refl _ _, rfl⟩
          (have ec : ∀ x, a1.eval (.const x) = x := fun _ => rfl); (have ef : ∀ x, a1.eval (.func x) = .func (.func x) #[] #[] := fun _ => rfl); generalize a1.eval = ρ at *
          clear h0
          go_simp <;> (intros; first | (exfalso; omega) | rfl)
        · intro vs p hI hp
          have e4 : (Roll.putD Dcl7 vs [] b0).eval (.tmp 4) = .int .i64 (k : Int) := (Roll.eval_old rfl).trans (hlv.at 1 (4, .int .i64 (k : Int)) rfl)
          clear hp hlv hN
          unfold Roll.Goes
          simp only [Lcl7, List.getD_cons_zero, List.getD_cons_succ]
          generalize Roll.putD Dcl7 vs [] b0 = a1 at *
          refine Roll.goes_val (w' := p) (.int .i64 (k : Int)) rfl ?_ ⟨hI, Kept.refl _ _, rfl⟩
          (have ec : ∀ x, a1.eval (.const x) = x := fun _ => rfl); (have ef : ∀ x, a1.eval (.func x) = .func (.func x) #[] #[] := fun _ => rfl); generalize a1.eval = ρ at *
          skip
          go_simp <;> (intros; first | (exfalso; omega) | rfl)
        · intro vs p hI hp
          have e5 : (Roll.putD Dcl7 vs [] b0).eval (.tmp 5) = .slice (some ⟨gk, 0, none⟩) m c := (Roll.eval_old rfl).trans (hlv.at 2 (5, .slice (some ⟨gk, 0, none⟩) m c) rfl)
          clear hp hlv hN
          unfold Roll.Goes
          simp only [Lcl7, List.getD_cons_zero, List.getD_cons_succ]
          generalize Roll.putD Dcl7 vs [] b0 = a1 at *
          refine Roll.goes_val (w' := p) (.slice (some ⟨gk, 0, none⟩) m c) rfl ?_ ⟨hI, Kept.refl _ _, rfl⟩
          (have ec : ∀ x, a1.eval (.const x) = x := fun _ => rfl); (have ef : ∀ x, a1.eval (.func x) = .func (.func x) #[] #[] := fun _ => rfl); generalize a1.eval = ρ at *
          skip
          go_simp <;> (intros; first | (exfalso; omega) | rfl)
        · intro vs p hI hp
          have h3 : (vs 3) = .slice (some ⟨gk, 0, none⟩) m c := hp 3 (by simp [Lcl7])
          have e35 : (Roll.putD Dcl7 vs [3] b0).eval (.tmp 35) = .slice (some ⟨gk, 0, none⟩) m c := (Roll.eval_new 3 rfl (by decide) (by decide) (by omega)).trans h3
          clear hp hlv hN
          unfold Roll.Goes
          simp only [Lcl7, List.getD_cons_zero, List.getD_cons_succ]
          generalize Roll.putD Dcl7 vs [3] b0 = a1 at *
          refine Roll.goes_call 55 #[.slice (some ⟨gk, 0, none⟩) m c] p rfl (by have ec : ∀ x, a1.eval (.const x) = x := fun _ => rfl; have ef : ∀ x, a1.eval (.func x) = .func (.func x) #[] #[] := fun _ => rfl; generalize a1.eval = ρ at *; go_simp) ?_
          refine (clone_sec p gk m c tl Htm.out.1 Htm.out.2.1 Htm.out.2.2.1 Htm.out.2.2.2 (fun j v hv => (hI.cell (p := ⟨gk, 0 + j, none⟩) Hgkq.out (fun h => h)).trans (PR.out j v hv))).mono ?_
          rintro y p2 ⟨k2, v2, rfl, ho2, hf2, hb⟩
          have hk2 := Kept.of_below (fun _ => False) hb
          exact ⟨_, rfl, hI.trans hk2 (fun _ _ h => h), hk2, k2, ho2, Nat.le_trans hI.size hf2⟩
      · intro vs p hI hR
        have h0 : (vs 0) = .pointer (some ⟨gc, 1, none⟩) := hR 0 (by omega)
        have h1 : (vs 1) = .map (some gmc) := hR 1 (by omega)
        have h2 : (vs 2) = .int .i64 (k : Int) := hR 2 (by omega)
        have h3 : (vs 3) = .slice (some ⟨gk, 0, none⟩) m c := hR 3 (by omega)
        have h4 : ∃ k2, Own p 94 64 (some k2) (vs 4) m (scells tl) ∧ q.heap.size ≤ k2 := hR 4 (by omega)
        clear hR
        simp only [List.range_succ, List.range_zero, List.nil_append, List.cons_append, Roll.putD, Act.put, List.getD_cons_zero, List.getD_cons_succ, List.setIfInBounds_toArray, List.set_cons_zero, List.set_cons_succ, List.drop_succ_cons, List.drop_zero, Dcl7]
        simp only [h0, h1, h2, h3]
        clear h0 h1 h2 h3
        obtain ⟨k2, hO2, hf2⟩ := h4
        have hKp : Kept (fun j => rowc k = some j) q p := hI.mono (fun _ _ h => h.elim)
        have hO3 : Own p 94 64 (some k2) (vs 4) tl.length (scells tl) := by rw [Htm.out.1]; exact hO2
        obtain ⟨p2, hrun, hd2, hk2, hs2⟩ := HDq.out.setTail hkC (T := tl) Htl.out.1 Htl.out.2.1 Htl.out.2.2 hKp hO3 (.inr hf2)
        generalize vs 4 = v4 at *
        have HI := Lib.hid hI
        have Hd2 := Lib.hid hd2
        have Hk2 := Lib.hid hk2
        have Hf2 := Lib.hid hf2
        clear hI hO2 hO3 hKp hd2 hk2 hs2 hf2
        go_wp2_with fail
        go_roundw
        case rel =>
          have KK : Kept (fun j => j = gmc) q p2 := Hk2.out.mono (fun j _ e => by rcases e with e | e; rw [HrN.out] at e; cases e; exact e)
          refine ⟨_, cnt', rowSet rowc k (some k2), HRg2.out.kept KK (fun e => Hne.out.1 e.symm) (fun e => Hne.out.2 e.symm), ?_, fun j hj => HLf.out j (by simp at hj; exact hj.1), fun i j hij => ?_, (HKr.out.trans (Hkn.out.mono (T := fun j => j = r) (fun _ _ e => e)) (fun j hj e => by have := Hr.out; omega)).trans KK (fun j hj e => by have := Hgmc.out; omega)⟩
          · rw [← Hset.out]; exact Hd2.out
          · by_cases e : i = k
            · rw [e, rowSet_same] at hij
              cases hij
              have h1 := Hrq.out
              have h2 := Hf2.out
              have h3 := Hr.out
              omega
            · rw [rowSet_other _ _ e] at hij; exact HRc.out i j hij
        case measure => 
          have KK : Kept (fun j => j = gmc) q p2 := Hk2.out.mono (fun j _ e => by rcases e with e | e; rw [HrN.out] at e; cases e; exact e)
          rw [(HRg2.out.kept KK (fun e => Hne.out.1 e.symm) (fun e => Hne.out.2 e.symm)).left_eq, HRg.out.left_eq]; exact Hlt.out
end
end Go.Proofs.Ytbnodhcgdgcebaa

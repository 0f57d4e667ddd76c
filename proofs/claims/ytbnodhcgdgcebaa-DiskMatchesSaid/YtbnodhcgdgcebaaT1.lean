/-
  The disk's Flush.
-/
import Derived.Test.YtbnodhcgdgcebaaT0
namespace Go.Proofs.Ytbnodhcgdgcebaa
open Go.RowKit
set_option linter.unusedSimpArgs false
set_option linter.unusedVariables false
def Dfl6 : List (Option Tmp) := [some 20, some 21, some 22, some 23, some 24, some 25, some 26, some 27, some 28, some 29, some 30, some 31, none]
def Lfl6 : List (List Nat) := [[], [0], [1], [2], [], [], [], [6], [7], [5, 8], [9], [3, 4], [11, 10]]
theorem flush_list (S : List (List (List UInt8))) (k : Nat) (left : Int → Bool) (bl : List UInt8) (hl : left (k : Int) = true) (hb : ∀ (hk : k < S.length), lastB S[k] = bl) :
    (S.mapIdx fun j s => if left (j : Int) then dur s else lastB s).set k bl = S.mapIdx fun j s => if (left (j : Int) && !decide ((j : Int) = (k : Int))) then dur s else lastB s := by
  apply List.ext_getElem (by simp)
  intro j h1 h2
  have hj : j < S.length := by simpa using h2
  rw [List.getElem_set, List.getElem_mapIdx, List.getElem_mapIdx]
  by_cases e : k = j
  · subst e
    rw [if_pos rfl]
    simp [hb hj]
  · rw [if_neg e]
    have : ((j : Int) = (k : Int)) = False := by rw [eq_iff_iff, iff_false]; omega
    simp [this]
section
variable {w p : World} {g gd gm : Nat} {row : Nat → Option Nat} {N : Nat} {d : DM}
theorem Dk.flushed (h : Dk w g gd gm row N d) (hK : Kept (fun j => j = gd) w p) (cap : Nat) (hg : w.heap[g]? = some (.cells #[.slice (some ⟨gd, 0, none⟩) d.S.length cap, .map (some gm), .bool d.on, .int .i64 (d.fuse : Int)] 92 (0, 0))) (hcap : d.S.length ≤ cap) (hcap2 : cap ≤ maxLen)
    {M : Nat} {f : Int → Option Value} (hM : Mp p gm M f) (cur : Array Value) (hc : p.heap[gd]? = some (.cells cur 94 (0, 0))) (hs : cur.size = cap * 64) (ht : cur.toList.take (d.S.length * 64) = scells (d.S.map lastB)) :
    ∃ p2, (Builtin.clear_ #[90] 0 #[.map (some gm)]).run Try.prog p = .ok (.tuple #[]) p2 ∧ Dk p2 g gd gm (fun _ => none) 0 ⟨d.S.map fun s => [lastB s], d.on, d.fuse⟩ ∧ Kept (fun j => j = gm) p p2 := by
  obtain ⟨n1, n2, n3, n4⟩ := h.g_ne
  have hok := h.ok
  obtain ⟨p2, hrun, hm2, hk2, hs2⟩ := hM.clear (P := Try.prog) Try.underlying90 0
  have hset : (d.S.map fun s => [lastB s]).map dur = d.S.map lastB := by rw [List.map_map]; rfl
  refine ⟨p2, hrun, ⟨⟨by simpa using hok.1, by simpa using hok.2.1, hok.2.2.1, ?_⟩, ⟨cap, cur, ?_, hk2.heap hc n3, ?_, hcap2, hs, ?_⟩, ⟨_, _, hm2, fun k h => absurd rfl h, fun j hj => .inl ⟨by simp, rfl, rfl⟩⟩, fun _ _ h => (by cases h), fun _ _ _ h => (by cases h), fun _ _ h => (by cases h)⟩, hk2⟩
  · intro s hs
    obtain ⟨s', hs', rfl⟩ := List.mem_map.1 hs
    obtain ⟨e1, _, e3⟩ := hok.2.2.2 s' hs'
    exact ⟨by simp, by simp, fun x hx => by rw [List.mem_singleton.1 hx]; exact e3 _ (lastB_mem e1)⟩
  · rw [List.length_map]; exact hk2.heap (hK.heap hg n1) n2
  · rw [List.length_map]; exact hcap
  · rw [List.length_map, hset]; exact ht
theorem flush_off (h : Dk w g gd gm row N d) (ho : d.on = false) :
    Calls Try.prog 30 #[.pointer (some ⟨g, 0, none⟩)] w fun e w' => e = .returned (.int .i64 10) ∧ w = w' := by
  obtain ⟨cap, h1, h2, c0, c1, c2, c3, f0⟩ := h.facts
  rw [ho] at c2
  clear h ho
  go_enter Try.func30, Try.ntmps30
  go_wp2
  go_ret
  exact ⟨rfl, rfl⟩
set_option maxRecDepth 100000 in
set_option maxHeartbeats 2000000 in
theorem flush_ok (h : Dk w g gd gm row N d) (ho : d.on = true) :
    Calls Try.prog 30 #[.pointer (some ⟨g, 0, none⟩)] w fun e w' => e = .returned (.int .i64 0) ∧ Dk w' g gd gm (fun _ => none) 0 d.flush ∧ Kept (Blk g gd gm row) w w' := by
  obtain ⟨cap, cur0, s1, s2, s3, s4, s5, s6⟩ := h.self
  obtain ⟨M, f, hm, hfd, hr⟩ := h.map
  obtain ⟨w1, hrg, ⟨cnt0, hRg0⟩, hk1, hsz1⟩ := hm.range (P := Try.prog) (t := 90) Try.underlying90
  obtain ⟨n1, n2, n3, n4⟩ := h.g_ne
  have hlt := h.lt
  have hgl := hlt g (.inl rfl)
  have hgdl := hlt gd (.inr (.inl rfl))
  have hgml := hlt gm (.inr (.inr (.inl rfl)))
  have c0 : w.cell? ⟨g, 0, none⟩ = some (.slice (some ⟨gd, 0, none⟩) d.S.length cap) := by rw [cell_of_row w g _ _ _ _ s1]; rfl
  have c1 : w.cell? ⟨g, 1, none⟩ = some (.map (some gm)) := by rw [cell_of_row w g _ _ _ _ s1]; rfl
  have c2 : w.cell? ⟨g, 2, none⟩ = some (.bool true) := by rw [cell_of_row w g _ _ _ _ s1, ← ho]; rfl
  have hne4 := h.ok.2.1
  have h64 : ∀ left : Int → Bool, ∀ b ∈ d.S.mapIdx fun k s => if left (k : Int) then dur s else lastB s, b.length = 64 := by
    intro left b hb
    obtain ⟨j, hj, rfl⟩ := List.mem_iff_getElem.1 hb
    rw [List.getElem_mapIdx]
    have hj' : j < d.S.length := by simpa using hj
    obtain ⟨e1, _, e3⟩ := h.ok.2.2.2 _ (List.getElem_mem hj')
    split
    · exact e3 _ (dur_mem e1)
    · exact e3 _ (lastB_mem e1)
  have hstart : Rg w1 w.heap.size gm M f (fun k => (f k).isSome) cnt0 ∧ (∀ k, (f k).isSome = true → (f k).isSome = true) ∧ Kept (fun j => j = gd) w w1 ∧ ∃ cur, w1.heap[gd]? = some (.cells cur 94 (0, 0)) ∧ cur.size = cap * 64 ∧ cur.toList.take (d.S.length * 64) = scells (d.S.mapIdx fun k s => if (f (k : Int)).isSome then dur s else lastB s) := by
    refine ⟨hRg0, fun _ h => h, hk1.mono (fun _ _ h => h.elim), cur0, hk1.heap s2 (fun h => h), s5, ?_⟩
    rw [s6]
    congr 1
    apply List.ext_getElem (by simp)
    intro j h1 h2
    rw [List.getElem_map, List.getElem_mapIdx]
    have hj : j < d.S.length := by simpa using h1
    rcases hr j hj with ⟨e1, e2, _⟩ | ⟨_, _, v, _, e2, _⟩
    · rw [e2]
      have hne := (h.ok.2.2.2 _ (List.getElem_mem hj)).1
      match hS : d.S[j], e1, hne with
      | [x], _, _ => rfl
    · rw [e2]; rfl
  have HS := Lib.hid hstart
  have H := Lib.hid h
  have H64 := Lib.hid h64
  have S1 := Lib.hid s1
  have Hr := Lib.hid hr
  have Hfd := Lib.hid hfd
  have Hne : Hid (gm ≠ gd ∧ g ≠ gd ∧ g ≠ gm) := Lib.hid ⟨fun e => n3 e.symm, n1, n2⟩
  have Hgd := Lib.hid hgdl
  have Hgl := Lib.hid hgl
  have Hgm := Lib.hid hgml
  have Hcap : Hid (d.S.length ≤ cap ∧ cap ≤ maxLen) := Lib.hid ⟨s3, s4⟩
  have Hr2 : Hid (∀ k j, row k = some j → j < w.heap.size ∧ j ≠ gd) := Lib.hid (fun k j hj => ⟨hlt j (.inr (.inr (.inr ⟨k, hj⟩))), h.apart k j hj⟩)
  have Hn4 := Lib.hid hne4
  have HW1 := Lib.hid hk1
  obtain ⟨L, hL⟩ : ∃ L, L = d.S.length := ⟨_, rfl⟩
  rw [← hL] at c0
  have HLe := Lib.hid hL
  clear hstart h64 s1 s2 s3 s4 s5 s6 hr hfd hRg0 n1 n2 n3 n4 hlt hgl hgdl hgml hm h ho hne4 hk1 hL
  go_enter Try.func30, Try.ntmps30
  go_wp2_with fail
  go_loopw [] (fun wr => ∃ left cnt, Rg wr w.heap.size gm M f left cnt ∧ (∀ k, left k = true → (f k).isSome = true) ∧ Kept (fun j => j = gd) w wr ∧ ∃ cur, wr.heap[gd]? = some (.cells cur 94 (0, 0)) ∧ cur.size = cap * 64 ∧ cur.toList.take (d.S.length * 64) = scells (d.S.mapIdx fun k s => if left (k : Int) then dur s else lastB s)) (fun wr => wr.rangeLeft gm w.heap.size)
  case atStart => exact ⟨_, cnt0, HS.out⟩
  case round =>
    obtain ⟨left, cnt, hRg, hLf, hKr, cur, hcur⟩ := hrel
    have HRg := Lib.hid hRg
    have HLf := Lib.hid hLf
    have HKr := Lib.hid hKr
    have Hcur := Lib.hid hcur
    have d0 := (hKr.cell (p := ⟨g, 0, none⟩) Hgl.out Hne.out.2.1).trans c0
    have d1 := (hKr.cell (p := ⟨g, 1, none⟩) Hgl.out Hne.out.2.1).trans c1
    rcases hRg.next (P := Try.prog) 0 with ⟨hall, hrun⟩ | ⟨k', v, w2, cnt', hlk, hfk, hrun, hRg2, hlt, hk2, hsz2, hen⟩
    · have hfin : cur.toList.take (d.S.length * 64) = scells (d.S.map lastB) := by
        rw [hcur.2.2]
        congr 1
        apply List.ext_getElem (by simp)
        intro j h1 h2
        rw [List.getElem_map, List.getElem_mapIdx, hall]
        rfl
      obtain ⟨p2, hclr, hd2, hk2⟩ := H.out.flushed hKr cap S1.out Hcap.out.1 Hcap.out.2 hRg.mp cur hcur.1 hcur.2.1 hfin
      have HB := Lib.hid (burn_dk hd2)
      have Hk2 := Lib.hid hk2
      clear hRg hLf hKr hcur hall hfin hd2 hk2
      go_wp2_with (go_at_call 54; refine HB.out.mono ?_; rintro e w9 ⟨rfl, hd9, hk9⟩; have Hd9 := Lib.hid hd9; have Hk9 := Lib.hid hk9; clear hd9 hk9)
      go_ret
      exact ⟨rfl, Hd9.out, ((HKr.out.mono (T := Blk g gd gm row) (fun j _ e => .inr (.inl e))).trans Hk2.out (fun j _ e => .inr (.inr (.inl e)))).trans Hk9.out (fun j _ e => .inl e)⟩
    · obtain ⟨hk0, hkl⟩ := Hfd.out k' (by rw [hfk]; simp)
      obtain ⟨k, rfl⟩ : ∃ k : Nat, k' = (k : Int) := ⟨k'.toNat, by omega⟩
      have hkL0 : k < d.S.length := by omega
      rcases Hr.out k hkL0 with ⟨_, e0, _⟩ | ⟨htl, gk, v', hrow, e0, hown⟩
      · rw [e0] at hfk; cases hfk
      rw [e0] at hfk
      obtain rfl : v' = v := by cases hfk; rfl
      obtain ⟨hsne, _, hs64⟩ := H.out.ok.2.2.2 _ (List.getElem_mem hkL0)
      have ht64 : ∀ b ∈ d.S[k].tail, b.length = 64 := fun b hb => hs64 b (List.mem_of_mem_tail hb)
      have hgk := Hr2.out k gk hrow
      obtain ⟨c, rfl, hmc, hc2, hrr⟩ := hown.secs ht64 rfl
      obtain ⟨bl, hbl⟩ : ∃ bl, bl = lastB d.S[k] := ⟨_, rfl⟩
      have Hbl : Hid (bl.length = 64) := Lib.hid (by rw [hbl]; exact hs64 _ (lastB_mem hsne))
      have Hbs : Hid (∀ (hk : k < d.S.length), lastB d.S[k] = bl) := Lib.hid (fun _ => hbl.symm)
      have hpl : 0 < d.S[k].tail.length := List.length_pos_iff.2 htl
      have hlast := hrr (d.S[k].tail.length - 1) (by omega)
      rw [tail_last _ htl (by omega), ← hbl] at hlast
      obtain ⟨m, hmm⟩ : ∃ m, m = d.S[k].tail.length := ⟨_, rfl⟩
      rw [← hmm] at hlast hmc hpl hrun hen
      have Hm : Hid (0 < m ∧ m ≤ 9223372036854775807 ∧ m ≤ c) := Lib.hid ⟨hpl, by omega, hmc⟩
      have hKq : Kept (fun j => j = gd ∨ j = w.heap.size) w w2 := (hKr.mono (fun _ _ e => .inl e)).trans hk2 (fun _ _ e => .inr e)
      obtain ⟨q, hq⟩ : ∃ q, q = w2 := ⟨_, rfl⟩
      have Hgq : Hid (g < q.heap.size) := Lib.hid (by rw [hq]; exact Nat.lt_of_lt_of_le Hgl.out hKq.size)
      have Hgdq : Hid (gd < q.heap.size) := Lib.hid (by rw [hq]; exact Nat.lt_of_lt_of_le Hgd.out hKq.size)
      have Hgkq : Hid (gk < q.heap.size) := Lib.hid (by rw [hq]; exact Nat.lt_of_lt_of_le hgk.1 hKq.size)
      have P0 : Hid (q.cell? ⟨g, 0, none⟩ = some (.slice (some ⟨gd, 0, none⟩) L cap)) := Lib.hid (by rw [hq]; exact (hKq.cell (p := ⟨g, 0, none⟩) Hgl.out (fun e => by rcases e with e | e; exact Hne.out.2.1 e; have := Hgl.out; simp only at e; omega)).trans c0)
      obtain ⟨m1, hm1⟩ : ∃ m1, m1 = m - 1 := ⟨_, rfl⟩
      have Hm1 := Lib.hid hm1
      have Hm1b : Hid ((m1 : Int) < (m : Int)) := Lib.hid (by omega)
      rw [← hm1] at hlast
      have PR : Hid (q.rangeAt gk (m1 * 64) (vals bl)) := Lib.hid (fun j v hv => by rw [hq]; exact (hKq.cell (p := ⟨gk, m1 * 64 + j, none⟩) hgk.1 (fun e => by rcases e with e | e; exact hgk.2 e; have := hgk.1; simp only at e; omega)).trans (hlast j v hv))
      have PT : Hid (q.there gd (k * 64) 64) := Lib.hid (fun j hj => by
        have hh : q.heap[gd]? = some (.cells cur 94 (0, 0)) := by rw [hq]; exact hk2.heap hcur.1 (fun e => by have := Hgd.out; omega)
        have hlt : k * 64 + j < cur.size := by rw [hcur.2.1]; have := Hcap.out.1; have := Nat.mul_le_mul_right 64 (show k + 1 ≤ cap by omega); omega
        refine ⟨?_, frozen_of_row q gd _ _ _ hh⟩
        rw [cell_of_row q gd _ _ _ _ hh, Array.getElem?_eq_getElem hlt]
        rfl)
      have HkL : Hid ((k : Int) < (L : Int)) := Lib.hid (by have := HLe.out; omega)
      have HLc : Hid (L ≤ cap ∧ cap ≤ 9223372036854775807 ∧ L ≤ 4096) := Lib.hid ⟨by have := HLe.out; have := Hcap.out; omega, by have := Hcap.out.2; unfold maxLen at this; omega, by have := HLe.out; have := Hn4.out; omega⟩
      have Hlk := Lib.hid hlk
      have HRg2 : Hid (Rg q w.heap.size gm M f (fun j => left j && !decide (j = (k : Int))) cnt') := Lib.hid (by rw [hq]; exact hRg2)
      have Hlt := Lib.hid hlt
      have Hk2 : Hid (Kept (fun j => j = w.heap.size) wr q) := Lib.hid (by rw [hq]; exact hk2)
      rw [← hq] at hrun hen
      have hkL2 := HkL.out
      clear hRg hLf hKr hcur hlk hfk hRg2 hlt hk2 hsz2 hk0 hkl e0 hown hsne hs64 ht64 hgk hmc hc2 hrr hbl hpl hlast hmm hm1 hKq hq htl hrow
      go_upto_region 6 with fail
      refine Roll.region_f 11 38 Dfl6 Lfl6 [(0, .pointer (some ⟨g, 0, none⟩)), (3, .int .i64 (k : Int)), (4, .slice (some ⟨gk, 0, none⟩) m c)] (fun p => Kept (fun _ => False) q p) (fun p p2 => Kept (fun _ => False) p p2) [fun vv p => vv = .pointer (some ⟨g, 0, none⟩), fun vv p => vv = .pointer (some ⟨g, 0, none⟩), fun vv p => vv = .pointer (some ⟨g, 0, none⟩), fun vv p => vv = .slice (some ⟨gd, 0, none⟩) L cap, fun vv p => vv = .int .i64 (k : Int), fun vv p => vv = .slice (some ⟨gk, 0, none⟩) m c, fun vv p => vv = .slice (some ⟨gk, 0, none⟩) m c, fun vv p => vv = .int .i64 (m : Int), fun vv p => vv = .int .i64 (m1 : Int), fun vv p => vv = .pointer (some ⟨gk, m1 * 64, none⟩), fun vv p => vv = .agg (vals bl).toArray] (by kernel_rfl) (by kernel_rfl) rfl ⟨rfl, rfl, rfl, trivial⟩ ((Kept.refl _ _).drew) ?_ ?_ ?_
      · exact ⟨fun _ _ _ _ h => h, fun _ _ _ _ h => h, fun _ _ _ _ h => h, fun _ _ _ _ h => h, fun _ _ _ _ h => h, fun _ _ _ _ h => h, fun _ _ _ _ h => h, fun _ _ _ _ h => h, fun _ _ _ _ h => h, fun _ _ _ _ h => h, fun _ _ _ _ h => h, trivial⟩
      · intro b0 hN hlv
        refine ⟨?_, ?_, ?_, ?_, ?_, ?_, ?_, ?_, ?_, ?_, ?_, trivial⟩
        · intro vs p hI hp
          have e0 : (Roll.putD Dfl6 vs [] b0).eval (.tmp 0) = .pointer (some ⟨g, 0, none⟩) := (Roll.eval_old rfl).trans (hlv.at 0 (0, .pointer (some ⟨g, 0, none⟩)) rfl)
          clear hp hlv hN
          unfold Roll.Goes
          simp only [Lfl6, List.getD_cons_zero, List.getD_cons_succ]
          generalize Roll.putD Dfl6 vs [] b0 = a1 at *
          refine Roll.goes_val (w' := p) (.pointer (some ⟨g, 0, none⟩)) rfl ?_ ⟨hI, Kept.refl _ _, rfl⟩
          (have ec : ∀ x, a1.eval (.const x) = x := fun _ => rfl); (have ef : ∀ x, a1.eval (.func x) = .func (.func x) #[] #[] := fun _ => rfl); generalize a1.eval = ρ at *
          skip
          go_simp <;> (intros; first | (exfalso; omega) | rfl)
        · intro vs p hI hp
          have h0 : (vs 0) = .pointer (some ⟨g, 0, none⟩) := hp 0 (by simp [Lfl6])
          have e20 : (Roll.putD Dfl6 vs [0] b0).eval (.tmp 20) = .pointer (some ⟨g, 0, none⟩) := (Roll.eval_new 0 rfl (by decide) (by decide) (by omega)).trans h0
          clear hp hlv hN
          unfold Roll.Goes
          simp only [Lfl6, List.getD_cons_zero, List.getD_cons_succ]
          generalize Roll.putD Dfl6 vs [0] b0 = a1 at *
          refine Roll.goes_val (w' := p) (.pointer (some ⟨g, 0, none⟩)) rfl ?_ ⟨hI, Kept.refl _ _, rfl⟩
          (have ec : ∀ x, a1.eval (.const x) = x := fun _ => rfl); (have ef : ∀ x, a1.eval (.func x) = .func (.func x) #[] #[] := fun _ => rfl); generalize a1.eval = ρ at *
          clear h0
          go_simp <;> (intros; first | (exfalso; omega) | rfl)
        · intro vs p hI hp
          have h1 : (vs 1) = .pointer (some ⟨g, 0, none⟩) := hp 1 (by simp [Lfl6])
          have e21 : (Roll.putD Dfl6 vs [1] b0).eval (.tmp 21) = .pointer (some ⟨g, 0, none⟩) := (Roll.eval_new 1 rfl (by decide) (by decide) (by omega)).trans h1
          clear hp hlv hN
          unfold Roll.Goes
          simp only [Lfl6, List.getD_cons_zero, List.getD_cons_succ]
          generalize Roll.putD Dfl6 vs [1] b0 = a1 at *
          refine Roll.goes_val (w' := p) (.pointer (some ⟨g, 0, none⟩)) rfl ?_ ⟨hI, Kept.refl _ _, rfl⟩
          (have ec : ∀ x, a1.eval (.const x) = x := fun _ => rfl); (have ef : ∀ x, a1.eval (.func x) = .func (.func x) #[] #[] := fun _ => rfl); generalize a1.eval = ρ at *
          clear h1
          go_simp <;> (intros; first | (exfalso; omega) | rfl)
        · intro vs p hI hp
          have h2 : (vs 2) = .pointer (some ⟨g, 0, none⟩) := hp 2 (by simp [Lfl6])
          have e22 : (Roll.putD Dfl6 vs [2] b0).eval (.tmp 22) = .pointer (some ⟨g, 0, none⟩) := (Roll.eval_new 2 rfl (by decide) (by decide) (by omega)).trans h2
          clear hp hlv hN
          unfold Roll.Goes
          simp only [Lfl6, List.getD_cons_zero, List.getD_cons_succ]
          generalize Roll.putD Dfl6 vs [2] b0 = a1 at *
          have c0p : p.cell? ⟨g, 0, none⟩ = some (.slice (some ⟨gd, 0, none⟩) L cap) := (hI.cell Hgq.out (fun h => h)).trans P0.out
          refine Roll.goes_val (w' := p) (.slice (some ⟨gd, 0, none⟩) L cap) rfl ?_ ⟨hI, Kept.refl _ _, rfl⟩
          (have ec : ∀ x, a1.eval (.const x) = x := fun _ => rfl); (have ef : ∀ x, a1.eval (.func x) = .func (.func x) #[] #[] := fun _ => rfl); generalize a1.eval = ρ at *
          clear h2
          go_simp <;> (intros; first | (exfalso; omega) | rfl)
        · intro vs p hI hp
          have e3 : (Roll.putD Dfl6 vs [] b0).eval (.tmp 3) = .int .i64 (k : Int) := (Roll.eval_old rfl).trans (hlv.at 1 (3, .int .i64 (k : Int)) rfl)
          clear hp hlv hN
          unfold Roll.Goes
          simp only [Lfl6, List.getD_cons_zero, List.getD_cons_succ]
          generalize Roll.putD Dfl6 vs [] b0 = a1 at *
          refine Roll.goes_val (w' := p) (.int .i64 (k : Int)) rfl ?_ ⟨hI, Kept.refl _ _, rfl⟩
          (have ec : ∀ x, a1.eval (.const x) = x := fun _ => rfl); (have ef : ∀ x, a1.eval (.func x) = .func (.func x) #[] #[] := fun _ => rfl); generalize a1.eval = ρ at *
          skip
          go_simp <;> (intros; first | (exfalso; omega) | rfl)
        · intro vs p hI hp
          have e4 : (Roll.putD Dfl6 vs [] b0).eval (.tmp 4) = .slice (some ⟨gk, 0, none⟩) m c := (Roll.eval_old rfl).trans (hlv.at 2 (4, .slice (some ⟨gk, 0, none⟩) m c) rfl)
          clear hp hlv hN
          unfold Roll.Goes
          simp only [Lfl6, List.getD_cons_zero, List.getD_cons_succ]
          generalize Roll.putD Dfl6 vs [] b0 = a1 at *
          refine Roll.goes_val (w' := p) (.slice (some ⟨gk, 0, none⟩) m c) rfl ?_ ⟨hI, Kept.refl _ _, rfl⟩
          (have ec : ∀ x, a1.eval (.const x) = x := fun _ => rfl); (have ef : ∀ x, a1.eval (.func x) = .func (.func x) #[] #[] := fun _ => rfl); generalize a1.eval = ρ at *
          skip
          go_simp <;> (intros; first | (exfalso; omega) | rfl)
        · intro vs p hI hp
          have e4 : (Roll.putD Dfl6 vs [] b0).eval (.tmp 4) = .slice (some ⟨gk, 0, none⟩) m c := (Roll.eval_old rfl).trans (hlv.at 2 (4, .slice (some ⟨gk, 0, none⟩) m c) rfl)
          clear hp hlv hN
          unfold Roll.Goes
          simp only [Lfl6, List.getD_cons_zero, List.getD_cons_succ]
          generalize Roll.putD Dfl6 vs [] b0 = a1 at *
          refine Roll.goes_val (w' := p) (.slice (some ⟨gk, 0, none⟩) m c) rfl ?_ ⟨hI, Kept.refl _ _, rfl⟩
          (have ec : ∀ x, a1.eval (.const x) = x := fun _ => rfl); (have ef : ∀ x, a1.eval (.func x) = .func (.func x) #[] #[] := fun _ => rfl); generalize a1.eval = ρ at *
          skip
          go_simp <;> (intros; first | (exfalso; omega) | rfl)
        · intro vs p hI hp
          have h6 : (vs 6) = .slice (some ⟨gk, 0, none⟩) m c := hp 6 (by simp [Lfl6])
          have e26 : (Roll.putD Dfl6 vs [6] b0).eval (.tmp 26) = .slice (some ⟨gk, 0, none⟩) m c := (Roll.eval_new 6 rfl (by decide) (by decide) (by omega)).trans h6
          clear hp hlv hN
          unfold Roll.Goes
          simp only [Lfl6, List.getD_cons_zero, List.getD_cons_succ]
          generalize Roll.putD Dfl6 vs [6] b0 = a1 at *
          refine Roll.goes_val (w' := p) (.int .i64 (m : Int)) rfl ?_ ⟨hI, Kept.refl _ _, rfl⟩
          (have ec : ∀ x, a1.eval (.const x) = x := fun _ => rfl); (have ef : ∀ x, a1.eval (.func x) = .func (.func x) #[] #[] := fun _ => rfl); generalize a1.eval = ρ at *
          clear h6
          go_simp <;> (intros; first | (exfalso; omega) | rfl)
        · intro vs p hI hp
          have h7 : (vs 7) = .int .i64 (m : Int) := hp 7 (by simp [Lfl6])
          have e27 : (Roll.putD Dfl6 vs [7] b0).eval (.tmp 27) = .int .i64 (m : Int) := (Roll.eval_new 7 rfl (by decide) (by decide) (by omega)).trans h7
          clear hp hlv hN
          unfold Roll.Goes
          simp only [Lfl6, List.getD_cons_zero, List.getD_cons_succ]
          generalize Roll.putD Dfl6 vs [7] b0 = a1 at *
          have hm1 := Hm.out.1
          have hm2 := Hm.out.2.1
          have hm6 := Hm1.out
          have hwr : IntKind.i64.wrap ((m : Int) - 1) = (m1 : Int) := (i64_id _ (by omega) (by omega)).trans (by omega)
          clear hm6
          refine Roll.goes_val (w' := p) (.int .i64 (m1 : Int)) rfl ?_ ⟨hI, Kept.refl _ _, rfl⟩
          (have ec : ∀ x, a1.eval (.const x) = x := fun _ => rfl); (have ef : ∀ x, a1.eval (.func x) = .func (.func x) #[] #[] := fun _ => rfl); generalize a1.eval = ρ at *
          clear h7
          go_simp <;> (intros; first | (exfalso; omega) | rfl)
        · intro vs p hI hp
          have h5 : (vs 5) = .slice (some ⟨gk, 0, none⟩) m c := hp 5 (by simp [Lfl6])
          have h8 : (vs 8) = .int .i64 (m1 : Int) := hp 8 (by simp [Lfl6])
          have e25 : (Roll.putD Dfl6 vs [5, 8] b0).eval (.tmp 25) = .slice (some ⟨gk, 0, none⟩) m c := (Roll.eval_new 5 rfl (by decide) (by decide) (by omega)).trans h5
          have e28 : (Roll.putD Dfl6 vs [5, 8] b0).eval (.tmp 28) = .int .i64 (m1 : Int) := (Roll.eval_new 8 rfl (by decide) (by decide) (by omega)).trans h8
          clear hp hlv hN
          unfold Roll.Goes
          simp only [Lfl6, List.getD_cons_zero, List.getD_cons_succ]
          generalize Roll.putD Dfl6 vs [5, 8] b0 = a1 at *
          have hm3 := Hm.out.2.2
          have hm5 : (m1 : Int) < (m : Int) := Hm1b.out
          refine Roll.goes_val (w' := p) (.pointer (some ⟨gk, m1 * 64, none⟩)) rfl ?_ ⟨hI, Kept.refl _ _, rfl⟩
          (have ec : ∀ x, a1.eval (.const x) = x := fun _ => rfl); (have ef : ∀ x, a1.eval (.func x) = .func (.func x) #[] #[] := fun _ => rfl); generalize a1.eval = ρ at *
          clear h5 h8
          go_simp <;> (intros; first | (exfalso; omega) | rfl)
        · intro vs p hI hp
          have h9 : (vs 9) = .pointer (some ⟨gk, m1 * 64, none⟩) := hp 9 (by simp [Lfl6])
          have e29 : (Roll.putD Dfl6 vs [9] b0).eval (.tmp 29) = .pointer (some ⟨gk, m1 * 64, none⟩) := (Roll.eval_new 9 rfl (by decide) (by decide) (by omega)).trans h9
          clear hp hlv hN
          unfold Roll.Goes
          simp only [Lfl6, List.getD_cons_zero, List.getD_cons_succ]
          generalize Roll.putD Dfl6 vs [9] b0 = a1 at *
          exact Roll.goes_load_mid rfl 94 (.tmp 29) rfl gk (m1 * 64) e29 (vals bl) _ (fun j v hv => (hI.cell (p := ⟨gk, m1 * 64 + j, none⟩) Hgkq.out (fun h => h)).trans (PR.out j v hv)) Try.underlying94 rfl (size64v Hbl.out) ⟨hI, Kept.refl _ _, rfl⟩
      · intro vs p hI hR
        have h0 : (vs 0) = .pointer (some ⟨g, 0, none⟩) := hR 0 (by omega)
        have h1 : (vs 1) = .pointer (some ⟨g, 0, none⟩) := hR 1 (by omega)
        have h2 : (vs 2) = .pointer (some ⟨g, 0, none⟩) := hR 2 (by omega)
        have h3 : (vs 3) = .slice (some ⟨gd, 0, none⟩) L cap := hR 3 (by omega)
        have h4 : (vs 4) = .int .i64 (k : Int) := hR 4 (by omega)
        have h5 : (vs 5) = .slice (some ⟨gk, 0, none⟩) m c := hR 5 (by omega)
        have h6 : (vs 6) = .slice (some ⟨gk, 0, none⟩) m c := hR 6 (by omega)
        have h7 : (vs 7) = .int .i64 (m : Int) := hR 7 (by omega)
        have h8 : (vs 8) = .int .i64 (m1 : Int) := hR 8 (by omega)
        have h9 : (vs 9) = .pointer (some ⟨gk, m1 * 64, none⟩) := hR 9 (by omega)
        have h10 : (vs 10) = .agg (vals bl).toArray := hR 10 (by omega)
        clear hR
        simp only [List.range_succ, List.range_zero, List.nil_append, List.cons_append, Roll.putD, Act.put, List.getD_cons_zero, List.getD_cons_succ, List.setIfInBounds_toArray, List.set_cons_zero, List.set_cons_succ, List.drop_succ_cons, List.drop_zero, Dfl6]
        simp only [h0, h1, h2, h3, h4, h5, h6, h7, h8, h9, h10]
        clear h0 h1 h2 h3 h4 h5 h6 h7 h8 h9 h10
        have HI := Lib.hid hI
        have PTH : Hid (p.there gd (k * 64) 64) := Lib.hid (fun j hj => by
          obtain ⟨h1, h2⟩ := PT.out j hj
          exact ⟨by rw [hI.cell (p := ⟨gd, k * 64 + j, none⟩) Hgdq.out (fun h => h)]; exact h1, by rw [hI.frozen (p := ⟨gd, k * 64 + j, none⟩) Hgdq.out (fun h => h)]; exact h2⟩)
        clear hI
        have hkL := HkL.out
        have hLc := HLc.out
        go_wp2_with (refine wpList_store_mid rfl 94 (.tmp 31) (.tmp 30) rfl gd (k * 64) _ rfl rfl (by rw [List.size_toArray, vals_len, Hbl.out]; exact PTH.out) (size64a Hbl.out) (one64 _) ?_)
        go_roundw
        case rel =>
          have hp1 : p.heap[gd]? = some (.cells cur 94 (0, 0)) := HI.out.heap (Hk2.out.heap Hcur.out.1 (fun e => by have := Hgd.out; omega)) (fun h => h)
          obtain ⟨cur', q1, q2, q3⟩ := heap_setCells_own (vals bl) (k * 64) p cur hp1 (by rw [vals_len, Hbl.out, Hcur.out.2.1]; have := Nat.mul_le_mul_right 64 (show k + 1 ≤ cap by omega); omega)
          have KS : Kept (fun j => j = gd) p (p.setCells gd (k * 64) (vals bl)) := Kept.setCells _ _ (Kept.refl _ _) (fun _ => rfl)
          have hrg : Rg (p.setCells gd (k * 64) (vals bl)) w.heap.size gm M f (fun j => left j && !decide (j = (k : Int))) cnt' := (HRg2.out.kept HI.out (fun h => h) (fun h => h)).kept KS (fun e => Hne.out.1 e) (fun e => by have := Hgd.out; omega)
          refine ⟨_, _, _, _, _, _, _, _, _, _, _, _, _, _, _, _, _, _, _, ⟨_, cnt', hrg, fun j hj => HLf.out j (by simp at hj; exact hj.1), (HKr.out.trans ((Hk2.out.mono (T := fun j => j = gd ∨ j = w.heap.size) (fun _ _ e => .inr e)).trans (HI.out.mono (fun _ _ h => h.elim)) (fun _ _ h => h)) (fun j hj e => by omega)).trans KS (fun _ _ h => h), cur', q1, q2.trans Hcur.out.2.1, ?_⟩, rfl⟩
          rw [q3, vals_len, Hbl.out, take_splice _ _ _ _ _ (by rw [vals_len, Hbl.out]) (by have := Nat.mul_le_mul_right 64 (show k + 1 ≤ d.S.length by have := HLe.out; omega); omega) (by rw [Array.length_toList, Hcur.out.2.1]; exact Nat.mul_le_mul_right 64 (by have := HLe.out; omega)), Hcur.out.2.2, ← scells_set (H64.out left) k (by rw [List.length_mapIdx]; have := HLe.out; omega)]
          congr 1
          exact flush_list d.S k left bl Hlk.out Hbs.out
        case measure => rw [(HRg2.out.kept HI.out (fun h => h) (fun h => h) |>.kept ((Kept.setCells (vals bl) (k * 64) (Kept.refl (fun j => j = gd) p) (fun _ => rfl))) (fun e => Hne.out.1 e) (fun e => by have := Hgd.out; omega)).left_eq, HRg.out.left_eq]; exact Hlt.out
end
end Go.Proofs.Ytbnodhcgdgcebaa

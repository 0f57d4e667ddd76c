/-
  The disk's Restart.
-/
import Derived.Test.YtbnodhcgdgcebaaS9
namespace Go.Proofs.Ytbnodhcgdgcebaa
open Go.RowKit
set_option linter.unusedSimpArgs false
set_option linter.unusedVariables false
def Drs6 : List (Option Tmp) := [some 44, some 45, some 46, some 47, some 48, some 49, none]
def Lrs6 : List (List Nat) := [[], [0], [1], [2], [], [4], [3, 5]]
def Drs5 : List (Option Tmp) := [some 26, some 27, some 28, some 29, some 30, some 31, some 32, some 33, some 34, some 35, some 36, some 37, some 38, some 39, some 40, some 41, some 42, some 43, none]
def Lrs5 : List (List Nat) := [[], [0], [1], [2], [], [4], [], [6], [7], [8], [], [10], [9, 11], [12], [], [], [13, 14, 15], [3, 5], [17, 16]]
def Drsn : List (Option Tmp) := [some 15, some 16, some 17, some 18, some 19, some 20, some 21, some 14, some 22, some 23, some 6, some 7]
def Lrsn : List (List Nat) := [[], [0], [1], [2], [], [4], [3, 5], [6], [7], [7], [8], [9]]
def Drsy : List (Option Tmp) := [some 15, some 16, some 17, some 18, some 19, some 20, some 21, some 14, some 22, some 23, some 6, some 7]
def Lrsy : List (List Nat) := [[], [0], [1], [2], [], [4], [3, 5], [6], [7], [7], [8], [9]]
theorem run_alloc67 (W : World) : (Instr.alloc 67 true (.tuple #[])).run Try.prog W = .ok (.pointer (some ⟨W.heap.size, 0, none⟩)) (W.alloc (.cells #[.int .i64 0, .int .i64 0, .int .i64 0] 67)) := by kernel_rfl
section
variable {w : World} {g gd gm : Nat} {row : Nat → Option Nat} {N : Nat} {d : DM}
theorem Dk.durThere (h : Dk w g gd gm row N d) (k : Nat) (hk : k < d.S.length) {p : World} (hK : Kept (fun _ => False) w p) : p.there gd (k * 64) 64 := by
  obtain ⟨cap, cur, h1, h2, h3, h4, h5, h6⟩ := h.self
  have h2 := hK.heap h2 (fun h => h)
  intro j hj
  have hlt : k * 64 + j < cur.size := by rw [h5]; have := Nat.mul_le_mul_right 64 (show k + 1 ≤ cap by omega); omega
  refine ⟨?_, frozen_of_row p gd _ _ _ h2⟩
  rw [cell_of_row p gd _ _ _ _ h2, Array.getElem?_eq_getElem hlt]
  rfl
set_option maxRecDepth 100000 in
set_option maxHeartbeats 4000000 in
theorem restart_dk (h : Dk w g gd gm row N d) {D : Nat → Prop} {a : Option Addr} {n c : Nat} {ts : List TM} (hT : Ts D w a n c ts) (hD : ∀ j, D j → ¬ Blk g gd gm row j) :
    Calls Try.prog 27 #[.pointer (some ⟨g, 0, none⟩), .slice a n c] w fun e w' => e = .returned (.tuple #[]) ∧ Dk w' g gd gm (fun _ => none) 0 (d.restart ts) ∧ Kept (Blk g gd gm row) w w' := by
  have hnm : n ≤ 9223372036854775807 := by have := hT.2.1.2.1; have := hT.2.1.2.2.1; unfold maxLen at this; omega
  have HOK := Lib.hid h.ok
  have H := Lib.hid h
  have HT := Lib.hid hT
  have HSep := Lib.hid hD
  clear h hT hD
  go_enter Try.func27, Try.ntmps27
  go_wp2_with fail
  go_loopw [10] (fun t wr => ∃ i : Nat, i ≤ n ∧ t = .int .i64 (i : Int) ∧ ∃ rowi, Dk wr g gd gm rowi N ⟨DM.torn d.S (ts.take i), d.on, d.fuse⟩ ∧ Kept (Blk g gd gm row) w wr ∧ ∀ j x, rowi j = some x → row j = some x) (fun t _ => n - (intOf t).toNat)
  case atStart => exact ⟨0, Nat.zero_le _, rfl, row, by rw [List.take_zero, torn_nil]; exact H.out, Kept.refl _ _, fun _ _ h => h⟩
  case round =>
    obtain ⟨i, hi, rfl, rowi, hDi, hKi, hRi⟩ := hrel
    have HDi := Lib.hid hDi
    have HKi := Lib.hid hKi
    have HRi := Lib.hid hRi
    clear hDi hKi hRi
    by_cases hlt : i < n
    · have hDi := HDi.out
      obtain ⟨n1, n2, n3, n4⟩ := hDi.g_ne
      have hlti := hDi.lt
      obtain ⟨b, off, hDb, hbw, rfl, hrb⟩ := (HT.out.kept HKi.out (fun b hb hd => HSep.out b hd)).at (by omega)
      have hil : i < ts.length := by have := HT.out.1; omega
      have hr3 := hrb i hil
      obtain ⟨tm, htm⟩ : ∃ tm, tm = ts[i] := ⟨_, rfl⟩
      have htok : TOk tm := by rw [htm]; exact HT.out.2.2 _ (List.getElem_mem hil)
      rw [← htm] at hr3
      have htk : ts.take (i + 1) = ts.take i ++ [tm] := by rw [List.take_succ_eq_append_getElem hil, htm]
      obtain ⟨g5, hg5⟩ : ∃ g5, g5 = wr.heap.size := ⟨_, rfl⟩
      obtain ⟨q, hq⟩ : ∃ q, q = (wr.alloc (.cells #[.int .i64 0, .int .i64 0, .int .i64 0] 67)).setRow wr.heap.size #[.int .i64 tm.sector, .int .i64 tm.writes, .int .i64 tm.bytes] := ⟨_, rfl⟩
      have hKq : Kept (fun _ => False) wr q := by rw [hq]; exact Kept.of_below _ (below_setRow ((Below.refl _ _).alloc (Nat.le_refl _) _) (Nat.le_refl _) _)
      have hq5r : q.heap[g5]? = some (.cells #[.int .i64 tm.sector, .int .i64 tm.writes, .int .i64 tm.bytes] 67 (0, 0)) := by rw [hq, hg5]; exact setRow_heap _ _ _ _ _ _ (heap_new rfl)
      have hq5 : q.cell? ⟨g5, 0, none⟩ = some (.int .i64 tm.sector) := by rw [cell_of_row _ _ _ _ _ _ hq5r]; rfl
      obtain ⟨cap, hc1, hc2, c0, c1, _, _, _⟩ := hDi.facts
      have HgQ : Hid (g < q.heap.size) := Lib.hid (Nat.lt_of_lt_of_le (hlti g (.inl rfl)) hKq.size)
      have H5Q : Hid (g5 < q.heap.size) := Lib.hid (heap_lt hq5r)
      have Q1 : Hid (q.cell? ⟨g, 1, none⟩ = some (.map (some gm))) := Lib.hid ((hKq.cell (hlti g (.inl rfl)) (fun h => h)).trans c1)
      have Hr3 := Lib.hid hr3
      have Hq := Lib.hid hq
      have HKq := Lib.hid hKq
      have Hg5 := Lib.hid hg5
      have hi2 : (i : Int) < (n : Int) := by omega

      by_cases hx : ∃ (k : Nat) (hk : k < (DM.torn d.S (ts.take i)).length), tm.sector = (k : Int) ∧ (DM.torn d.S (ts.take i))[k].tail ≠ []
      · obtain ⟨k, hkx, hsx, htx⟩ := hx
        obtain ⟨sc, wri, byt⟩ := tm
        simp only at hsx hq5 hq5r hq Hq Hr3
        subst hsx
        obtain ⟨tm, htm2⟩ : ∃ tm : TM, tm = ⟨(k : Int), wri, byt⟩ := ⟨_, rfl⟩
        have ew : wri = tm.writes := by rw [htm2]
        have eb : byt = tm.bytes := by rw [htm2]
        obtain ⟨gk, c, hrk, hown, htc, hc22, hlk⟩ := hDi.lookYes k hkx htx
        obtain ⟨hsne, hsN, hs64⟩ := hDi.ok.2.2.2 _ (List.getElem_mem hkx)
        obtain ⟨tl, htl⟩ : ∃ tl, tl = (DM.torn d.S (ts.take i))[k].tail := ⟨_, rfl⟩
        obtain ⟨old, hold⟩ : ∃ old, old = dur (DM.torn d.S (ts.take i))[k] := ⟨_, rfl⟩
        have hcons : (DM.torn d.S (ts.take i))[k] = old :: tl := by
          rw [hold, htl]
          cases hS : (DM.torn d.S (ts.take i))[k] with
          | nil => exact absurd hS hsne
          | cons x r => rfl
        obtain ⟨SV, hSV⟩ : ∃ SV, SV = surv (old :: tl) wri byt := ⟨_, rfl⟩
        have HTS : Hid (DM.torn d.S (ts.take (i + 1)) = (DM.torn d.S (ts.take i)).set k [SV]) := Lib.hid (by rw [htk, torn_set _ _ k hkx rfl htx, hcons, hSV])
        obtain ⟨hdk, hd64⟩ := hDi.durAt k hkx
        rw [← hold] at hdk hd64
        have HSV64 : Hid (SV.length = 64) := Lib.hid (by rw [hSV, ← hcons]; exact surv_len hsne hs64 _ _)
        have Hold := Lib.hid hd64
        have Htl : Hid (tl ≠ []) := Lib.hid (by rw [htl]; exact htx)
        have Ht64 : Hid (∀ b ∈ tl, b.length = 64) := Lib.hid (fun b hb => hs64 b (by rw [hcons]; exact List.mem_cons_of_mem _ hb))
        rw [← htl] at htc hown
        simp only at hlk
        have Htc := Lib.hid htc
        have Hc2 := Lib.hid hc22
        obtain ⟨c', hsl, _, _, hrr⟩ := hown.secs Ht64.out rfl
        obtain rfl : c = c' := by injection hsl
        have hgkl : gk < wr.heap.size := hlti gk (.inr (.inr (.inr ⟨k, hrk⟩)))
        have HSV : Hid (SV = surv (old :: tl) tm.writes tm.bytes) := Lib.hid (by rw [hSV, ew, eb])
        obtain ⟨L, hL⟩ : ∃ L, L = (DM.torn d.S (ts.take i)).length := ⟨_, rfl⟩
        have hkL0 : k < L := by rw [hL]; exact hkx
        have HkL : Hid ((k : Int) < (L : Int)) := Lib.hid (by omega)
        have HLc : Hid (L ≤ cap ∧ cap ≤ 9223372036854775807 ∧ L ≤ 4096) := Lib.hid ⟨by rw [hL]; exact hc1, hc2, by rw [hL]; exact hDi.ok.2.1⟩
        have HkS := Lib.hid hkx
        simp only at c0
        rw [← hL] at c0
        have Q0 : Hid (q.cell? ⟨g, 0, none⟩ = some (.slice (some ⟨gd, 0, none⟩) L cap)) := Lib.hid ((hKq.cell (hlti g (.inl rfl)) (fun h => h)).trans c0)
        have HgdQ : Hid (gd < q.heap.size) := Lib.hid (Nat.lt_of_lt_of_le (hlti gd (.inr (.inl rfl))) hKq.size)
        have HgkQ : Hid (gk < q.heap.size) := Lib.hid (Nat.lt_of_lt_of_le hgkl hKq.size)
        have QD : Hid (q.rangeAt gd (k * 64) (vals old)) := Lib.hid (fun j v hv => (hKq.cell (p := ⟨gd, k * 64 + j, none⟩) (hlti gd (.inr (.inl rfl))) (fun h => h)).trans (hdk j v hv))
        have QR : Hid (∀ (i : Nat) (hi : i < tl.length), q.rangeAt gk (i * 64) (vals tl[i])) := Lib.hid (fun i hi j v hv => (hKq.cell (p := ⟨gk, i * 64 + j, none⟩) hgkl (fun h => h)).trans (hrr i hi j v hv))
        have QT : Hid (q.there gd (k * 64) 64) := Lib.hid (hDi.durThere k hkx hKq)
        have Q5 : Hid (q.cell? ⟨g5, 0, none⟩ = some (.int .i64 (k : Int))) := Lib.hid hq5
        have Q5r : Hid (q.heap[g5]? = some (.cells #[.int .i64 (k : Int), .int .i64 tm.writes, .int .i64 tm.bytes] 67 (0, 0))) := Lib.hid (by rw [← ew, ← eb]; exact hq5r)
        have Hne : Hid (¬ g = gd ∧ ¬ g = gm) := Lib.hid ⟨n1, n2⟩
        have Hne5 : Hid (¬ g5 = gd) := Lib.hid (fun e => by have := hlti gd (.inr (.inl rfl)); omega)
        have Hne5m : Hid (¬ g5 = gm) := Lib.hid (fun e => by have := hlti gm (.inr (.inr (.inl rfl))); omega)
        have HLK : Hid (∀ p, Kept (fun _ => False) q p → (Instr.lookup 90 (.map (some gm)) (.int .i64 (k : Int)) true).run Try.prog p = .ok (.tuple #[.slice (some ⟨gk, 0, none⟩) tl.length c, .bool true]) p) := Lib.hid (fun p hp => by rw [htl]; exact hlk (fun _ => False) p (fun h => h) (hKq.trans hp (fun _ _ h => h)))
        rw [ew, eb] at Hq Hr3
        clear hDi n1 n2 n3 n4 hlti hDb hbw hrb hr3 htok htk hg5 hq hKq hq5r hq5 hc1 hc2 c0 c1 hcons hSV hdk hd64 hown hlk htc hc22 hsl hrr hgkl hL hkL0 hrk hsne hsN hs64 htx hold htl htm2 ew eb
        go_upto_region 3 with (first
          | (refine wpList_load_mid rfl 67 (.tmp 12) rfl b (off + i * 3) rfl _ _ Hr3.out Try.underlying67 rfl (by kernel_rfl) ?_)
          | (refine wpList_alloc_z rfl 67 rfl _ 67 run_alloc67 ?_)
          | (refine wpList_store_row rfl 67 (.tmp 5) (.tmp 13) rfl wr.heap.size _ rfl rfl 67 _ (heap_new rfl) (by kernel_rfl) rfl (by simp [Value.oneCell']) ?_))
        rw [← Hq.out, ← Hg5.out]
        refine Roll.region_f 12 61 Drsy Lrsy [(0, .pointer (some ⟨g, 0, none⟩)), (5, .pointer (some ⟨g5, 0, none⟩))] (fun p => Kept (fun _ => False) q p) (fun p p2 => Kept (fun _ => False) p p2) [fun vv p => vv = .pointer (some ⟨g, 0, none⟩), fun vv p => vv = .pointer (some ⟨g, 0, none⟩), fun vv p => vv = .pointer (some ⟨g, 1, none⟩), fun vv p => vv = .map (some gm), fun vv p => vv = .pointer (some ⟨g5, 0, none⟩), fun vv p => vv = .int .i64 (k : Int), fun vv p => vv = .tuple #[.slice (some ⟨gk, 0, none⟩) tl.length c, .bool true], fun vv p => vv = .tuple #[.slice (some ⟨gk, 0, none⟩) tl.length c, .bool true], fun vv p => vv = .slice (some ⟨gk, 0, none⟩) tl.length c, fun vv p => vv = .bool true, fun vv p => vv = .slice (some ⟨gk, 0, none⟩) tl.length c, fun vv p => vv = .bool true] (by kernel_rfl) (by kernel_rfl) rfl ⟨rfl, rfl, trivial⟩ ((Kept.refl _ _).drew) ?_ ?_ ?_
        · exact ⟨fun _ _ _ _ h => h, fun _ _ _ _ h => h, fun _ _ _ _ h => h, fun _ _ _ _ h => h, fun _ _ _ _ h => h, fun _ _ _ _ h => h, fun _ _ _ _ h => h, fun _ _ _ _ h => h, fun _ _ _ _ h => h, fun _ _ _ _ h => h, fun _ _ _ _ h => h, fun _ _ _ _ h => h, trivial⟩
        · intro b0 hN hlv
          refine ⟨?_, ?_, ?_, ?_, ?_, ?_, ?_, ?_, ?_, ?_, ?_, ?_, trivial⟩
          · intro vs p hI hp
            have e0 : (Roll.putD Drsy vs [] b0).eval (.tmp 0) = .pointer (some ⟨g, 0, none⟩) := (Roll.eval_old rfl).trans (hlv.at 0 (0, .pointer (some ⟨g, 0, none⟩)) rfl)
            clear hp hlv hN
            unfold Roll.Goes
            simp only [Lrsy, List.getD_cons_zero, List.getD_cons_succ]
            generalize Roll.putD Drsy vs [] b0 = a1 at *
            refine Roll.goes_val (w' := p) (.pointer (some ⟨g, 0, none⟩)) rfl ?_ ⟨hI, Kept.refl _ _, rfl⟩
            (have ec : ∀ x, a1.eval (.const x) = x := fun _ => rfl); (have ef : ∀ x, a1.eval (.func x) = .func (.func x) #[] #[] := fun _ => rfl); generalize a1.eval = ρ at *
            skip
            go_simp <;> (intros; first | (exfalso; omega) | rfl)
          · intro vs p hI hp
            have h0 : (vs 0) = .pointer (some ⟨g, 0, none⟩) := hp 0 (by simp [Lrsy])
            have e15 : (Roll.putD Drsy vs [0] b0).eval (.tmp 15) = .pointer (some ⟨g, 0, none⟩) := (Roll.eval_new 0 rfl (by decide) (by decide) (by omega)).trans h0
            clear hp hlv hN
            unfold Roll.Goes
            simp only [Lrsy, List.getD_cons_zero, List.getD_cons_succ]
            generalize Roll.putD Drsy vs [0] b0 = a1 at *
            refine Roll.goes_val (w' := p) (.pointer (some ⟨g, 0, none⟩)) rfl ?_ ⟨hI, Kept.refl _ _, rfl⟩
            (have ec : ∀ x, a1.eval (.const x) = x := fun _ => rfl); (have ef : ∀ x, a1.eval (.func x) = .func (.func x) #[] #[] := fun _ => rfl); generalize a1.eval = ρ at *
            clear h0
            go_simp <;> (intros; first | (exfalso; omega) | rfl)
          · intro vs p hI hp
            have h1 : (vs 1) = .pointer (some ⟨g, 0, none⟩) := hp 1 (by simp [Lrsy])
            have e16 : (Roll.putD Drsy vs [1] b0).eval (.tmp 16) = .pointer (some ⟨g, 0, none⟩) := (Roll.eval_new 1 rfl (by decide) (by decide) (by omega)).trans h1
            clear hp hlv hN
            unfold Roll.Goes
            simp only [Lrsy, List.getD_cons_zero, List.getD_cons_succ]
            generalize Roll.putD Drsy vs [1] b0 = a1 at *
            refine Roll.goes_val (w' := p) (.pointer (some ⟨g, 1, none⟩)) rfl ?_ ⟨hI, Kept.refl _ _, rfl⟩
            (have ec : ∀ x, a1.eval (.const x) = x := fun _ => rfl); (have ef : ∀ x, a1.eval (.func x) = .func (.func x) #[] #[] := fun _ => rfl); generalize a1.eval = ρ at *
            clear h1
            go_simp <;> (intros; first | (exfalso; omega) | rfl)
          · intro vs p hI hp
            have h2 : (vs 2) = .pointer (some ⟨g, 1, none⟩) := hp 2 (by simp [Lrsy])
            have e17 : (Roll.putD Drsy vs [2] b0).eval (.tmp 17) = .pointer (some ⟨g, 1, none⟩) := (Roll.eval_new 2 rfl (by decide) (by decide) (by omega)).trans h2
            clear hp hlv hN
            unfold Roll.Goes
            simp only [Lrsy, List.getD_cons_zero, List.getD_cons_succ]
            generalize Roll.putD Drsy vs [2] b0 = a1 at *
            have c1p : p.cell? ⟨g, 1, none⟩ = some (.map (some gm)) := (hI.cell HgQ.out (fun h => h)).trans Q1.out
            refine Roll.goes_val (w' := p) (.map (some gm)) rfl ?_ ⟨hI, Kept.refl _ _, rfl⟩
            (have ec : ∀ x, a1.eval (.const x) = x := fun _ => rfl); (have ef : ∀ x, a1.eval (.func x) = .func (.func x) #[] #[] := fun _ => rfl); generalize a1.eval = ρ at *
            clear h2
            go_simp <;> (intros; first | (exfalso; omega) | rfl)
          · intro vs p hI hp
            have e5 : (Roll.putD Drsy vs [] b0).eval (.tmp 5) = .pointer (some ⟨g5, 0, none⟩) := (Roll.eval_old rfl).trans (hlv.at 1 (5, .pointer (some ⟨g5, 0, none⟩)) rfl)
            clear hp hlv hN
            unfold Roll.Goes
            simp only [Lrsy, List.getD_cons_zero, List.getD_cons_succ]
            generalize Roll.putD Drsy vs [] b0 = a1 at *
            refine Roll.goes_val (w' := p) (.pointer (some ⟨g5, 0, none⟩)) rfl ?_ ⟨hI, Kept.refl _ _, rfl⟩
            (have ec : ∀ x, a1.eval (.const x) = x := fun _ => rfl); (have ef : ∀ x, a1.eval (.func x) = .func (.func x) #[] #[] := fun _ => rfl); generalize a1.eval = ρ at *
            skip
            go_simp <;> (intros; first | (exfalso; omega) | rfl)
          · intro vs p hI hp
            have h4 : (vs 4) = .pointer (some ⟨g5, 0, none⟩) := hp 4 (by simp [Lrsy])
            have e19 : (Roll.putD Drsy vs [4] b0).eval (.tmp 19) = .pointer (some ⟨g5, 0, none⟩) := (Roll.eval_new 4 rfl (by decide) (by decide) (by omega)).trans h4
            clear hp hlv hN
            unfold Roll.Goes
            simp only [Lrsy, List.getD_cons_zero, List.getD_cons_succ]
            generalize Roll.putD Drsy vs [4] b0 = a1 at *
            have c5p : p.cell? ⟨g5, 0, none⟩ = some (.int .i64 (k : Int)) := (hI.cell H5Q.out (fun h => h)).trans Q5.out
            refine Roll.goes_val (w' := p) (.int .i64 (k : Int)) rfl ?_ ⟨hI, Kept.refl _ _, rfl⟩
            (have ec : ∀ x, a1.eval (.const x) = x := fun _ => rfl); (have ef : ∀ x, a1.eval (.func x) = .func (.func x) #[] #[] := fun _ => rfl); generalize a1.eval = ρ at *
            clear h4
            go_simp <;> (intros; first | (exfalso; omega) | rfl)
          · intro vs p hI hp
            have h3 : (vs 3) = .map (some gm) := hp 3 (by simp [Lrsy])
            have h5 : (vs 5) = .int .i64 (k : Int) := hp 5 (by simp [Lrsy])
            have e18 : (Roll.putD Drsy vs [3, 5] b0).eval (.tmp 18) = .map (some gm) := (Roll.eval_new 3 rfl (by decide) (by decide) (by omega)).trans h3
            have e20 : (Roll.putD Drsy vs [3, 5] b0).eval (.tmp 20) = .int .i64 (k : Int) := (Roll.eval_new 5 rfl (by decide) (by decide) (by omega)).trans h5
            clear hp hlv hN
            unfold Roll.Goes
            simp only [Lrsy, List.getD_cons_zero, List.getD_cons_succ]
            generalize Roll.putD Drsy vs [3, 5] b0 = a1 at *
            have hlk := HLK.out p hI
            refine Roll.goes_val (w' := p) (.tuple #[.slice (some ⟨gk, 0, none⟩) tl.length c, .bool true]) rfl ?_ ⟨hI, Kept.refl _ _, rfl⟩
            (have ec : ∀ x, a1.eval (.const x) = x := fun _ => rfl); (have ef : ∀ x, a1.eval (.func x) = .func (.func x) #[] #[] := fun _ => rfl); generalize a1.eval = ρ at *
            clear h3 h5
            go_simp <;> (intros; first | (exfalso; omega) | rfl)
          · intro vs p hI hp
            have h6 : (vs 6) = .tuple #[.slice (some ⟨gk, 0, none⟩) tl.length c, .bool true] := hp 6 (by simp [Lrsy])
            have e21 : (Roll.putD Drsy vs [6] b0).eval (.tmp 21) = .tuple #[.slice (some ⟨gk, 0, none⟩) tl.length c, .bool true] := (Roll.eval_new 6 rfl (by decide) (by decide) (by omega)).trans h6
            clear hp hlv hN
            unfold Roll.Goes
            simp only [Lrsy, List.getD_cons_zero, List.getD_cons_succ]
            generalize Roll.putD Drsy vs [6] b0 = a1 at *
            refine Roll.goes_val (w' := p) (.tuple #[.slice (some ⟨gk, 0, none⟩) tl.length c, .bool true]) rfl ?_ ⟨hI, Kept.refl _ _, rfl⟩
            (have ec : ∀ x, a1.eval (.const x) = x := fun _ => rfl); (have ef : ∀ x, a1.eval (.func x) = .func (.func x) #[] #[] := fun _ => rfl); generalize a1.eval = ρ at *
            clear h6
            go_simp <;> (intros; first | (exfalso; omega) | rfl)
          · intro vs p hI hp
            have h7 : (vs 7) = .tuple #[.slice (some ⟨gk, 0, none⟩) tl.length c, .bool true] := hp 7 (by simp [Lrsy])
            have e14 : (Roll.putD Drsy vs [7] b0).eval (.tmp 14) = .tuple #[.slice (some ⟨gk, 0, none⟩) tl.length c, .bool true] := (Roll.eval_new 7 rfl (by decide) (by decide) (by omega)).trans h7
            clear hp hlv hN
            unfold Roll.Goes
            simp only [Lrsy, List.getD_cons_zero, List.getD_cons_succ]
            generalize Roll.putD Drsy vs [7] b0 = a1 at *
            refine Roll.goes_val (w' := p) (.slice (some ⟨gk, 0, none⟩) tl.length c) rfl ?_ ⟨hI, Kept.refl _ _, rfl⟩
            (have ec : ∀ x, a1.eval (.const x) = x := fun _ => rfl); (have ef : ∀ x, a1.eval (.func x) = .func (.func x) #[] #[] := fun _ => rfl); generalize a1.eval = ρ at *
            clear h7
            go_simp <;> (intros; first | (exfalso; omega) | rfl)
          · intro vs p hI hp
            have h7 : (vs 7) = .tuple #[.slice (some ⟨gk, 0, none⟩) tl.length c, .bool true] := hp 7 (by simp [Lrsy])
            have e14 : (Roll.putD Drsy vs [7] b0).eval (.tmp 14) = .tuple #[.slice (some ⟨gk, 0, none⟩) tl.length c, .bool true] := (Roll.eval_new 7 rfl (by decide) (by decide) (by omega)).trans h7
            clear hp hlv hN
            unfold Roll.Goes
            simp only [Lrsy, List.getD_cons_zero, List.getD_cons_succ]
            generalize Roll.putD Drsy vs [7] b0 = a1 at *
            refine Roll.goes_val (w' := p) (.bool true) rfl ?_ ⟨hI, Kept.refl _ _, rfl⟩
            (have ec : ∀ x, a1.eval (.const x) = x := fun _ => rfl); (have ef : ∀ x, a1.eval (.func x) = .func (.func x) #[] #[] := fun _ => rfl); generalize a1.eval = ρ at *
            clear h7
            go_simp <;> (intros; first | (exfalso; omega) | rfl)
          · intro vs p hI hp
            have h8 : (vs 8) = .slice (some ⟨gk, 0, none⟩) tl.length c := hp 8 (by simp [Lrsy])
            have e22 : (Roll.putD Drsy vs [8] b0).eval (.tmp 22) = .slice (some ⟨gk, 0, none⟩) tl.length c := (Roll.eval_new 8 rfl (by decide) (by decide) (by omega)).trans h8
            clear hp hlv hN
            unfold Roll.Goes
            simp only [Lrsy, List.getD_cons_zero, List.getD_cons_succ]
            generalize Roll.putD Drsy vs [8] b0 = a1 at *
            refine Roll.goes_val (w' := p) (.slice (some ⟨gk, 0, none⟩) tl.length c) rfl ?_ ⟨hI, Kept.refl _ _, rfl⟩
            (have ec : ∀ x, a1.eval (.const x) = x := fun _ => rfl); (have ef : ∀ x, a1.eval (.func x) = .func (.func x) #[] #[] := fun _ => rfl); generalize a1.eval = ρ at *
            clear h8
            go_simp <;> (intros; first | (exfalso; omega) | rfl)
          · intro vs p hI hp
            have h9 : (vs 9) = .bool true := hp 9 (by simp [Lrsy])
            have e23 : (Roll.putD Drsy vs [9] b0).eval (.tmp 23) = .bool true := (Roll.eval_new 9 rfl (by decide) (by decide) (by omega)).trans h9
            clear hp hlv hN
            unfold Roll.Goes
            simp only [Lrsy, List.getD_cons_zero, List.getD_cons_succ]
            generalize Roll.putD Drsy vs [9] b0 = a1 at *
            refine Roll.goes_val (w' := p) (.bool true) rfl ?_ ⟨hI, Kept.refl _ _, rfl⟩
            (have ec : ∀ x, a1.eval (.const x) = x := fun _ => rfl); (have ef : ∀ x, a1.eval (.func x) = .func (.func x) #[] #[] := fun _ => rfl); generalize a1.eval = ρ at *
            clear h9
            go_simp <;> (intros; first | (exfalso; omega) | rfl)
        · intro vs p hI hR
          have h0 : (vs 0) = .pointer (some ⟨g, 0, none⟩) := hR 0 (by omega)
          have h1 : (vs 1) = .pointer (some ⟨g, 0, none⟩) := hR 1 (by omega)
          have h2 : (vs 2) = .pointer (some ⟨g, 1, none⟩) := hR 2 (by omega)
          have h3 : (vs 3) = .map (some gm) := hR 3 (by omega)
          have h4 : (vs 4) = .pointer (some ⟨g5, 0, none⟩) := hR 4 (by omega)
          have h5 : (vs 5) = .int .i64 (k : Int) := hR 5 (by omega)
          have h6 : (vs 6) = .tuple #[.slice (some ⟨gk, 0, none⟩) tl.length c, .bool true] := hR 6 (by omega)
          have h7 : (vs 7) = .tuple #[.slice (some ⟨gk, 0, none⟩) tl.length c, .bool true] := hR 7 (by omega)
          have h8 : (vs 8) = .slice (some ⟨gk, 0, none⟩) tl.length c := hR 8 (by omega)
          have h9 : (vs 9) = .bool true := hR 9 (by omega)
          have h10 : (vs 10) = .slice (some ⟨gk, 0, none⟩) tl.length c := hR 10 (by omega)
          have h11 : (vs 11) = .bool true := hR 11 (by omega)
          clear hR
          simp only [List.range_succ, List.range_zero, List.nil_append, List.cons_append, Roll.putD, Act.put, List.getD_cons_zero, List.getD_cons_succ, List.setIfInBounds_toArray, List.set_cons_zero, List.set_cons_succ, List.drop_succ_cons, List.drop_zero, Drsy]
          simp only [h0, h1, h2, h3, h4, h5, h6, h7, h8, h9, h10, h11]
          clear h0 h1 h2 h3 h4 h5 h6 h7 h8 h9 h10 h11
          have HI3 := Lib.hid hI
          clear hI
          go_upto_region 5 with fail
          have Hg5 : Hid (g < p.heap.size) := Lib.hid (Nat.lt_of_lt_of_le HgQ.out HI3.out.size)
          have H55 : Hid (g5 < p.heap.size) := Lib.hid (Nat.lt_of_lt_of_le H5Q.out HI3.out.size)
          have Hgd5 : Hid (gd < p.heap.size) := Lib.hid (Nat.lt_of_lt_of_le HgdQ.out HI3.out.size)
          have Hgk5 : Hid (gk < p.heap.size) := Lib.hid (Nat.lt_of_lt_of_le HgkQ.out HI3.out.size)
          have P0 : Hid (p.cell? ⟨g, 0, none⟩ = some (.slice (some ⟨gd, 0, none⟩) L cap)) := Lib.hid ((HI3.out.cell HgQ.out (fun h => h)).trans Q0.out)
          have P5 : Hid (p.cell? ⟨g5, 0, none⟩ = some (.int .i64 (k : Int))) := Lib.hid ((HI3.out.cell H5Q.out (fun h => h)).trans Q5.out)
          have P5r : Hid (p.heap[g5]? = some (.cells #[.int .i64 (k : Int), .int .i64 tm.writes, .int .i64 tm.bytes] 67 (0, 0))) := Lib.hid (HI3.out.heap Q5r.out (fun h => h))
          have PD : Hid (p.rangeAt gd (k * 64) (vals old)) := Lib.hid (fun j v hv => (HI3.out.cell (p := ⟨gd, k * 64 + j, none⟩) HgdQ.out (fun h => h)).trans (QD.out j v hv))
          have PR : Hid (∀ (i : Nat) (hi : i < tl.length), p.rangeAt gk (i * 64) (vals tl[i])) := Lib.hid (fun i hi j v hv => (HI3.out.cell (p := ⟨gk, i * 64 + j, none⟩) HgkQ.out (fun h => h)).trans (QR.out i hi j v hv))
          have PT : Hid (p.there gd (k * 64) 64) := Lib.hid (fun j hj => by
            obtain ⟨h1, h2⟩ := QT.out j hj
            exact ⟨by rw [HI3.out.cell (p := ⟨gd, k * 64 + j, none⟩) HgdQ.out (fun h => h)]; exact h1, by rw [HI3.out.frozen (p := ⟨gd, k * 64 + j, none⟩) HgdQ.out (fun h => h)]; exact h2⟩)
          have HKq0 := HKq
          replace HKq : Hid (Kept (fun _ => False) wr p) := Lib.hid (HKq0.out.trans HI3.out (fun _ _ h => h))
          replace Q1 : Hid (p.cell? ⟨g, 1, none⟩ = some (.map (some gm))) := Lib.hid ((HI3.out.cell HgQ.out (fun h => h)).trans Q1.out)
          clear HgQ H5Q HKq0
          have HgQ := Hg5
          have H5Q := H55
          clear HI3
          rename World => q5
          refine Roll.region_f 17 61 Drs5 Lrs5 [(0, .pointer (some ⟨g, 0, none⟩)), (5, .pointer (some ⟨g5, 0, none⟩)), (6, .slice (some ⟨gk, 0, none⟩) tl.length c)] (fun p => Kept (fun _ => False) q5 p) (fun p p2 => Kept (fun _ => False) p p2) [fun vv p => vv = .pointer (some ⟨g, 0, none⟩), fun vv p => vv = .pointer (some ⟨g, 0, none⟩), fun vv p => vv = .pointer (some ⟨g, 0, none⟩), fun vv p => vv = .slice (some ⟨gd, 0, none⟩) L cap, fun vv p => vv = .pointer (some ⟨g5, 0, none⟩), fun vv p => vv = .int .i64 (k : Int), fun vv p => vv = .pointer (some ⟨g, 0, none⟩), fun vv p => vv = .pointer (some ⟨g, 0, none⟩), fun vv p => vv = .pointer (some ⟨g, 0, none⟩), fun vv p => vv = .slice (some ⟨gd, 0, none⟩) L cap, fun vv p => vv = .pointer (some ⟨g5, 0, none⟩), fun vv p => vv = .int .i64 (k : Int), fun vv p => vv = .pointer (some ⟨gd, k * 64, none⟩), fun vv p => vv = .agg (vals old).toArray, fun vv p => vv = .slice (some ⟨gk, 0, none⟩) tl.length c, fun vv p => vv = .agg #[.int .i64 (k : Int), .int .i64 tm.writes, .int .i64 tm.bytes], fun vv p => vv = .agg (vals SV).toArray] (by kernel_rfl) (by kernel_rfl) rfl ⟨rfl, rfl, rfl, trivial⟩ ((Kept.refl _ _).drew) ?_ ?_ ?_
          · exact ⟨fun _ _ _ _ h => h, fun _ _ _ _ h => h, fun _ _ _ _ h => h, fun _ _ _ _ h => h, fun _ _ _ _ h => h, fun _ _ _ _ h => h, fun _ _ _ _ h => h, fun _ _ _ _ h => h, fun _ _ _ _ h => h, fun _ _ _ _ h => h, fun _ _ _ _ h => h, fun _ _ _ _ h => h, fun _ _ _ _ h => h, fun _ _ _ _ h => h, fun _ _ _ _ h => h, fun _ _ _ _ h => h, fun _ _ _ _ h => h, trivial⟩
          · intro b0 hN hlv
            refine ⟨?_, ?_, ?_, ?_, ?_, ?_, ?_, ?_, ?_, ?_, ?_, ?_, ?_, ?_, ?_, ?_, ?_, trivial⟩
            · intro vs p hI hp
              have e0 : (Roll.putD Drs5 vs [] b0).eval (.tmp 0) = .pointer (some ⟨g, 0, none⟩) := (Roll.eval_old rfl).trans (hlv.at 0 (0, .pointer (some ⟨g, 0, none⟩)) rfl)
              clear hp hlv hN
              unfold Roll.Goes
              simp only [Lrs5, List.getD_cons_zero, List.getD_cons_succ]
              generalize Roll.putD Drs5 vs [] b0 = a1 at *
              refine Roll.goes_val (w' := p) (.pointer (some ⟨g, 0, none⟩)) rfl ?_ ⟨hI, Kept.refl _ _, rfl⟩
              (have ec : ∀ x, a1.eval (.const x) = x := fun _ => rfl); (have ef : ∀ x, a1.eval (.func x) = .func (.func x) #[] #[] := fun _ => rfl); generalize a1.eval = ρ at *
              skip
              go_simp <;> (intros; first | (exfalso; omega) | rfl)
            · intro vs p hI hp
              have h0 : (vs 0) = .pointer (some ⟨g, 0, none⟩) := hp 0 (by simp [Lrs5])
              have e26 : (Roll.putD Drs5 vs [0] b0).eval (.tmp 26) = .pointer (some ⟨g, 0, none⟩) := (Roll.eval_new 0 rfl (by decide) (by decide) (by omega)).trans h0
              clear hp hlv hN
              unfold Roll.Goes
              simp only [Lrs5, List.getD_cons_zero, List.getD_cons_succ]
              generalize Roll.putD Drs5 vs [0] b0 = a1 at *
              refine Roll.goes_val (w' := p) (.pointer (some ⟨g, 0, none⟩)) rfl ?_ ⟨hI, Kept.refl _ _, rfl⟩
              (have ec : ∀ x, a1.eval (.const x) = x := fun _ => rfl); (have ef : ∀ x, a1.eval (.func x) = .func (.func x) #[] #[] := fun _ => rfl); generalize a1.eval = ρ at *
              clear h0
              go_simp <;> (intros; first | (exfalso; omega) | rfl)
            · intro vs p hI hp
              have h1 : (vs 1) = .pointer (some ⟨g, 0, none⟩) := hp 1 (by simp [Lrs5])
              have e27 : (Roll.putD Drs5 vs [1] b0).eval (.tmp 27) = .pointer (some ⟨g, 0, none⟩) := (Roll.eval_new 1 rfl (by decide) (by decide) (by omega)).trans h1
              clear hp hlv hN
              unfold Roll.Goes
              simp only [Lrs5, List.getD_cons_zero, List.getD_cons_succ]
              generalize Roll.putD Drs5 vs [1] b0 = a1 at *
              refine Roll.goes_val (w' := p) (.pointer (some ⟨g, 0, none⟩)) rfl ?_ ⟨hI, Kept.refl _ _, rfl⟩
              (have ec : ∀ x, a1.eval (.const x) = x := fun _ => rfl); (have ef : ∀ x, a1.eval (.func x) = .func (.func x) #[] #[] := fun _ => rfl); generalize a1.eval = ρ at *
              clear h1
              go_simp <;> (intros; first | (exfalso; omega) | rfl)
            · intro vs p hI hp
              have h2 : (vs 2) = .pointer (some ⟨g, 0, none⟩) := hp 2 (by simp [Lrs5])
              have e28 : (Roll.putD Drs5 vs [2] b0).eval (.tmp 28) = .pointer (some ⟨g, 0, none⟩) := (Roll.eval_new 2 rfl (by decide) (by decide) (by omega)).trans h2
              clear hp hlv hN
              unfold Roll.Goes
              simp only [Lrs5, List.getD_cons_zero, List.getD_cons_succ]
              generalize Roll.putD Drs5 vs [2] b0 = a1 at *
              have c0p : p.cell? ⟨g, 0, none⟩ = some (.slice (some ⟨gd, 0, none⟩) L cap) := (hI.cell Hg5.out (fun h => h)).trans P0.out
              refine Roll.goes_val (w' := p) (.slice (some ⟨gd, 0, none⟩) L cap) rfl ?_ ⟨hI, Kept.refl _ _, rfl⟩
              (have ec : ∀ x, a1.eval (.const x) = x := fun _ => rfl); (have ef : ∀ x, a1.eval (.func x) = .func (.func x) #[] #[] := fun _ => rfl); generalize a1.eval = ρ at *
              clear h2
              go_simp <;> (intros; first | (exfalso; omega) | rfl)
            · intro vs p hI hp
              have e5 : (Roll.putD Drs5 vs [] b0).eval (.tmp 5) = .pointer (some ⟨g5, 0, none⟩) := (Roll.eval_old rfl).trans (hlv.at 1 (5, .pointer (some ⟨g5, 0, none⟩)) rfl)
              clear hp hlv hN
              unfold Roll.Goes
              simp only [Lrs5, List.getD_cons_zero, List.getD_cons_succ]
              generalize Roll.putD Drs5 vs [] b0 = a1 at *
              refine Roll.goes_val (w' := p) (.pointer (some ⟨g5, 0, none⟩)) rfl ?_ ⟨hI, Kept.refl _ _, rfl⟩
              (have ec : ∀ x, a1.eval (.const x) = x := fun _ => rfl); (have ef : ∀ x, a1.eval (.func x) = .func (.func x) #[] #[] := fun _ => rfl); generalize a1.eval = ρ at *
              skip
              go_simp <;> (intros; first | (exfalso; omega) | rfl)
            · intro vs p hI hp
              have h4 : (vs 4) = .pointer (some ⟨g5, 0, none⟩) := hp 4 (by simp [Lrs5])
              have e30 : (Roll.putD Drs5 vs [4] b0).eval (.tmp 30) = .pointer (some ⟨g5, 0, none⟩) := (Roll.eval_new 4 rfl (by decide) (by decide) (by omega)).trans h4
              clear hp hlv hN
              unfold Roll.Goes
              simp only [Lrs5, List.getD_cons_zero, List.getD_cons_succ]
              generalize Roll.putD Drs5 vs [4] b0 = a1 at *
              have c5p : p.cell? ⟨g5, 0, none⟩ = some (.int .i64 (k : Int)) := (hI.cell H55.out (fun h => h)).trans P5.out
              refine Roll.goes_val (w' := p) (.int .i64 (k : Int)) rfl ?_ ⟨hI, Kept.refl _ _, rfl⟩
              (have ec : ∀ x, a1.eval (.const x) = x := fun _ => rfl); (have ef : ∀ x, a1.eval (.func x) = .func (.func x) #[] #[] := fun _ => rfl); generalize a1.eval = ρ at *
              clear h4
              go_simp <;> (intros; first | (exfalso; omega) | rfl)
            · intro vs p hI hp
              have e0 : (Roll.putD Drs5 vs [] b0).eval (.tmp 0) = .pointer (some ⟨g, 0, none⟩) := (Roll.eval_old rfl).trans (hlv.at 0 (0, .pointer (some ⟨g, 0, none⟩)) rfl)
              clear hp hlv hN
              unfold Roll.Goes
              simp only [Lrs5, List.getD_cons_zero, List.getD_cons_succ]
              generalize Roll.putD Drs5 vs [] b0 = a1 at *
              refine Roll.goes_val (w' := p) (.pointer (some ⟨g, 0, none⟩)) rfl ?_ ⟨hI, Kept.refl _ _, rfl⟩
              (have ec : ∀ x, a1.eval (.const x) = x := fun _ => rfl); (have ef : ∀ x, a1.eval (.func x) = .func (.func x) #[] #[] := fun _ => rfl); generalize a1.eval = ρ at *
              skip
              go_simp <;> (intros; first | (exfalso; omega) | rfl)
            · intro vs p hI hp
              have h6 : (vs 6) = .pointer (some ⟨g, 0, none⟩) := hp 6 (by simp [Lrs5])
              have e32 : (Roll.putD Drs5 vs [6] b0).eval (.tmp 32) = .pointer (some ⟨g, 0, none⟩) := (Roll.eval_new 6 rfl (by decide) (by decide) (by omega)).trans h6
              clear hp hlv hN
              unfold Roll.Goes
              simp only [Lrs5, List.getD_cons_zero, List.getD_cons_succ]
              generalize Roll.putD Drs5 vs [6] b0 = a1 at *
              refine Roll.goes_val (w' := p) (.pointer (some ⟨g, 0, none⟩)) rfl ?_ ⟨hI, Kept.refl _ _, rfl⟩
              (have ec : ∀ x, a1.eval (.const x) = x := fun _ => rfl); (have ef : ∀ x, a1.eval (.func x) = .func (.func x) #[] #[] := fun _ => rfl); generalize a1.eval = ρ at *
              clear h6
              go_simp <;> (intros; first | (exfalso; omega) | rfl)
            · intro vs p hI hp
              have h7 : (vs 7) = .pointer (some ⟨g, 0, none⟩) := hp 7 (by simp [Lrs5])
              have e33 : (Roll.putD Drs5 vs [7] b0).eval (.tmp 33) = .pointer (some ⟨g, 0, none⟩) := (Roll.eval_new 7 rfl (by decide) (by decide) (by omega)).trans h7
              clear hp hlv hN
              unfold Roll.Goes
              simp only [Lrs5, List.getD_cons_zero, List.getD_cons_succ]
              generalize Roll.putD Drs5 vs [7] b0 = a1 at *
              refine Roll.goes_val (w' := p) (.pointer (some ⟨g, 0, none⟩)) rfl ?_ ⟨hI, Kept.refl _ _, rfl⟩
              (have ec : ∀ x, a1.eval (.const x) = x := fun _ => rfl); (have ef : ∀ x, a1.eval (.func x) = .func (.func x) #[] #[] := fun _ => rfl); generalize a1.eval = ρ at *
              clear h7
              go_simp <;> (intros; first | (exfalso; omega) | rfl)
            · intro vs p hI hp
              have h8 : (vs 8) = .pointer (some ⟨g, 0, none⟩) := hp 8 (by simp [Lrs5])
              have e34 : (Roll.putD Drs5 vs [8] b0).eval (.tmp 34) = .pointer (some ⟨g, 0, none⟩) := (Roll.eval_new 8 rfl (by decide) (by decide) (by omega)).trans h8
              clear hp hlv hN
              unfold Roll.Goes
              simp only [Lrs5, List.getD_cons_zero, List.getD_cons_succ]
              generalize Roll.putD Drs5 vs [8] b0 = a1 at *
              have c0p : p.cell? ⟨g, 0, none⟩ = some (.slice (some ⟨gd, 0, none⟩) L cap) := (hI.cell Hg5.out (fun h => h)).trans P0.out
              refine Roll.goes_val (w' := p) (.slice (some ⟨gd, 0, none⟩) L cap) rfl ?_ ⟨hI, Kept.refl _ _, rfl⟩
              (have ec : ∀ x, a1.eval (.const x) = x := fun _ => rfl); (have ef : ∀ x, a1.eval (.func x) = .func (.func x) #[] #[] := fun _ => rfl); generalize a1.eval = ρ at *
              clear h8
              go_simp <;> (intros; first | (exfalso; omega) | rfl)
            · intro vs p hI hp
              have e5 : (Roll.putD Drs5 vs [] b0).eval (.tmp 5) = .pointer (some ⟨g5, 0, none⟩) := (Roll.eval_old rfl).trans (hlv.at 1 (5, .pointer (some ⟨g5, 0, none⟩)) rfl)
              clear hp hlv hN
              unfold Roll.Goes
              simp only [Lrs5, List.getD_cons_zero, List.getD_cons_succ]
              generalize Roll.putD Drs5 vs [] b0 = a1 at *
              refine Roll.goes_val (w' := p) (.pointer (some ⟨g5, 0, none⟩)) rfl ?_ ⟨hI, Kept.refl _ _, rfl⟩
              (have ec : ∀ x, a1.eval (.const x) = x := fun _ => rfl); (have ef : ∀ x, a1.eval (.func x) = .func (.func x) #[] #[] := fun _ => rfl); generalize a1.eval = ρ at *
              skip
              go_simp <;> (intros; first | (exfalso; omega) | rfl)
            · intro vs p hI hp
              have h10 : (vs 10) = .pointer (some ⟨g5, 0, none⟩) := hp 10 (by simp [Lrs5])
              have e36 : (Roll.putD Drs5 vs [10] b0).eval (.tmp 36) = .pointer (some ⟨g5, 0, none⟩) := (Roll.eval_new 10 rfl (by decide) (by decide) (by omega)).trans h10
              clear hp hlv hN
              unfold Roll.Goes
              simp only [Lrs5, List.getD_cons_zero, List.getD_cons_succ]
              generalize Roll.putD Drs5 vs [10] b0 = a1 at *
              have c5p : p.cell? ⟨g5, 0, none⟩ = some (.int .i64 (k : Int)) := (hI.cell H55.out (fun h => h)).trans P5.out
              refine Roll.goes_val (w' := p) (.int .i64 (k : Int)) rfl ?_ ⟨hI, Kept.refl _ _, rfl⟩
              (have ec : ∀ x, a1.eval (.const x) = x := fun _ => rfl); (have ef : ∀ x, a1.eval (.func x) = .func (.func x) #[] #[] := fun _ => rfl); generalize a1.eval = ρ at *
              clear h10
              go_simp <;> (intros; first | (exfalso; omega) | rfl)
            · intro vs p hI hp
              have h9 : (vs 9) = .slice (some ⟨gd, 0, none⟩) L cap := hp 9 (by simp [Lrs5])
              have h11 : (vs 11) = .int .i64 (k : Int) := hp 11 (by simp [Lrs5])
              have e35 : (Roll.putD Drs5 vs [9, 11] b0).eval (.tmp 35) = .slice (some ⟨gd, 0, none⟩) L cap := (Roll.eval_new 9 rfl (by decide) (by decide) (by omega)).trans h9
              have e37 : (Roll.putD Drs5 vs [9, 11] b0).eval (.tmp 37) = .int .i64 (k : Int) := (Roll.eval_new 11 rfl (by decide) (by decide) (by omega)).trans h11
              clear hp hlv hN
              unfold Roll.Goes
              simp only [Lrs5, List.getD_cons_zero, List.getD_cons_succ]
              generalize Roll.putD Drs5 vs [9, 11] b0 = a1 at *
              have hkL := HkL.out
              have hLc := HLc.out
              refine Roll.goes_val (w' := p) (.pointer (some ⟨gd, k * 64, none⟩)) rfl ?_ ⟨hI, Kept.refl _ _, rfl⟩
              (have ec : ∀ x, a1.eval (.const x) = x := fun _ => rfl); (have ef : ∀ x, a1.eval (.func x) = .func (.func x) #[] #[] := fun _ => rfl); generalize a1.eval = ρ at *
              clear h9 h11
              go_simp <;> (intros; first | (exfalso; omega) | rfl)
            · intro vs p hI hp
              have h12 : (vs 12) = .pointer (some ⟨gd, k * 64, none⟩) := hp 12 (by simp [Lrs5])
              have e38 : (Roll.putD Drs5 vs [12] b0).eval (.tmp 38) = .pointer (some ⟨gd, k * 64, none⟩) := (Roll.eval_new 12 rfl (by decide) (by decide) (by omega)).trans h12
              clear hp hlv hN
              unfold Roll.Goes
              simp only [Lrs5, List.getD_cons_zero, List.getD_cons_succ]
              generalize Roll.putD Drs5 vs [12] b0 = a1 at *
              exact Roll.goes_load_mid rfl 94 (.tmp 38) rfl gd (k * 64) e38 (vals old) _ (fun j v hv => (hI.cell (p := ⟨gd, k * 64 + j, none⟩) Hgd5.out (fun h => h)).trans (PD.out j v hv)) Try.underlying94 rfl (size64v Hold.out) ⟨hI, Kept.refl _ _, rfl⟩
            · intro vs p hI hp
              have e6 : (Roll.putD Drs5 vs [] b0).eval (.tmp 6) = .slice (some ⟨gk, 0, none⟩) tl.length c := (Roll.eval_old rfl).trans (hlv.at 2 (6, .slice (some ⟨gk, 0, none⟩) tl.length c) rfl)
              clear hp hlv hN
              unfold Roll.Goes
              simp only [Lrs5, List.getD_cons_zero, List.getD_cons_succ]
              generalize Roll.putD Drs5 vs [] b0 = a1 at *
              refine Roll.goes_val (w' := p) (.slice (some ⟨gk, 0, none⟩) tl.length c) rfl ?_ ⟨hI, Kept.refl _ _, rfl⟩
              (have ec : ∀ x, a1.eval (.const x) = x := fun _ => rfl); (have ef : ∀ x, a1.eval (.func x) = .func (.func x) #[] #[] := fun _ => rfl); generalize a1.eval = ρ at *
              skip
              go_simp <;> (intros; first | (exfalso; omega) | rfl)
            · intro vs p hI hp
              have e5 : (Roll.putD Drs5 vs [] b0).eval (.tmp 5) = .pointer (some ⟨g5, 0, none⟩) := (Roll.eval_old rfl).trans (hlv.at 1 (5, .pointer (some ⟨g5, 0, none⟩)) rfl)
              clear hp hlv hN
              unfold Roll.Goes
              simp only [Lrs5, List.getD_cons_zero, List.getD_cons_succ]
              generalize Roll.putD Drs5 vs [] b0 = a1 at *
              exact Roll.goes_load_row rfl 67 (.tmp 5) rfl g5 e5 67 #[.int .i64 (k : Int), .int .i64 tm.writes, .int .i64 tm.bytes] (0, 0) _ (hI.heap P5r.out (fun h => h)) Try.underlying67 rfl (by kernel_rfl) ⟨hI, Kept.refl _ _, rfl⟩
            · intro vs p hI hp
              have h13 : (vs 13) = .agg (vals old).toArray := hp 13 (by simp [Lrs5])
              have h14 : (vs 14) = .slice (some ⟨gk, 0, none⟩) tl.length c := hp 14 (by simp [Lrs5])
              have h15 : (vs 15) = .agg #[.int .i64 (k : Int), .int .i64 tm.writes, .int .i64 tm.bytes] := hp 15 (by simp [Lrs5])
              have e39 : (Roll.putD Drs5 vs [13, 14, 15] b0).eval (.tmp 39) = .agg (vals old).toArray := (Roll.eval_new 13 rfl (by decide) (by decide) (by omega)).trans h13
              have e40 : (Roll.putD Drs5 vs [13, 14, 15] b0).eval (.tmp 40) = .slice (some ⟨gk, 0, none⟩) tl.length c := (Roll.eval_new 14 rfl (by decide) (by decide) (by omega)).trans h14
              have e41 : (Roll.putD Drs5 vs [13, 14, 15] b0).eval (.tmp 41) = .agg #[.int .i64 (k : Int), .int .i64 tm.writes, .int .i64 tm.bytes] := (Roll.eval_new 15 rfl (by decide) (by decide) (by omega)).trans h15
              clear hp hlv hN
              unfold Roll.Goes
              simp only [Lrs5, List.getD_cons_zero, List.getD_cons_succ]
              generalize Roll.putD Drs5 vs [13, 14, 15] b0 = a1 at *
              refine Roll.goes_call 53 #[.agg (vals old).toArray, .slice (some ⟨gk, 0, none⟩) tl.length c, .agg #[.int .i64 (k : Int), .int .i64 tm.writes, .int .i64 tm.bytes]] p rfl (by have ec : ∀ x, a1.eval (.const x) = x := fun _ => rfl; have ef : ∀ x, a1.eval (.func x) = .func (.func x) #[] #[] := fun _ => rfl; generalize a1.eval = ρ at *; go_simp) ?_
              have hs := survivor_any p old Hold.out tl Htl.out Ht64.out gk c ⟨(k : Int), tm.writes, tm.bytes⟩ Htc.out Hc2.out (Nat.lt_of_lt_of_le Hgk5.out hI.size) (fun i hi j v hv => (hI.cell (p := ⟨gk, i * 64 + j, none⟩) Hgk5.out (fun h => h)).trans (PR.out i hi j v hv))
              rw [show surv (old :: tl) (⟨(k : Int), tm.writes, tm.bytes⟩ : TM).writes (⟨(k : Int), tm.writes, tm.bytes⟩ : TM).bytes = SV from HSV.out.symm] at hs
              refine hs.mono ?_
              rintro y p2 ⟨rfl, hb⟩
              have hk2 := Kept.of_below (fun _ => False) hb
              exact ⟨_, rfl, hI.trans hk2 (fun _ _ h => h), hk2, rfl⟩
          · intro vs p hI hR
            have h0 : (vs 0) = .pointer (some ⟨g, 0, none⟩) := hR 0 (by omega)
            have h1 : (vs 1) = .pointer (some ⟨g, 0, none⟩) := hR 1 (by omega)
            have h2 : (vs 2) = .pointer (some ⟨g, 0, none⟩) := hR 2 (by omega)
            have h3 : (vs 3) = .slice (some ⟨gd, 0, none⟩) L cap := hR 3 (by omega)
            have h4 : (vs 4) = .pointer (some ⟨g5, 0, none⟩) := hR 4 (by omega)
            have h5 : (vs 5) = .int .i64 (k : Int) := hR 5 (by omega)
            have h6 : (vs 6) = .pointer (some ⟨g, 0, none⟩) := hR 6 (by omega)
            have h7 : (vs 7) = .pointer (some ⟨g, 0, none⟩) := hR 7 (by omega)
            have h8 : (vs 8) = .pointer (some ⟨g, 0, none⟩) := hR 8 (by omega)
            have h9 : (vs 9) = .slice (some ⟨gd, 0, none⟩) L cap := hR 9 (by omega)
            have h10 : (vs 10) = .pointer (some ⟨g5, 0, none⟩) := hR 10 (by omega)
            have h11 : (vs 11) = .int .i64 (k : Int) := hR 11 (by omega)
            have h12 : (vs 12) = .pointer (some ⟨gd, k * 64, none⟩) := hR 12 (by omega)
            have h13 : (vs 13) = .agg (vals old).toArray := hR 13 (by omega)
            have h14 : (vs 14) = .slice (some ⟨gk, 0, none⟩) tl.length c := hR 14 (by omega)
            have h15 : (vs 15) = .agg #[.int .i64 (k : Int), .int .i64 tm.writes, .int .i64 tm.bytes] := hR 15 (by omega)
            have h16 : (vs 16) = .agg (vals SV).toArray := hR 16 (by omega)
            clear hR
            simp only [List.range_succ, List.range_zero, List.nil_append, List.cons_append, Roll.putD, Act.put, List.getD_cons_zero, List.getD_cons_succ, List.setIfInBounds_toArray, List.set_cons_zero, List.set_cons_succ, List.drop_succ_cons, List.drop_zero, Drs5]
            simp only [h0, h1, h2, h3, h4, h5, h6, h7, h8, h9, h10, h11, h12, h13, h14, h15, h16]
            clear h0 h1 h2 h3 h4 h5 h6 h7 h8 h9 h10 h11 h12 h13 h14 h15 h16
            have P5K := Lib.hid hI
            have PTH : Hid (p.there gd (k * 64) 64) := Lib.hid (fun j hj => by
              obtain ⟨h1, h2⟩ := PT.out j hj
              exact ⟨by rw [hI.cell (p := ⟨gd, k * 64 + j, none⟩) Hgd5.out (fun h => h)]; exact h1, by rw [hI.frozen (p := ⟨gd, k * 64 + j, none⟩) Hgd5.out (fun h => h)]; exact h2⟩)
            clear hI
            have hkL := HkL.out
            have hLc := HLc.out
            go_upto_region 6 with (refine wpList_store_mid rfl 94 (.tmp 43) (.tmp 42) rfl gd (k * 64) _ rfl rfl (by rw [List.size_toArray, vals_len, HSV64.out]; exact PTH.out) (size64a HSV64.out) (one64 _) ?_)
            obtain ⟨w6, hw6⟩ : ∃ w6, w6 = p.setCells gd (k * 64) (vals SV) := ⟨_, rfl⟩
            rw [← hw6]
            have D5 := HDi.out.kept (HKq.out.trans P5K.out (fun _ _ h => h)) (fun _ _ h => h)
            have hcut : ∀ p3, Kept (fun _ => False) w6 p3 → _ := fun p3 h3 => D5.cut HkS.out HSV64.out (p := p3) (by rw [← hw6]; exact h3)
            have HCut := Lib.hid hcut
            have K6 : Kept (fun j => j = gd) p w6 := by rw [hw6]; exact Kept.setCells _ _ (Kept.refl _ _) (fun _ => rfl)
            have W1 : Hid (w6.cell? ⟨g, 1, none⟩ = some (.map (some gm))) := Lib.hid ((K6.cell (Nat.lt_of_lt_of_le HgQ.out P5K.out.size) Hne.out.1).trans ((P5K.out.cell HgQ.out (fun h => h)).trans Q1.out))
            have W5 : Hid (w6.cell? ⟨g5, 0, none⟩ = some (.int .i64 (k : Int))) := Lib.hid ((K6.cell (Nat.lt_of_lt_of_le H5Q.out P5K.out.size) Hne5.out).trans ((P5K.out.cell H5Q.out (fun h => h)).trans P5.out))
            have HgW : Hid (g < w6.heap.size) := Lib.hid (Nat.lt_of_lt_of_le (Nat.lt_of_lt_of_le HgQ.out P5K.out.size) K6.size)
            have H5W : Hid (g5 < w6.heap.size) := Lib.hid (Nat.lt_of_lt_of_le (Nat.lt_of_lt_of_le H5Q.out P5K.out.size) K6.size)
            have HK6 := Lib.hid K6
            clear hcut K6 hw6 D5
            obtain ⟨p5, hp5⟩ : ∃ p5, p5 = p := ⟨_, rfl⟩
            rw [← hp5] at HCut P5K HK6
            clear hp5
            refine Roll.region_w 7 61 Drs6 Lrs6 [(0, .pointer (some ⟨g, 0, none⟩)), (5, .pointer (some ⟨g5, 0, none⟩))] 6 [true, true, true, true, true, true, false] (fun p => Kept (fun _ => False) w6 p) (fun vv p => (Dk p g gd gm (rowSet rowi k none) N ⟨(DM.torn d.S (ts.take i)).set k [SV], d.on, d.fuse⟩ ∧ Kept (fun j => j = gd ∨ j = gm) p5 p) ∧ Kept (fun j => j = gm) w6 p) (fun p => Kept (fun j => j = gm) w6 p) (fun p p2 => Kept (fun j => j = gm) p p2) [fun vv p => (vv 0) = .pointer (some ⟨g, 0, none⟩), fun vv p => (vv 1) = .pointer (some ⟨g, 0, none⟩), fun vv p => (vv 2) = .pointer (some ⟨g, 1, none⟩), fun vv p => (vv 3) = .map (some gm), fun vv p => (vv 4) = .pointer (some ⟨g5, 0, none⟩), fun vv p => (vv 5) = .int .i64 (k : Int), fun vv p => True] (by kernel_rfl) (by kernel_rfl) rfl ⟨rfl, rfl, trivial⟩ ((Kept.refl _ _).drew) (by decide) (by kernel_rfl) (fun _ h => h.mono (fun _ _ h => h.elim)) (fun _ _ h => h.2) (fun _ => Kept.refl _ _) ?_ ?_ ?_
            · exact ⟨fun _ _ _ _ h => h, fun _ _ _ _ h => h, fun _ _ _ _ h => h, fun _ _ _ _ h => h, fun _ _ _ _ h => h, fun _ _ _ _ h => h, fun _ _ _ _ h => h, trivial⟩
            · intro b0 hN hlv
              refine ⟨?_, ?_, ?_, ?_, ?_, ?_, ?_, trivial⟩
              · intro vs p hI0 hp
                have hI := Roll.inw_pure (by decide) rfl hI0
                clear hI0
                have e0 : (Roll.putD Drs6 vs [] b0).eval (.tmp 0) = .pointer (some ⟨g, 0, none⟩) := (Roll.eval_old rfl).trans (hlv.at 0 (0, .pointer (some ⟨g, 0, none⟩)) rfl)
                clear hp hlv hN
                unfold Roll.Goes
                simp only [Lrs6, List.getD_cons_zero, List.getD_cons_succ]
                generalize Roll.putD Drs6 vs [] b0 = a1 at *
                refine Roll.goes_val (w' := p) (.pointer (some ⟨g, 0, none⟩)) rfl ?_ ⟨(Roll.outw_pure (by decide) rfl), rfl⟩
                (have ec : ∀ x, a1.eval (.const x) = x := fun _ => rfl); (have ef : ∀ x, a1.eval (.func x) = .func (.func x) #[] #[] := fun _ => rfl); generalize a1.eval = ρ at *
                skip
                go_simp <;> (intros; first | (exfalso; omega) | rfl)
              · intro vs p hI0 hp
                have hI := Roll.inw_pure (by decide) rfl hI0
                clear hI0
                have h0 : (vs 0) = .pointer (some ⟨g, 0, none⟩) := hp 0 (by simp [Lrs6])
                have e44 : (Roll.putD Drs6 vs [0] b0).eval (.tmp 44) = .pointer (some ⟨g, 0, none⟩) := (Roll.eval_new 0 rfl (by decide) (by decide) (by omega)).trans h0
                clear hp hlv hN
                unfold Roll.Goes
                simp only [Lrs6, List.getD_cons_zero, List.getD_cons_succ]
                generalize Roll.putD Drs6 vs [0] b0 = a1 at *
                refine Roll.goes_val (w' := p) (.pointer (some ⟨g, 0, none⟩)) rfl ?_ ⟨(Roll.outw_pure (by decide) rfl), rfl⟩
                (have ec : ∀ x, a1.eval (.const x) = x := fun _ => rfl); (have ef : ∀ x, a1.eval (.func x) = .func (.func x) #[] #[] := fun _ => rfl); generalize a1.eval = ρ at *
                clear h0
                go_simp <;> (intros; first | (exfalso; omega) | rfl)
              · intro vs p hI0 hp
                have hI := Roll.inw_pure (by decide) rfl hI0
                clear hI0
                have h1 : (vs 1) = .pointer (some ⟨g, 0, none⟩) := hp 1 (by simp [Lrs6])
                have e45 : (Roll.putD Drs6 vs [1] b0).eval (.tmp 45) = .pointer (some ⟨g, 0, none⟩) := (Roll.eval_new 1 rfl (by decide) (by decide) (by omega)).trans h1
                clear hp hlv hN
                unfold Roll.Goes
                simp only [Lrs6, List.getD_cons_zero, List.getD_cons_succ]
                generalize Roll.putD Drs6 vs [1] b0 = a1 at *
                refine Roll.goes_val (w' := p) (.pointer (some ⟨g, 1, none⟩)) rfl ?_ ⟨(Roll.outw_pure (by decide) rfl), rfl⟩
                (have ec : ∀ x, a1.eval (.const x) = x := fun _ => rfl); (have ef : ∀ x, a1.eval (.func x) = .func (.func x) #[] #[] := fun _ => rfl); generalize a1.eval = ρ at *
                clear h1
                go_simp <;> (intros; first | (exfalso; omega) | rfl)
              · intro vs p hI0 hp
                have hI := Roll.inw_pure (by decide) rfl hI0
                clear hI0
                have h2 : (vs 2) = .pointer (some ⟨g, 1, none⟩) := hp 2 (by simp [Lrs6])
                have e46 : (Roll.putD Drs6 vs [2] b0).eval (.tmp 46) = .pointer (some ⟨g, 1, none⟩) := (Roll.eval_new 2 rfl (by decide) (by decide) (by omega)).trans h2
                clear hp hlv hN
                unfold Roll.Goes
                simp only [Lrs6, List.getD_cons_zero, List.getD_cons_succ]
                generalize Roll.putD Drs6 vs [2] b0 = a1 at *
                have c1p : p.cell? ⟨g, 1, none⟩ = some (.map (some gm)) := (hI.cell HgW.out Hne.out.2).trans W1.out
                refine Roll.goes_val (w' := p) (.map (some gm)) rfl ?_ ⟨(Roll.outw_pure (by decide) rfl), rfl⟩
                (have ec : ∀ x, a1.eval (.const x) = x := fun _ => rfl); (have ef : ∀ x, a1.eval (.func x) = .func (.func x) #[] #[] := fun _ => rfl); generalize a1.eval = ρ at *
                clear h2
                go_simp <;> (intros; first | (exfalso; omega) | rfl)
              · intro vs p hI0 hp
                have hI := Roll.inw_pure (by decide) rfl hI0
                clear hI0
                have e5 : (Roll.putD Drs6 vs [] b0).eval (.tmp 5) = .pointer (some ⟨g5, 0, none⟩) := (Roll.eval_old rfl).trans (hlv.at 1 (5, .pointer (some ⟨g5, 0, none⟩)) rfl)
                clear hp hlv hN
                unfold Roll.Goes
                simp only [Lrs6, List.getD_cons_zero, List.getD_cons_succ]
                generalize Roll.putD Drs6 vs [] b0 = a1 at *
                refine Roll.goes_val (w' := p) (.pointer (some ⟨g5, 0, none⟩)) rfl ?_ ⟨(Roll.outw_pure (by decide) rfl), rfl⟩
                (have ec : ∀ x, a1.eval (.const x) = x := fun _ => rfl); (have ef : ∀ x, a1.eval (.func x) = .func (.func x) #[] #[] := fun _ => rfl); generalize a1.eval = ρ at *
                skip
                go_simp <;> (intros; first | (exfalso; omega) | rfl)
              · intro vs p hI0 hp
                have hI := Roll.inw_pure (by decide) rfl hI0
                clear hI0
                have h4 : (vs 4) = .pointer (some ⟨g5, 0, none⟩) := hp 4 (by simp [Lrs6])
                have e48 : (Roll.putD Drs6 vs [4] b0).eval (.tmp 48) = .pointer (some ⟨g5, 0, none⟩) := (Roll.eval_new 4 rfl (by decide) (by decide) (by omega)).trans h4
                clear hp hlv hN
                unfold Roll.Goes
                simp only [Lrs6, List.getD_cons_zero, List.getD_cons_succ]
                generalize Roll.putD Drs6 vs [4] b0 = a1 at *
                have c5p : p.cell? ⟨g5, 0, none⟩ = some (.int .i64 (k : Int)) := (hI.cell H5W.out Hne5m.out).trans W5.out
                refine Roll.goes_val (w' := p) (.int .i64 (k : Int)) rfl ?_ ⟨(Roll.outw_pure (by decide) rfl), rfl⟩
                (have ec : ∀ x, a1.eval (.const x) = x := fun _ => rfl); (have ef : ∀ x, a1.eval (.func x) = .func (.func x) #[] #[] := fun _ => rfl); generalize a1.eval = ρ at *
                clear h4
                go_simp <;> (intros; first | (exfalso; omega) | rfl)
              · intro vs p hI0 hp
                have hI := Roll.inw_k0 rfl hI0
                clear hI0
                have h3 : (vs 3) = .map (some gm) := hp 3 (by simp [Lrs6])
                have h5 : (vs 5) = .int .i64 (k : Int) := hp 5 (by simp [Lrs6])
                have e47 : (Roll.putD Drs6 vs [3, 5] b0).eval (.tmp 47) = .map (some gm) := (Roll.eval_new 3 rfl (by decide) (by decide) (by omega)).trans h3
                have e49 : (Roll.putD Drs6 vs [3, 5] b0).eval (.tmp 49) = .int .i64 (k : Int) := (Roll.eval_new 5 rfl (by decide) (by decide) (by omega)).trans h5
                clear hp hlv hN
                unfold Roll.Goes
                simp only [Lrs6, List.getD_cons_zero, List.getD_cons_succ]
                generalize Roll.putD Drs6 vs [3, 5] b0 = a1 at *
                obtain ⟨p2, hrun, hd2, hk2, hk3⟩ := HCut.out p hI
                refine Roll.goes_val (w' := p2) (.tuple #[]) rfl ?_ ⟨Roll.outw_k0 rfl ⟨⟨hd2, hk2⟩, (hI.mono (fun _ _ h => h.elim)).trans hk3 (fun _ _ h => h)⟩ hk3, trivial⟩
                unfold execOp
                simp only [resolve, invoke, builtin, Sem.run_bind, Sem.run_pure, Result.andThen_ok, List.map_toArray, List.map_cons, List.map_nil, e47, e49, hrun]
            · intro vs p hI hR
              have h0 : (vs 0) = .pointer (some ⟨g, 0, none⟩) := hR 0 (by omega)
              have h1 : (vs 1) = .pointer (some ⟨g, 0, none⟩) := hR 1 (by omega)
              have h2 : (vs 2) = .pointer (some ⟨g, 1, none⟩) := hR 2 (by omega)
              have h3 : (vs 3) = .map (some gm) := hR 3 (by omega)
              have h4 : (vs 4) = .pointer (some ⟨g5, 0, none⟩) := hR 4 (by omega)
              have h5 : (vs 5) = .int .i64 (k : Int) := hR 5 (by omega)
              have h6 : True := hR 6 (by omega)
              clear hR
              simp only [List.range_succ, List.range_zero, List.nil_append, List.cons_append, Roll.putD, Act.put, List.getD_cons_zero, List.getD_cons_succ, List.setIfInBounds_toArray, List.set_cons_zero, List.set_cons_succ, List.drop_succ_cons, List.drop_zero, Drs6]
              simp only [h0, h1, h2, h3, h4, h5]
              clear h0 h1 h2 h3 h4 h5
              obtain ⟨⟨hd2, hk2⟩, hk3⟩ := hI
              have Hd2 := Lib.hid hd2
              have Hk2 := Lib.hid hk2
              clear hd2 hk2 hk3 h6
              go_wp2_with fail
              go_roundw
              case rel =>
                refine ⟨i + 1, by omega, by go_num, rowSet rowi k none, by rw [HTS.out]; exact Hd2.out, HKi.out.trans (((HKq.out.mono (fun _ _ h => h.elim)).trans (P5K.out.mono (fun _ _ h => h.elim)) (fun _ _ h => h)).trans Hk2.out (fun _ _ h => h)) (fun j hj e => by rcases e with e | e; exact .inr (.inl e); exact .inr (.inr (.inl e))), fun j x hx => ?_⟩
                by_cases e : j = k
                · rw [e, rowSet_same] at hx; cases hx
                · rw [rowSet_other _ _ e] at hx; exact HRi.out j x hx
              case measure => simp [intOf]; omega
      · have hx : ∀ (k : Nat) (hk : k < (DM.torn d.S (ts.take i)).length), tm.sector = (k : Int) → (DM.torn d.S (ts.take i))[k].tail = [] := fun k hk hs => Classical.byContradiction fun hn => hx ⟨k, hk, hs, hn⟩
        have hTS : DM.torn d.S (ts.take (i + 1)) = DM.torn d.S (ts.take i) := by rw [htk]; exact torn_skip (fun s hs => (HOK.out.2.2.2 s hs).1) _ _ hx
        have HTS := Lib.hid hTS
        have Q5 := Lib.hid hq5
        have HLK := Lib.hid (fun p hp => hDi.lookNo tm.sector htok.1 htok.2 hx (fun _ => False) p (fun h => h) (hKq.trans hp (fun _ _ h => h)))
        clear hDi n1 n2 n3 n4 hlti hDb hbw hrb hil hr3 htm htok htk hg5 hq hKq hq5r hq5 hc1 hc2 c0 c1 hx hTS
        go_upto_region 3 with (first
          | (refine wpList_load_mid rfl 67 (.tmp 12) rfl b (off + i * 3) rfl _ _ Hr3.out Try.underlying67 rfl (by kernel_rfl) ?_)
          | (refine wpList_alloc_z rfl 67 rfl _ 67 run_alloc67 ?_)
          | (refine wpList_store_row rfl 67 (.tmp 5) (.tmp 13) rfl wr.heap.size _ rfl rfl 67 _ (heap_new rfl) (by kernel_rfl) rfl (by simp [Value.oneCell']) ?_))
        rw [← Hq.out, ← Hg5.out]
        refine Roll.region_f 12 61 Drsn Lrsn [(0, .pointer (some ⟨g, 0, none⟩)), (5, .pointer (some ⟨g5, 0, none⟩))] (fun p => Kept (fun _ => False) q p) (fun p p2 => Kept (fun _ => False) p p2) [fun vv p => vv = .pointer (some ⟨g, 0, none⟩), fun vv p => vv = .pointer (some ⟨g, 0, none⟩), fun vv p => vv = .pointer (some ⟨g, 1, none⟩), fun vv p => vv = .map (some gm), fun vv p => vv = .pointer (some ⟨g5, 0, none⟩), fun vv p => vv = .int .i64 tm.sector, fun vv p => vv = .tuple #[.slice none 0 0, .bool false], fun vv p => vv = .tuple #[.slice none 0 0, .bool false], fun vv p => vv = .slice none 0 0, fun vv p => vv = .bool false, fun vv p => vv = .slice none 0 0, fun vv p => vv = .bool false] (by kernel_rfl) (by kernel_rfl) rfl ⟨rfl, rfl, trivial⟩ ((Kept.refl _ _).drew) ?_ ?_ ?_
        · exact ⟨fun _ _ _ _ h => h, fun _ _ _ _ h => h, fun _ _ _ _ h => h, fun _ _ _ _ h => h, fun _ _ _ _ h => h, fun _ _ _ _ h => h, fun _ _ _ _ h => h, fun _ _ _ _ h => h, fun _ _ _ _ h => h, fun _ _ _ _ h => h, fun _ _ _ _ h => h, fun _ _ _ _ h => h, trivial⟩
        · intro b0 hN hlv
          refine ⟨?_, ?_, ?_, ?_, ?_, ?_, ?_, ?_, ?_, ?_, ?_, ?_, trivial⟩
          · intro vs p hI hp
            have e0 : (Roll.putD Drsn vs [] b0).eval (.tmp 0) = .pointer (some ⟨g, 0, none⟩) := (Roll.eval_old rfl).trans (hlv.at 0 (0, .pointer (some ⟨g, 0, none⟩)) rfl)
            clear hp hlv hN
            unfold Roll.Goes
            simp only [Lrsn, List.getD_cons_zero, List.getD_cons_succ]
            generalize Roll.putD Drsn vs [] b0 = a1 at *
            refine Roll.goes_val (w' := p) (.pointer (some ⟨g, 0, none⟩)) rfl ?_ ⟨hI, Kept.refl _ _, rfl⟩
            (have ec : ∀ x, a1.eval (.const x) = x := fun _ => rfl); (have ef : ∀ x, a1.eval (.func x) = .func (.func x) #[] #[] := fun _ => rfl); generalize a1.eval = ρ at *
            skip
            go_simp <;> (intros; first | (exfalso; omega) | rfl)
          · intro vs p hI hp
            have h0 : (vs 0) = .pointer (some ⟨g, 0, none⟩) := hp 0 (by simp [Lrsn])
            have e15 : (Roll.putD Drsn vs [0] b0).eval (.tmp 15) = .pointer (some ⟨g, 0, none⟩) := (Roll.eval_new 0 rfl (by decide) (by decide) (by omega)).trans h0
            clear hp hlv hN
            unfold Roll.Goes
            simp only [Lrsn, List.getD_cons_zero, List.getD_cons_succ]
            generalize Roll.putD Drsn vs [0] b0 = a1 at *
            refine Roll.goes_val (w' := p) (.pointer (some ⟨g, 0, none⟩)) rfl ?_ ⟨hI, Kept.refl _ _, rfl⟩
            (have ec : ∀ x, a1.eval (.const x) = x := fun _ => rfl); (have ef : ∀ x, a1.eval (.func x) = .func (.func x) #[] #[] := fun _ => rfl); generalize a1.eval = ρ at *
            clear h0
            go_simp <;> (intros; first | (exfalso; omega) | rfl)
          · intro vs p hI hp
            have h1 : (vs 1) = .pointer (some ⟨g, 0, none⟩) := hp 1 (by simp [Lrsn])
            have e16 : (Roll.putD Drsn vs [1] b0).eval (.tmp 16) = .pointer (some ⟨g, 0, none⟩) := (Roll.eval_new 1 rfl (by decide) (by decide) (by omega)).trans h1
            clear hp hlv hN
            unfold Roll.Goes
            simp only [Lrsn, List.getD_cons_zero, List.getD_cons_succ]
            generalize Roll.putD Drsn vs [1] b0 = a1 at *
            refine Roll.goes_val (w' := p) (.pointer (some ⟨g, 1, none⟩)) rfl ?_ ⟨hI, Kept.refl _ _, rfl⟩
            (have ec : ∀ x, a1.eval (.const x) = x := fun _ => rfl); (have ef : ∀ x, a1.eval (.func x) = .func (.func x) #[] #[] := fun _ => rfl); generalize a1.eval = ρ at *
            clear h1
            go_simp <;> (intros; first | (exfalso; omega) | rfl)
          · intro vs p hI hp
            have h2 : (vs 2) = .pointer (some ⟨g, 1, none⟩) := hp 2 (by simp [Lrsn])
            have e17 : (Roll.putD Drsn vs [2] b0).eval (.tmp 17) = .pointer (some ⟨g, 1, none⟩) := (Roll.eval_new 2 rfl (by decide) (by decide) (by omega)).trans h2
            clear hp hlv hN
            unfold Roll.Goes
            simp only [Lrsn, List.getD_cons_zero, List.getD_cons_succ]
            generalize Roll.putD Drsn vs [2] b0 = a1 at *
            have c1p : p.cell? ⟨g, 1, none⟩ = some (.map (some gm)) := (hI.cell HgQ.out (fun h => h)).trans Q1.out
            refine Roll.goes_val (w' := p) (.map (some gm)) rfl ?_ ⟨hI, Kept.refl _ _, rfl⟩
            (have ec : ∀ x, a1.eval (.const x) = x := fun _ => rfl); (have ef : ∀ x, a1.eval (.func x) = .func (.func x) #[] #[] := fun _ => rfl); generalize a1.eval = ρ at *
            clear h2
            go_simp <;> (intros; first | (exfalso; omega) | rfl)
          · intro vs p hI hp
            have e5 : (Roll.putD Drsn vs [] b0).eval (.tmp 5) = .pointer (some ⟨g5, 0, none⟩) := (Roll.eval_old rfl).trans (hlv.at 1 (5, .pointer (some ⟨g5, 0, none⟩)) rfl)
            clear hp hlv hN
            unfold Roll.Goes
            simp only [Lrsn, List.getD_cons_zero, List.getD_cons_succ]
            generalize Roll.putD Drsn vs [] b0 = a1 at *
            refine Roll.goes_val (w' := p) (.pointer (some ⟨g5, 0, none⟩)) rfl ?_ ⟨hI, Kept.refl _ _, rfl⟩
            (have ec : ∀ x, a1.eval (.const x) = x := fun _ => rfl); (have ef : ∀ x, a1.eval (.func x) = .func (.func x) #[] #[] := fun _ => rfl); generalize a1.eval = ρ at *
            skip
            go_simp <;> (intros; first | (exfalso; omega) | rfl)
          · intro vs p hI hp
            have h4 : (vs 4) = .pointer (some ⟨g5, 0, none⟩) := hp 4 (by simp [Lrsn])
            have e19 : (Roll.putD Drsn vs [4] b0).eval (.tmp 19) = .pointer (some ⟨g5, 0, none⟩) := (Roll.eval_new 4 rfl (by decide) (by decide) (by omega)).trans h4
            clear hp hlv hN
            unfold Roll.Goes
            simp only [Lrsn, List.getD_cons_zero, List.getD_cons_succ]
            generalize Roll.putD Drsn vs [4] b0 = a1 at *
            have c5p : p.cell? ⟨g5, 0, none⟩ = some (.int .i64 tm.sector) := (hI.cell H5Q.out (fun h => h)).trans Q5.out
            refine Roll.goes_val (w' := p) (.int .i64 tm.sector) rfl ?_ ⟨hI, Kept.refl _ _, rfl⟩
            (have ec : ∀ x, a1.eval (.const x) = x := fun _ => rfl); (have ef : ∀ x, a1.eval (.func x) = .func (.func x) #[] #[] := fun _ => rfl); generalize a1.eval = ρ at *
            clear h4
            go_simp <;> (intros; first | (exfalso; omega) | rfl)
          · intro vs p hI hp
            have h3 : (vs 3) = .map (some gm) := hp 3 (by simp [Lrsn])
            have h5 : (vs 5) = .int .i64 tm.sector := hp 5 (by simp [Lrsn])
            have e18 : (Roll.putD Drsn vs [3, 5] b0).eval (.tmp 18) = .map (some gm) := (Roll.eval_new 3 rfl (by decide) (by decide) (by omega)).trans h3
            have e20 : (Roll.putD Drsn vs [3, 5] b0).eval (.tmp 20) = .int .i64 tm.sector := (Roll.eval_new 5 rfl (by decide) (by decide) (by omega)).trans h5
            clear hp hlv hN
            unfold Roll.Goes
            simp only [Lrsn, List.getD_cons_zero, List.getD_cons_succ]
            generalize Roll.putD Drsn vs [3, 5] b0 = a1 at *
            have hlk := HLK.out p hI
            refine Roll.goes_val (w' := p) (.tuple #[.slice none 0 0, .bool false]) rfl ?_ ⟨hI, Kept.refl _ _, rfl⟩
            (have ec : ∀ x, a1.eval (.const x) = x := fun _ => rfl); (have ef : ∀ x, a1.eval (.func x) = .func (.func x) #[] #[] := fun _ => rfl); generalize a1.eval = ρ at *
            clear h3 h5
            go_simp <;> (intros; first | (exfalso; omega) | rfl)
          · intro vs p hI hp
            have h6 : (vs 6) = .tuple #[.slice none 0 0, .bool false] := hp 6 (by simp [Lrsn])
            have e21 : (Roll.putD Drsn vs [6] b0).eval (.tmp 21) = .tuple #[.slice none 0 0, .bool false] := (Roll.eval_new 6 rfl (by decide) (by decide) (by omega)).trans h6
            clear hp hlv hN
            unfold Roll.Goes
            simp only [Lrsn, List.getD_cons_zero, List.getD_cons_succ]
            generalize Roll.putD Drsn vs [6] b0 = a1 at *
            refine Roll.goes_val (w' := p) (.tuple #[.slice none 0 0, .bool false]) rfl ?_ ⟨hI, Kept.refl _ _, rfl⟩
            (have ec : ∀ x, a1.eval (.const x) = x := fun _ => rfl); (have ef : ∀ x, a1.eval (.func x) = .func (.func x) #[] #[] := fun _ => rfl); generalize a1.eval = ρ at *
            clear h6
            go_simp <;> (intros; first | (exfalso; omega) | rfl)
          · intro vs p hI hp
            have h7 : (vs 7) = .tuple #[.slice none 0 0, .bool false] := hp 7 (by simp [Lrsn])
            have e14 : (Roll.putD Drsn vs [7] b0).eval (.tmp 14) = .tuple #[.slice none 0 0, .bool false] := (Roll.eval_new 7 rfl (by decide) (by decide) (by omega)).trans h7
            clear hp hlv hN
            unfold Roll.Goes
            simp only [Lrsn, List.getD_cons_zero, List.getD_cons_succ]
            generalize Roll.putD Drsn vs [7] b0 = a1 at *
            refine Roll.goes_val (w' := p) (.slice none 0 0) rfl ?_ ⟨hI, Kept.refl _ _, rfl⟩
            (have ec : ∀ x, a1.eval (.const x) = x := fun _ => rfl); (have ef : ∀ x, a1.eval (.func x) = .func (.func x) #[] #[] := fun _ => rfl); generalize a1.eval = ρ at *
            clear h7
            go_simp <;> (intros; first | (exfalso; omega) | rfl)
          · intro vs p hI hp
            have h7 : (vs 7) = .tuple #[.slice none 0 0, .bool false] := hp 7 (by simp [Lrsn])
            have e14 : (Roll.putD Drsn vs [7] b0).eval (.tmp 14) = .tuple #[.slice none 0 0, .bool false] := (Roll.eval_new 7 rfl (by decide) (by decide) (by omega)).trans h7
            clear hp hlv hN
            unfold Roll.Goes
            simp only [Lrsn, List.getD_cons_zero, List.getD_cons_succ]
            generalize Roll.putD Drsn vs [7] b0 = a1 at *
            refine Roll.goes_val (w' := p) (.bool false) rfl ?_ ⟨hI, Kept.refl _ _, rfl⟩
            (have ec : ∀ x, a1.eval (.const x) = x := fun _ => rfl); (have ef : ∀ x, a1.eval (.func x) = .func (.func x) #[] #[] := fun _ => rfl); generalize a1.eval = ρ at *
            clear h7
            go_simp <;> (intros; first | (exfalso; omega) | rfl)
          · intro vs p hI hp
            have h8 : (vs 8) = .slice none 0 0 := hp 8 (by simp [Lrsn])
            have e22 : (Roll.putD Drsn vs [8] b0).eval (.tmp 22) = .slice none 0 0 := (Roll.eval_new 8 rfl (by decide) (by decide) (by omega)).trans h8
            clear hp hlv hN
            unfold Roll.Goes
            simp only [Lrsn, List.getD_cons_zero, List.getD_cons_succ]
            generalize Roll.putD Drsn vs [8] b0 = a1 at *
            refine Roll.goes_val (w' := p) (.slice none 0 0) rfl ?_ ⟨hI, Kept.refl _ _, rfl⟩
            (have ec : ∀ x, a1.eval (.const x) = x := fun _ => rfl); (have ef : ∀ x, a1.eval (.func x) = .func (.func x) #[] #[] := fun _ => rfl); generalize a1.eval = ρ at *
            clear h8
            go_simp <;> (intros; first | (exfalso; omega) | rfl)
          · intro vs p hI hp
            have h9 : (vs 9) = .bool false := hp 9 (by simp [Lrsn])
            have e23 : (Roll.putD Drsn vs [9] b0).eval (.tmp 23) = .bool false := (Roll.eval_new 9 rfl (by decide) (by decide) (by omega)).trans h9
            clear hp hlv hN
            unfold Roll.Goes
            simp only [Lrsn, List.getD_cons_zero, List.getD_cons_succ]
            generalize Roll.putD Drsn vs [9] b0 = a1 at *
            refine Roll.goes_val (w' := p) (.bool false) rfl ?_ ⟨hI, Kept.refl _ _, rfl⟩
            (have ec : ∀ x, a1.eval (.const x) = x := fun _ => rfl); (have ef : ∀ x, a1.eval (.func x) = .func (.func x) #[] #[] := fun _ => rfl); generalize a1.eval = ρ at *
            clear h9
            go_simp <;> (intros; first | (exfalso; omega) | rfl)
        · intro vs p hI hR
          have h0 : (vs 0) = .pointer (some ⟨g, 0, none⟩) := hR 0 (by omega)
          have h1 : (vs 1) = .pointer (some ⟨g, 0, none⟩) := hR 1 (by omega)
          have h2 : (vs 2) = .pointer (some ⟨g, 1, none⟩) := hR 2 (by omega)
          have h3 : (vs 3) = .map (some gm) := hR 3 (by omega)
          have h4 : (vs 4) = .pointer (some ⟨g5, 0, none⟩) := hR 4 (by omega)
          have h5 : (vs 5) = .int .i64 tm.sector := hR 5 (by omega)
          have h6 : (vs 6) = .tuple #[.slice none 0 0, .bool false] := hR 6 (by omega)
          have h7 : (vs 7) = .tuple #[.slice none 0 0, .bool false] := hR 7 (by omega)
          have h8 : (vs 8) = .slice none 0 0 := hR 8 (by omega)
          have h9 : (vs 9) = .bool false := hR 9 (by omega)
          have h10 : (vs 10) = .slice none 0 0 := hR 10 (by omega)
          have h11 : (vs 11) = .bool false := hR 11 (by omega)
          clear hR
          simp only [List.range_succ, List.range_zero, List.nil_append, List.cons_append, Roll.putD, Act.put, List.getD_cons_zero, List.getD_cons_succ, List.setIfInBounds_toArray, List.set_cons_zero, List.set_cons_succ, List.drop_succ_cons, List.drop_zero, Drsn]
          simp only [h0, h1, h2, h3, h4, h5, h6, h7, h8, h9, h10, h11]
          clear h0 h1 h2 h3 h4 h5 h6 h7 h8 h9 h10 h11
          have HI3 := Lib.hid hI
          clear hI
          go_wp2_with fail
          go_roundw
          case rel => exact ⟨i + 1, by omega, by go_num, rowi, by rw [HTS.out]; exact HDi.out.kept (HKq.out.trans HI3.out (fun _ _ h => h)) (fun _ _ h => h), HKi.out.trans (HKq.out.trans HI3.out (fun _ _ h => h)) (fun _ _ h => h.elim), HRi.out⟩
          case measure => simp [intOf]; omega
    · obtain rfl : i = n := by omega
      have hDi := HDi.out
      rw [List.take_of_length_le (by have := HT.out.1; omega)] at hDi
      obtain ⟨cap, _, _, _, c1, _, _, f0⟩ := hDi.facts
      obtain ⟨p2, hrun, hd2, hk2, hs2⟩ := hDi.clear
      have hd3 := (hd2.setOnC true).setFuseC 0 (by omega)
      obtain ⟨cap2, _, _, _, _, e2, e3, f02⟩ := hd2.facts
      have f2 := f02 2
      have f3 := f02 3
      simp only at e2 e3
      have Hd3 := Lib.hid hd3
      have Hk2 := Lib.hid hk2
      clear hDi hd2 hd3 hk2 hs2 f0 f02
      go_wp2_with fail
      go_end0
      refine ⟨rfl, Hd3.out, ?_⟩
      refine HKi.out.trans ((Hk2.out.mono (fun j _ e => (.inr (.inr (.inl e)) : Blk g gd gm row j))).trans (kept_two _ _) (fun j _ e => (.inl e : Blk g gd gm row j))) (fun _ _ h => h)
end
end Go.Proofs.Ytbnodhcgdgcebaa

/-
  Texts T0, T1, T2, T3, T4, T5, T6, one behind the other.
-/
import Derived.WalkKit
import Derived.WalkSpells
import Derived.WalkLawsBesides
import Derived.Laws.AppendOwn
import Derived.Laws.OwnMore
import Derived.Deep.AppendSrc
import Derived.Deep.MidRow
import Derived.Lib.Hide
import GoSem.Claim
import Derived.Orders
import Derived.Tactics
import Derived.Maps.RangeRun
import Derived.Maps.Range
import Derived.Maps.OwnOps
import Derived.Maps.RangeWalk
import Derived.Deep.Cut
import Derived.Deep.RegionWith
import Derived.Deep.DrawnRows
import Derived.StillTailTactics
import Derived.Carry
import Derived.Laws.CopyOwn
import Derived.Lib.AppendZerosOnto
import Derived.Deep.QuietTactic
import Derived.BigQuiet
import Derived.Laws.BytesString
import Derived.Laws.AppendOwnNone
import Derived.Test.YthffegfcgmhppaaRows
import Derived.Test.YthffegfcgmhppaaZJ601
namespace Go.Proofs.Ythffegfcgmhppaa
open Go.RowKit
set_option linter.unusedSimpArgs false
set_option linter.unusedVariables false
def Drs6 : List (Option Tmp) := [some 44, some 45, some 46, some 47, some 48, some 49, none]
def Lrs6 : List (List Nat) := [[], [0], [1], [2], [], [4], [3, 5]]
def Drs5 : List (Option Tmp) := [some 26, some 27, some 28, some 29, some 30, some 31, some 32, some 33, some 34, some 35, some 36, some 37, some 38, some 39, some 40, some 41, some 42, some 43, none]
def Lrs5 : List (List Nat) := [[], [0], [1], [2], [], [4], [], [6], [7], [8], [], [10], [9, 11], [12], [], [], [13, 14, 15], [3, 5], [17, 16]]
def Drsn : List (Option Tmp) := [some 15, some 16, some 17, some 18, some 19, some 20, some 21, some 14, some 22, some 23, some 6, some 7]
def Lrsn : List (List Nat) := [[], [0], [1], [2], [], [4], [3, 5], [6], [7], [7], [8], [9]]
def Drsy : List (Option Tmp) := [some 15, some 16, some 17, some 18, some 19, some 20, some 21, some 14, some 22, some 23, some 6, some 7]
def Lrsy : List (List Nat) := [[], [0], [1], [2], [], [4], [3, 5], [6], [7], [7], [8], [9]]
theorem run_alloc67 (W : World) : (Instr.alloc 96 true (.tuple #[])).run Try.prog W = .ok (.pointer (some ⟨W.heap.size, 0, none⟩)) (W.alloc (.cells #[.int .i64 0, .int .i64 0, .int .i64 0] 96)) := by kernel_rfl
section
variable {w : World} {g gd gm : Nat} {row : Nat → Option Nat} {N : Nat} {d : DM}
theorem Dk.durThere (h : Dk w g gd gm row N d) (k : Nat) (hk : k < d.S.length) {p : World} (hK : Kept (fun _ => False) w p) : p.there gd (k * 64) 64 := by
  obtain ⟨cap, cur, h1, h2, h3, h4, h5, h6⟩ := h.self
  have h2 := hK.heap h2 (fun h => h)
  intro j hj
  have hlt : k * 64 + j < cur.size := by rw [h5]; have := Nat.mul_le_mul_right 64 (show k + 1 ≤ cap by omega); omega
  refine ⟨?_, frozen_of_row p gd _ _ _ h2⟩
  rw [cell_of_row p gd _ _ _ _ h2, Array.getElem?_eq_getElem hlt]
  rfl
set_option maxRecDepth 100000 in
set_option maxHeartbeats 4000000 in
theorem restart_dk (h : Dk w g gd gm row N d) {D : Nat → Prop} {a : Option Addr} {n c : Nat} {ts : List TM} (hT : Ts D w a n c ts) (hD : ∀ j, D j → ¬ Blk g gd gm row j) :
    Calls Try.prog 28 #[.pointer (some ⟨g, 0, none⟩), .slice a n c] w fun e w' => e = .returned (.tuple #[]) ∧ Dk w' g gd gm (fun _ => none) 0 (d.restart ts) ∧ Kept (Blk g gd gm row) w w' := by
  have hnm : n ≤ 9223372036854775807 := by have := hT.2.1.2.1; have := hT.2.1.2.2.1; unfold maxLen at this; omega
  have HOK := Lib.hid h.ok
  have H := Lib.hid h
  have HT := Lib.hid hT
  have HSep := Lib.hid hD
  clear h hT hD
  go_enter Try.func28, Try.ntmps28
  go_wp2_with fail
  go_loopw [10] (fun t wr => ∃ i : Nat, i ≤ n ∧ t = .int .i64 (i : Int) ∧ ∃ rowi, Dk wr g gd gm rowi N ⟨DM.torn d.S (ts.take i), d.on, d.fuse⟩ ∧ Kept (Blk g gd gm row) w wr ∧ ∀ j x, rowi j = some x → row j = some x) (fun t _ => n - (intOf t).toNat)
  case atStart => exact ⟨0, Nat.zero_le _, rfl, row, by rw [List.take_zero, torn_nil]; exact H.out, Kept.refl _ _, fun _ _ h => h⟩
  case round =>
    obtain ⟨i, hi, rfl, rowi, hDi, hKi, hRi⟩ := hrel
    have HDi := Lib.hid hDi
    have HKi := Lib.hid hKi
    have HRi := Lib.hid hRi
    clear hDi hKi hRi
    by_cases hlt : i < n
    · have hDi := HDi.out
      obtain ⟨n1, n2, n3, n4⟩ := hDi.g_ne
      have hlti := hDi.lt
      obtain ⟨b, off, hDb, hbw, rfl, hrb⟩ := (HT.out.kept HKi.out (fun b hb hd => HSep.out b hd)).at (by omega)
      have hil : i < ts.length := by have := HT.out.1; omega
      have hr3 := hrb i hil
      obtain ⟨tm, htm⟩ : ∃ tm, tm = ts[i] := ⟨_, rfl⟩
      have htok : TOk tm := by rw [htm]; exact HT.out.2.2 _ (List.getElem_mem hil)
      rw [← htm] at hr3
      have htk : ts.take (i + 1) = ts.take i ++ [tm] := by rw [List.take_succ_eq_append_getElem hil, htm]
      obtain ⟨g5, hg5⟩ : ∃ g5, g5 = wr.heap.size := ⟨_, rfl⟩
      obtain ⟨q, hq⟩ : ∃ q, q = (wr.alloc (.cells #[.int .i64 0, .int .i64 0, .int .i64 0] 96)).setRow wr.heap.size #[.int .i64 tm.sector, .int .i64 tm.writes, .int .i64 tm.bytes] := ⟨_, rfl⟩
      have hKq : Kept (fun _ => False) wr q := by rw [hq]; exact Kept.of_below _ (below_setRow ((Below.refl _ _).alloc (Nat.le_refl _) _) (Nat.le_refl _) _)
      have hq5r : q.heap[g5]? = some (.cells #[.int .i64 tm.sector, .int .i64 tm.writes, .int .i64 tm.bytes] 96 (0, 0)) := by rw [hq, hg5]; exact setRow_heap _ _ _ _ _ _ (heap_new rfl)
      have hq5 : q.cell? ⟨g5, 0, none⟩ = some (.int .i64 tm.sector) := by rw [cell_of_row _ _ _ _ _ _ hq5r]; rfl
      obtain ⟨cap, hc1, hc2, c0, c1, _, _, _⟩ := hDi.facts
      have HgQ : Hid (g < q.heap.size) := Lib.hid (Nat.lt_of_lt_of_le (hlti g (.inl rfl)) hKq.size)
      have H5Q : Hid (g5 < q.heap.size) := Lib.hid (heap_lt hq5r)
      have Q1 : Hid (q.cell? ⟨g, 1, none⟩ = some (.map (some gm))) := Lib.hid ((hKq.cell (hlti g (.inl rfl)) (fun h => h)).trans c1)
      have Hr3 := Lib.hid hr3
      have Hq := Lib.hid hq
      have HKq := Lib.hid hKq
      have Hg5 := Lib.hid hg5
      have hi2 : (i : Int) < (n : Int) := by omega

      by_cases hx : ∃ (k : Nat) (hk : k < (DM.torn d.S (ts.take i)).length), tm.sector = (k : Int) ∧ (DM.torn d.S (ts.take i))[k].tail ≠ []
      · obtain ⟨k, hkx, hsx, htx⟩ := hx
        obtain ⟨sc, wri, byt⟩ := tm
        simp only at hsx hq5 hq5r hq Hq Hr3
        subst hsx
        obtain ⟨tm, htm2⟩ : ∃ tm : TM, tm = ⟨(k : Int), wri, byt⟩ := ⟨_, rfl⟩
        have ew : wri = tm.writes := by rw [htm2]
        have eb : byt = tm.bytes := by rw [htm2]
        obtain ⟨gk, c, hrk, hown, htc, hc22, hlk⟩ := hDi.lookYes k hkx htx
        obtain ⟨hsne, hsN, hs64⟩ := hDi.ok.2.2.2 _ (List.getElem_mem hkx)
        obtain ⟨tl, htl⟩ : ∃ tl, tl = (DM.torn d.S (ts.take i))[k].tail := ⟨_, rfl⟩
        obtain ⟨old, hold⟩ : ∃ old, old = dur (DM.torn d.S (ts.take i))[k] := ⟨_, rfl⟩
        have hcons : (DM.torn d.S (ts.take i))[k] = old :: tl := by
          rw [hold, htl]
          cases hS : (DM.torn d.S (ts.take i))[k] with
          | nil => exact absurd hS hsne
          | cons x r => rfl
        obtain ⟨SV, hSV⟩ : ∃ SV, SV = surv (old :: tl) wri byt := ⟨_, rfl⟩
        have HTS : Hid (DM.torn d.S (ts.take (i + 1)) = (DM.torn d.S (ts.take i)).set k [SV]) := Lib.hid (by rw [htk, torn_set _ _ k hkx rfl htx, hcons, hSV])
        obtain ⟨hdk, hd64⟩ := hDi.durAt k hkx
        rw [← hold] at hdk hd64
        have HSV64 : Hid (SV.length = 64) := Lib.hid (by rw [hSV, ← hcons]; exact surv_len hsne hs64 _ _)
        have Hold := Lib.hid hd64
        have Htl : Hid (tl ≠ []) := Lib.hid (by rw [htl]; exact htx)
        have Ht64 : Hid (∀ b ∈ tl, b.length = 64) := Lib.hid (fun b hb => hs64 b (by rw [hcons]; exact List.mem_cons_of_mem _ hb))
        rw [← htl] at htc hown
        simp only at hlk
        have Htc := Lib.hid htc
        have Hc2 := Lib.hid hc22
        obtain ⟨c', hsl, _, _, hrr⟩ := hown.secs Ht64.out rfl
        obtain rfl : c = c' := by injection hsl
        have hgkl : gk < wr.heap.size := hlti gk (.inr (.inr (.inr ⟨k, hrk⟩)))
        have HSV : Hid (SV = surv (old :: tl) tm.writes tm.bytes) := Lib.hid (by rw [hSV, ew, eb])
        obtain ⟨L, hL⟩ : ∃ L, L = (DM.torn d.S (ts.take i)).length := ⟨_, rfl⟩
        have hkL0 : k < L := by rw [hL]; exact hkx
        have HkL : Hid ((k : Int) < (L : Int)) := Lib.hid (by omega)
        have HLc : Hid (L ≤ cap ∧ cap ≤ 9223372036854775807 ∧ L ≤ 4096) := Lib.hid ⟨by rw [hL]; exact hc1, hc2, by rw [hL]; exact hDi.ok.2.1⟩
        have HkS := Lib.hid hkx
        simp only at c0
        rw [← hL] at c0
        have Q0 : Hid (q.cell? ⟨g, 0, none⟩ = some (.slice (some ⟨gd, 0, none⟩) L cap)) := Lib.hid ((hKq.cell (hlti g (.inl rfl)) (fun h => h)).trans c0)
        have HgdQ : Hid (gd < q.heap.size) := Lib.hid (Nat.lt_of_lt_of_le (hlti gd (.inr (.inl rfl))) hKq.size)
        have HgkQ : Hid (gk < q.heap.size) := Lib.hid (Nat.lt_of_lt_of_le hgkl hKq.size)
        have QD : Hid (q.rangeAt gd (k * 64) (vals old)) := Lib.hid (fun j v hv => (hKq.cell (p := ⟨gd, k * 64 + j, none⟩) (hlti gd (.inr (.inl rfl))) (fun h => h)).trans (hdk j v hv))
        have QR : Hid (∀ (i : Nat) (hi : i < tl.length), q.rangeAt gk (i * 64) (vals tl[i])) := Lib.hid (fun i hi j v hv => (hKq.cell (p := ⟨gk, i * 64 + j, none⟩) hgkl (fun h => h)).trans (hrr i hi j v hv))
        have QT : Hid (q.there gd (k * 64) 64) := Lib.hid (hDi.durThere k hkx hKq)
        have Q5 : Hid (q.cell? ⟨g5, 0, none⟩ = some (.int .i64 (k : Int))) := Lib.hid hq5
        have Q5r : Hid (q.heap[g5]? = some (.cells #[.int .i64 (k : Int), .int .i64 tm.writes, .int .i64 tm.bytes] 96 (0, 0))) := Lib.hid (by rw [← ew, ← eb]; exact hq5r)
        have Hne : Hid (¬ g = gd ∧ ¬ g = gm) := Lib.hid ⟨n1, n2⟩
        have Hne5 : Hid (¬ g5 = gd) := Lib.hid (fun e => by have := hlti gd (.inr (.inl rfl)); omega)
        have Hne5m : Hid (¬ g5 = gm) := Lib.hid (fun e => by have := hlti gm (.inr (.inr (.inl rfl))); omega)
        have HLK : Hid (∀ p, Kept (fun _ => False) q p → (Instr.lookup 88 (.map (some gm)) (.int .i64 (k : Int)) true).run Try.prog p = .ok (.tuple #[.slice (some ⟨gk, 0, none⟩) tl.length c, .bool true]) p) := Lib.hid (fun p hp => by rw [htl]; exact hlk (fun _ => False) p (fun h => h) (hKq.trans hp (fun _ _ h => h)))
        rw [ew, eb] at Hq Hr3
        clear hDi n1 n2 n3 n4 hlti hDb hbw hrb hr3 htok htk hg5 hq hKq hq5r hq5 hc1 hc2 c0 c1 hcons hSV hdk hd64 hown hlk htc hc22 hsl hrr hgkl hL hkL0 hrk hsne hsN hs64 htx hold htl htm2 ew eb
        go_upto_region 3 with (first
          | (refine wpList_load_mid rfl 96 (.tmp 12) rfl b (off + i * 3) rfl _ _ Hr3.out Try.underlying96 rfl (by kernel_rfl) ?_)
          | (refine wpList_alloc_z rfl 96 rfl _ 96 run_alloc67 ?_)
          | (refine wpList_store_row rfl 96 (.tmp 5) (.tmp 13) rfl wr.heap.size _ rfl rfl 96 _ (heap_new rfl) (by kernel_rfl) rfl (by simp [Value.oneCell']) ?_))
        rw [← Hq.out, ← Hg5.out]
        refine Roll.region_f 12 61 Drsy Lrsy [(0, .pointer (some ⟨g, 0, none⟩)), (5, .pointer (some ⟨g5, 0, none⟩))] (fun p => Kept (fun _ => False) q p) (fun p p2 => Kept (fun _ => False) p p2) [fun vv p => vv = .pointer (some ⟨g, 0, none⟩), fun vv p => vv = .pointer (some ⟨g, 0, none⟩), fun vv p => vv = .pointer (some ⟨g, 1, none⟩), fun vv p => vv = .map (some gm), fun vv p => vv = .pointer (some ⟨g5, 0, none⟩), fun vv p => vv = .int .i64 (k : Int), fun vv p => vv = .tuple #[.slice (some ⟨gk, 0, none⟩) tl.length c, .bool true], fun vv p => vv = .tuple #[.slice (some ⟨gk, 0, none⟩) tl.length c, .bool true], fun vv p => vv = .slice (some ⟨gk, 0, none⟩) tl.length c, fun vv p => vv = .bool true, fun vv p => vv = .slice (some ⟨gk, 0, none⟩) tl.length c, fun vv p => vv = .bool true] (by kernel_rfl) (by kernel_rfl) rfl ⟨rfl, rfl, trivial⟩ ((Kept.refl _ _).drew) ?_ ?_ ?_
        · exact ⟨fun _ _ _ _ h => h, fun _ _ _ _ h => h, fun _ _ _ _ h => h, fun _ _ _ _ h => h, fun _ _ _ _ h => h, fun _ _ _ _ h => h, fun _ _ _ _ h => h, fun _ _ _ _ h => h, fun _ _ _ _ h => h, fun _ _ _ _ h => h, fun _ _ _ _ h => h, fun _ _ _ _ h => h, trivial⟩
        · intro b0 hN hlv
          refine ⟨?_, ?_, ?_, ?_, ?_, ?_, ?_, ?_, ?_, ?_, ?_, ?_, trivial⟩
          · intro vs p hI hp
            have e0 : (Roll.putD Drsy vs [] b0).eval (.tmp 0) = .pointer (some ⟨g, 0, none⟩) := (Roll.eval_old rfl).trans (hlv.at 0 (0, .pointer (some ⟨g, 0, none⟩)) rfl)
            clear hp hlv hN
            unfold Roll.Goes
            simp only [Lrsy, List.getD_cons_zero, List.getD_cons_succ]
            generalize Roll.putD Drsy vs [] b0 = a1 at *
            refine Roll.goes_val (w' := p) (.pointer (some ⟨g, 0, none⟩)) rfl ?_ ⟨hI, Kept.refl _ _, rfl⟩
            (have ec : ∀ x, a1.eval (.const x) = x := fun _ => rfl); (have ef : ∀ x, a1.eval (.func x) = .func (.func x) #[] #[] := fun _ => rfl); generalize a1.eval = ρ at *
            skip
            go_simp <;> (intros; first | (exfalso; omega) | rfl)
          · intro vs p hI hp
            have h0 : (vs 0) = .pointer (some ⟨g, 0, none⟩) := hp 0 (by simp [Lrsy])
            have e15 : (Roll.putD Drsy vs [0] b0).eval (.tmp 15) = .pointer (some ⟨g, 0, none⟩) := (Roll.eval_new 0 rfl (by decide) (by decide) (by omega)).trans h0
            clear hp hlv hN
            unfold Roll.Goes
            simp only [Lrsy, List.getD_cons_zero, List.getD_cons_succ]
            generalize Roll.putD Drsy vs [0] b0 = a1 at *
            refine Roll.goes_val (w' := p) (.pointer (some ⟨g, 0, none⟩)) rfl ?_ ⟨hI, Kept.refl _ _, rfl⟩
            (have ec : ∀ x, a1.eval (.const x) = x := fun _ => rfl); (have ef : ∀ x, a1.eval (.func x) = .func (.func x) #[] #[] := fun _ => rfl); generalize a1.eval = ρ at *
            clear h0
            go_simp <;> (intros; first | (exfalso; omega) | rfl)
          · intro vs p hI hp
            have h1 : (vs 1) = .pointer (some ⟨g, 0, none⟩) := hp 1 (by simp [Lrsy])
            have e16 : (Roll.putD Drsy vs [1] b0).eval (.tmp 16) = .pointer (some ⟨g, 0, none⟩) := (Roll.eval_new 1 rfl (by decide) (by decide) (by omega)).trans h1
            clear hp hlv hN
            unfold Roll.Goes
            simp only [Lrsy, List.getD_cons_zero, List.getD_cons_succ]
            generalize Roll.putD Drsy vs [1] b0 = a1 at *
            refine Roll.goes_val (w' := p) (.pointer (some ⟨g, 1, none⟩)) rfl ?_ ⟨hI, Kept.refl _ _, rfl⟩
            (have ec : ∀ x, a1.eval (.const x) = x := fun _ => rfl); (have ef : ∀ x, a1.eval (.func x) = .func (.func x) #[] #[] := fun _ => rfl); generalize a1.eval = ρ at *
            clear h1
            go_simp <;> (intros; first | (exfalso; omega) | rfl)
          · intro vs p hI hp
            have h2 : (vs 2) = .pointer (some ⟨g, 1, none⟩) := hp 2 (by simp [Lrsy])
            have e17 : (Roll.putD Drsy vs [2] b0).eval (.tmp 17) = .pointer (some ⟨g, 1, none⟩) := (Roll.eval_new 2 rfl (by decide) (by decide) (by omega)).trans h2
            clear hp hlv hN
            unfold Roll.Goes
            simp only [Lrsy, List.getD_cons_zero, List.getD_cons_succ]
            generalize Roll.putD Drsy vs [2] b0 = a1 at *
            have c1p : p.cell? ⟨g, 1, none⟩ = some (.map (some gm)) := (hI.cell HgQ.out (fun h => h)).trans Q1.out
            refine Roll.goes_val (w' := p) (.map (some gm)) rfl ?_ ⟨hI, Kept.refl _ _, rfl⟩
            (have ec : ∀ x, a1.eval (.const x) = x := fun _ => rfl); (have ef : ∀ x, a1.eval (.func x) = .func (.func x) #[] #[] := fun _ => rfl); generalize a1.eval = ρ at *
            clear h2
            go_simp <;> (intros; first | (exfalso; omega) | rfl)
          · intro vs p hI hp
            have e5 : (Roll.putD Drsy vs [] b0).eval (.tmp 5) = .pointer (some ⟨g5, 0, none⟩) := (Roll.eval_old rfl).trans (hlv.at 1 (5, .pointer (some ⟨g5, 0, none⟩)) rfl)
            clear hp hlv hN
            unfold Roll.Goes
            simp only [Lrsy, List.getD_cons_zero, List.getD_cons_succ]
            generalize Roll.putD Drsy vs [] b0 = a1 at *
            refine Roll.goes_val (w' := p) (.pointer (some ⟨g5, 0, none⟩)) rfl ?_ ⟨hI, Kept.refl _ _, rfl⟩
            (have ec : ∀ x, a1.eval (.const x) = x := fun _ => rfl); (have ef : ∀ x, a1.eval (.func x) = .func (.func x) #[] #[] := fun _ => rfl); generalize a1.eval = ρ at *
            skip
            go_simp <;> (intros; first | (exfalso; omega) | rfl)
          · intro vs p hI hp
            have h4 : (vs 4) = .pointer (some ⟨g5, 0, none⟩) := hp 4 (by simp [Lrsy])
            have e19 : (Roll.putD Drsy vs [4] b0).eval (.tmp 19) = .pointer (some ⟨g5, 0, none⟩) := (Roll.eval_new 4 rfl (by decide) (by decide) (by omega)).trans h4
            clear hp hlv hN
            unfold Roll.Goes
            simp only [Lrsy, List.getD_cons_zero, List.getD_cons_succ]
            generalize Roll.putD Drsy vs [4] b0 = a1 at *
            have c5p : p.cell? ⟨g5, 0, none⟩ = some (.int .i64 (k : Int)) := (hI.cell H5Q.out (fun h => h)).trans Q5.out
            refine Roll.goes_val (w' := p) (.int .i64 (k : Int)) rfl ?_ ⟨hI, Kept.refl _ _, rfl⟩
            (have ec : ∀ x, a1.eval (.const x) = x := fun _ => rfl); (have ef : ∀ x, a1.eval (.func x) = .func (.func x) #[] #[] := fun _ => rfl); generalize a1.eval = ρ at *
            clear h4
            go_simp <;> (intros; first | (exfalso; omega) | rfl)
          · intro vs p hI hp
            have h3 : (vs 3) = .map (some gm) := hp 3 (by simp [Lrsy])
            have h5 : (vs 5) = .int .i64 (k : Int) := hp 5 (by simp [Lrsy])
            have e18 : (Roll.putD Drsy vs [3, 5] b0).eval (.tmp 18) = .map (some gm) := (Roll.eval_new 3 rfl (by decide) (by decide) (by omega)).trans h3
            have e20 : (Roll.putD Drsy vs [3, 5] b0).eval (.tmp 20) = .int .i64 (k : Int) := (Roll.eval_new 5 rfl (by decide) (by decide) (by omega)).trans h5
            clear hp hlv hN
            unfold Roll.Goes
            simp only [Lrsy, List.getD_cons_zero, List.getD_cons_succ]
            generalize Roll.putD Drsy vs [3, 5] b0 = a1 at *
            have hlk := HLK.out p hI
            refine Roll.goes_val (w' := p) (.tuple #[.slice (some ⟨gk, 0, none⟩) tl.length c, .bool true]) rfl ?_ ⟨hI, Kept.refl _ _, rfl⟩
            (have ec : ∀ x, a1.eval (.const x) = x := fun _ => rfl); (have ef : ∀ x, a1.eval (.func x) = .func (.func x) #[] #[] := fun _ => rfl); generalize a1.eval = ρ at *
            clear h3 h5
            go_simp <;> (intros; first | (exfalso; omega) | rfl)
          · intro vs p hI hp
            have h6 : (vs 6) = .tuple #[.slice (some ⟨gk, 0, none⟩) tl.length c, .bool true] := hp 6 (by simp [Lrsy])
            have e21 : (Roll.putD Drsy vs [6] b0).eval (.tmp 21) = .tuple #[.slice (some ⟨gk, 0, none⟩) tl.length c, .bool true] := (Roll.eval_new 6 rfl (by decide) (by decide) (by omega)).trans h6
            clear hp hlv hN
            unfold Roll.Goes
            simp only [Lrsy, List.getD_cons_zero, List.getD_cons_succ]
            generalize Roll.putD Drsy vs [6] b0 = a1 at *
            refine Roll.goes_val (w' := p) (.tuple #[.slice (some ⟨gk, 0, none⟩) tl.length c, .bool true]) rfl ?_ ⟨hI, Kept.refl _ _, rfl⟩
            (have ec : ∀ x, a1.eval (.const x) = x := fun _ => rfl); (have ef : ∀ x, a1.eval (.func x) = .func (.func x) #[] #[] := fun _ => rfl); generalize a1.eval = ρ at *
            clear h6
            go_simp <;> (intros; first | (exfalso; omega) | rfl)
          · intro vs p hI hp
            have h7 : (vs 7) = .tuple #[.slice (some ⟨gk, 0, none⟩) tl.length c, .bool true] := hp 7 (by simp [Lrsy])
            have e14 : (Roll.putD Drsy vs [7] b0).eval (.tmp 14) = .tuple #[.slice (some ⟨gk, 0, none⟩) tl.length c, .bool true] := (Roll.eval_new 7 rfl (by decide) (by decide) (by omega)).trans h7
            clear hp hlv hN
            unfold Roll.Goes
            simp only [Lrsy, List.getD_cons_zero, List.getD_cons_succ]
            generalize Roll.putD Drsy vs [7] b0 = a1 at *
            refine Roll.goes_val (w' := p) (.slice (some ⟨gk, 0, none⟩) tl.length c) rfl ?_ ⟨hI, Kept.refl _ _, rfl⟩
            (have ec : ∀ x, a1.eval (.const x) = x := fun _ => rfl); (have ef : ∀ x, a1.eval (.func x) = .func (.func x) #[] #[] := fun _ => rfl); generalize a1.eval = ρ at *
            clear h7
            go_simp <;> (intros; first | (exfalso; omega) | rfl)
          · intro vs p hI hp
            have h7 : (vs 7) = .tuple #[.slice (some ⟨gk, 0, none⟩) tl.length c, .bool true] := hp 7 (by simp [Lrsy])
            have e14 : (Roll.putD Drsy vs [7] b0).eval (.tmp 14) = .tuple #[.slice (some ⟨gk, 0, none⟩) tl.length c, .bool true] := (Roll.eval_new 7 rfl (by decide) (by decide) (by omega)).trans h7
            clear hp hlv hN
            unfold Roll.Goes
            simp only [Lrsy, List.getD_cons_zero, List.getD_cons_succ]
            generalize Roll.putD Drsy vs [7] b0 = a1 at *
            refine Roll.goes_val (w' := p) (.bool true) rfl ?_ ⟨hI, Kept.refl _ _, rfl⟩
            (have ec : ∀ x, a1.eval (.const x) = x := fun _ => rfl); (have ef : ∀ x, a1.eval (.func x) = .func (.func x) #[] #[] := fun _ => rfl); generalize a1.eval = ρ at *
            clear h7
            go_simp <;> (intros; first | (exfalso; omega) | rfl)
          · intro vs p hI hp
            have h8 : (vs 8) = .slice (some ⟨gk, 0, none⟩) tl.length c := hp 8 (by simp [Lrsy])
            have e22 : (Roll.putD Drsy vs [8] b0).eval (.tmp 22) = .slice (some ⟨gk, 0, none⟩) tl.length c := (Roll.eval_new 8 rfl (by decide) (by decide) (by omega)).trans h8
            clear hp hlv hN
            unfold Roll.Goes
            simp only [Lrsy, List.getD_cons_zero, List.getD_cons_succ]
            generalize Roll.putD Drsy vs [8] b0 = a1 at *
            refine Roll.goes_val (w' := p) (.slice (some ⟨gk, 0, none⟩) tl.length c) rfl ?_ ⟨hI, Kept.refl _ _, rfl⟩
            (have ec : ∀ x, a1.eval (.const x) = x := fun _ => rfl); (have ef : ∀ x, a1.eval (.func x) = .func (.func x) #[] #[] := fun _ => rfl); generalize a1.eval = ρ at *
            clear h8
            go_simp <;> (intros; first | (exfalso; omega) | rfl)
          · intro vs p hI hp
            have h9 : (vs 9) = .bool true := hp 9 (by simp [Lrsy])
            have e23 : (Roll.putD Drsy vs [9] b0).eval (.tmp 23) = .bool true := (Roll.eval_new 9 rfl (by decide) (by decide) (by omega)).trans h9
            clear hp hlv hN
            unfold Roll.Goes
            simp only [Lrsy, List.getD_cons_zero, List.getD_cons_succ]
            generalize Roll.putD Drsy vs [9] b0 = a1 at *
            refine Roll.goes_val (w' := p) (.bool true) rfl ?_ ⟨hI, Kept.refl _ _, rfl⟩
            (have ec : ∀ x, a1.eval (.const x) = x := fun _ => rfl); (have ef : ∀ x, a1.eval (.func x) = .func (.func x) #[] #[] := fun _ => rfl); generalize a1.eval = ρ at *
            clear h9
            go_simp <;> (intros; first | (exfalso; omega) | rfl)
        · intro vs p hI hR
          have h0 : (vs 0) = .pointer (some ⟨g, 0, none⟩) := hR 0 (by omega)
          have h1 : (vs 1) = .pointer (some ⟨g, 0, none⟩) := hR 1 (by omega)
          have h2 : (vs 2) = .pointer (some ⟨g, 1, none⟩) := hR 2 (by omega)
          have h3 : (vs 3) = .map (some gm) := hR 3 (by omega)
          have h4 : (vs 4) = .pointer (some ⟨g5, 0, none⟩) := hR 4 (by omega)
          have h5 : (vs 5) = .int .i64 (k : Int) := hR 5 (by omega)
          have h6 : (vs 6) = .tuple #[.slice (some ⟨gk, 0, none⟩) tl.length c, .bool true] := hR 6 (by omega)
          have h7 : (vs 7) = .tuple #[.slice (some ⟨gk, 0, none⟩) tl.length c, .bool true] := hR 7 (by omega)
          have h8 : (vs 8) = .slice (some ⟨gk, 0, none⟩) tl.length c := hR 8 (by omega)
          have h9 : (vs 9) = .bool true := hR 9 (by omega)
          have h10 : (vs 10) = .slice (some ⟨gk, 0, none⟩) tl.length c := hR 10 (by omega)
          have h11 : (vs 11) = .bool true := hR 11 (by omega)
          clear hR
          simp only [List.range_succ, List.range_zero, List.nil_append, List.cons_append, Roll.putD, Act.put, List.getD_cons_zero, List.getD_cons_succ, List.setIfInBounds_toArray, List.set_cons_zero, List.set_cons_succ, List.drop_succ_cons, List.drop_zero, Drsy]
          simp only [h0, h1, h2, h3, h4, h5, h6, h7, h8, h9, h10, h11]
          clear h0 h1 h2 h3 h4 h5 h6 h7 h8 h9 h10 h11
          have HI3 := Lib.hid hI
          clear hI
          go_upto_region 5 with fail
          have Hg5 : Hid (g < p.heap.size) := Lib.hid (Nat.lt_of_lt_of_le HgQ.out HI3.out.size)
          have H55 : Hid (g5 < p.heap.size) := Lib.hid (Nat.lt_of_lt_of_le H5Q.out HI3.out.size)
          have Hgd5 : Hid (gd < p.heap.size) := Lib.hid (Nat.lt_of_lt_of_le HgdQ.out HI3.out.size)
          have Hgk5 : Hid (gk < p.heap.size) := Lib.hid (Nat.lt_of_lt_of_le HgkQ.out HI3.out.size)
          have P0 : Hid (p.cell? ⟨g, 0, none⟩ = some (.slice (some ⟨gd, 0, none⟩) L cap)) := Lib.hid ((HI3.out.cell HgQ.out (fun h => h)).trans Q0.out)
          have P5 : Hid (p.cell? ⟨g5, 0, none⟩ = some (.int .i64 (k : Int))) := Lib.hid ((HI3.out.cell H5Q.out (fun h => h)).trans Q5.out)
          have P5r : Hid (p.heap[g5]? = some (.cells #[.int .i64 (k : Int), .int .i64 tm.writes, .int .i64 tm.bytes] 96 (0, 0))) := Lib.hid (HI3.out.heap Q5r.out (fun h => h))
          have PD : Hid (p.rangeAt gd (k * 64) (vals old)) := Lib.hid (fun j v hv => (HI3.out.cell (p := ⟨gd, k * 64 + j, none⟩) HgdQ.out (fun h => h)).trans (QD.out j v hv))
          have PR : Hid (∀ (i : Nat) (hi : i < tl.length), p.rangeAt gk (i * 64) (vals tl[i])) := Lib.hid (fun i hi j v hv => (HI3.out.cell (p := ⟨gk, i * 64 + j, none⟩) HgkQ.out (fun h => h)).trans (QR.out i hi j v hv))
          have PT : Hid (p.there gd (k * 64) 64) := Lib.hid (fun j hj => by
            obtain ⟨h1, h2⟩ := QT.out j hj
            exact ⟨by rw [HI3.out.cell (p := ⟨gd, k * 64 + j, none⟩) HgdQ.out (fun h => h)]; exact h1, by rw [HI3.out.frozen (p := ⟨gd, k * 64 + j, none⟩) HgdQ.out (fun h => h)]; exact h2⟩)
          have HKq0 := HKq
          replace HKq : Hid (Kept (fun _ => False) wr p) := Lib.hid (HKq0.out.trans HI3.out (fun _ _ h => h))
          replace Q1 : Hid (p.cell? ⟨g, 1, none⟩ = some (.map (some gm))) := Lib.hid ((HI3.out.cell HgQ.out (fun h => h)).trans Q1.out)
          clear HgQ H5Q HKq0
          have HgQ := Hg5
          have H5Q := H55
          clear HI3
          rename World => q5
          refine Roll.region_f 17 61 Drs5 Lrs5 [(0, .pointer (some ⟨g, 0, none⟩)), (5, .pointer (some ⟨g5, 0, none⟩)), (6, .slice (some ⟨gk, 0, none⟩) tl.length c)] (fun p => Kept (fun _ => False) q5 p) (fun p p2 => Kept (fun _ => False) p p2) [fun vv p => vv = .pointer (some ⟨g, 0, none⟩), fun vv p => vv = .pointer (some ⟨g, 0, none⟩), fun vv p => vv = .pointer (some ⟨g, 0, none⟩), fun vv p => vv = .slice (some ⟨gd, 0, none⟩) L cap, fun vv p => vv = .pointer (some ⟨g5, 0, none⟩), fun vv p => vv = .int .i64 (k : Int), fun vv p => vv = .pointer (some ⟨g, 0, none⟩), fun vv p => vv = .pointer (some ⟨g, 0, none⟩), fun vv p => vv = .pointer (some ⟨g, 0, none⟩), fun vv p => vv = .slice (some ⟨gd, 0, none⟩) L cap, fun vv p => vv = .pointer (some ⟨g5, 0, none⟩), fun vv p => vv = .int .i64 (k : Int), fun vv p => vv = .pointer (some ⟨gd, k * 64, none⟩), fun vv p => vv = .agg (vals old).toArray, fun vv p => vv = .slice (some ⟨gk, 0, none⟩) tl.length c, fun vv p => vv = .agg #[.int .i64 (k : Int), .int .i64 tm.writes, .int .i64 tm.bytes], fun vv p => vv = .agg (vals SV).toArray] (by kernel_rfl) (by kernel_rfl) rfl ⟨rfl, rfl, rfl, trivial⟩ ((Kept.refl _ _).drew) ?_ ?_ ?_
          · exact ⟨fun _ _ _ _ h => h, fun _ _ _ _ h => h, fun _ _ _ _ h => h, fun _ _ _ _ h => h, fun _ _ _ _ h => h, fun _ _ _ _ h => h, fun _ _ _ _ h => h, fun _ _ _ _ h => h, fun _ _ _ _ h => h, fun _ _ _ _ h => h, fun _ _ _ _ h => h, fun _ _ _ _ h => h, fun _ _ _ _ h => h, fun _ _ _ _ h => h, fun _ _ _ _ h => h, fun _ _ _ _ h => h, fun _ _ _ _ h => h, trivial⟩
          · intro b0 hN hlv
            refine ⟨?_, ?_, ?_, ?_, ?_, ?_, ?_, ?_, ?_, ?_, ?_, ?_, ?_, ?_, ?_, ?_, ?_, trivial⟩
            · intro vs p hI hp
              have e0 : (Roll.putD Drs5 vs [] b0).eval (.tmp 0) = .pointer (some ⟨g, 0, none⟩) := (Roll.eval_old rfl).trans (hlv.at 0 (0, .pointer (some ⟨g, 0, none⟩)) rfl)
              clear hp hlv hN
              unfold Roll.Goes
              simp only [Lrs5, List.getD_cons_zero, List.getD_cons_succ]
              generalize Roll.putD Drs5 vs [] b0 = a1 at *
              refine Roll.goes_val (w' := p) (.pointer (some ⟨g, 0, none⟩)) rfl ?_ ⟨hI, Kept.refl _ _, rfl⟩
              (have ec : ∀ x, a1.eval (.const x) = x := fun _ => rfl); (have ef : ∀ x, a1.eval (.func x) = .func (.func x) #[] #[] := fun _ => rfl); generalize a1.eval = ρ at *
              skip
              go_simp <;> (intros; first | (exfalso; omega) | rfl)
            · intro vs p hI hp
              have h0 : (vs 0) = .pointer (some ⟨g, 0, none⟩) := hp 0 (by simp [Lrs5])
              have e26 : (Roll.putD Drs5 vs [0] b0).eval (.tmp 26) = .pointer (some ⟨g, 0, none⟩) := (Roll.eval_new 0 rfl (by decide) (by decide) (by omega)).trans h0
              clear hp hlv hN
              unfold Roll.Goes
              simp only [Lrs5, List.getD_cons_zero, List.getD_cons_succ]
              generalize Roll.putD Drs5 vs [0] b0 = a1 at *
              refine Roll.goes_val (w' := p) (.pointer (some ⟨g, 0, none⟩)) rfl ?_ ⟨hI, Kept.refl _ _, rfl⟩
              (have ec : ∀ x, a1.eval (.const x) = x := fun _ => rfl); (have ef : ∀ x, a1.eval (.func x) = .func (.func x) #[] #[] := fun _ => rfl); generalize a1.eval = ρ at *
              clear h0
              go_simp <;> (intros; first | (exfalso; omega) | rfl)
            · intro vs p hI hp
              have h1 : (vs 1) = .pointer (some ⟨g, 0, none⟩) := hp 1 (by simp [Lrs5])
              have e27 : (Roll.putD Drs5 vs [1] b0).eval (.tmp 27) = .pointer (some ⟨g, 0, none⟩) := (Roll.eval_new 1 rfl (by decide) (by decide) (by omega)).trans h1
              clear hp hlv hN
              unfold Roll.Goes
              simp only [Lrs5, List.getD_cons_zero, List.getD_cons_succ]
              generalize Roll.putD Drs5 vs [1] b0 = a1 at *
              refine Roll.goes_val (w' := p) (.pointer (some ⟨g, 0, none⟩)) rfl ?_ ⟨hI, Kept.refl _ _, rfl⟩
              (have ec : ∀ x, a1.eval (.const x) = x := fun _ => rfl); (have ef : ∀ x, a1.eval (.func x) = .func (.func x) #[] #[] := fun _ => rfl); generalize a1.eval = ρ at *
              clear h1
              go_simp <;> (intros; first | (exfalso; omega) | rfl)
            · intro vs p hI hp
              have h2 : (vs 2) = .pointer (some ⟨g, 0, none⟩) := hp 2 (by simp [Lrs5])
              have e28 : (Roll.putD Drs5 vs [2] b0).eval (.tmp 28) = .pointer (some ⟨g, 0, none⟩) := (Roll.eval_new 2 rfl (by decide) (by decide) (by omega)).trans h2
              clear hp hlv hN
              unfold Roll.Goes
              simp only [Lrs5, List.getD_cons_zero, List.getD_cons_succ]
              generalize Roll.putD Drs5 vs [2] b0 = a1 at *
              have c0p : p.cell? ⟨g, 0, none⟩ = some (.slice (some ⟨gd, 0, none⟩) L cap) := (hI.cell Hg5.out (fun h => h)).trans P0.out
              refine Roll.goes_val (w' := p) (.slice (some ⟨gd, 0, none⟩) L cap) rfl ?_ ⟨hI, Kept.refl _ _, rfl⟩
              (have ec : ∀ x, a1.eval (.const x) = x := fun _ => rfl); (have ef : ∀ x, a1.eval (.func x) = .func (.func x) #[] #[] := fun _ => rfl); generalize a1.eval = ρ at *
              clear h2
              go_simp <;> (intros; first | (exfalso; omega) | rfl)
            · intro vs p hI hp
              have e5 : (Roll.putD Drs5 vs [] b0).eval (.tmp 5) = .pointer (some ⟨g5, 0, none⟩) := (Roll.eval_old rfl).trans (hlv.at 1 (5, .pointer (some ⟨g5, 0, none⟩)) rfl)
              clear hp hlv hN
              unfold Roll.Goes
              simp only [Lrs5, List.getD_cons_zero, List.getD_cons_succ]
              generalize Roll.putD Drs5 vs [] b0 = a1 at *
              refine Roll.goes_val (w' := p) (.pointer (some ⟨g5, 0, none⟩)) rfl ?_ ⟨hI, Kept.refl _ _, rfl⟩
              (have ec : ∀ x, a1.eval (.const x) = x := fun _ => rfl); (have ef : ∀ x, a1.eval (.func x) = .func (.func x) #[] #[] := fun _ => rfl); generalize a1.eval = ρ at *
              skip
              go_simp <;> (intros; first | (exfalso; omega) | rfl)
            · intro vs p hI hp
              have h4 : (vs 4) = .pointer (some ⟨g5, 0, none⟩) := hp 4 (by simp [Lrs5])
              have e30 : (Roll.putD Drs5 vs [4] b0).eval (.tmp 30) = .pointer (some ⟨g5, 0, none⟩) := (Roll.eval_new 4 rfl (by decide) (by decide) (by omega)).trans h4
              clear hp hlv hN
              unfold Roll.Goes
              simp only [Lrs5, List.getD_cons_zero, List.getD_cons_succ]
              generalize Roll.putD Drs5 vs [4] b0 = a1 at *
              have c5p : p.cell? ⟨g5, 0, none⟩ = some (.int .i64 (k : Int)) := (hI.cell H55.out (fun h => h)).trans P5.out
              refine Roll.goes_val (w' := p) (.int .i64 (k : Int)) rfl ?_ ⟨hI, Kept.refl _ _, rfl⟩
              (have ec : ∀ x, a1.eval (.const x) = x := fun _ => rfl); (have ef : ∀ x, a1.eval (.func x) = .func (.func x) #[] #[] := fun _ => rfl); generalize a1.eval = ρ at *
              clear h4
              go_simp <;> (intros; first | (exfalso; omega) | rfl)
            · intro vs p hI hp
              have e0 : (Roll.putD Drs5 vs [] b0).eval (.tmp 0) = .pointer (some ⟨g, 0, none⟩) := (Roll.eval_old rfl).trans (hlv.at 0 (0, .pointer (some ⟨g, 0, none⟩)) rfl)
              clear hp hlv hN
              unfold Roll.Goes
              simp only [Lrs5, List.getD_cons_zero, List.getD_cons_succ]
              generalize Roll.putD Drs5 vs [] b0 = a1 at *
              refine Roll.goes_val (w' := p) (.pointer (some ⟨g, 0, none⟩)) rfl ?_ ⟨hI, Kept.refl _ _, rfl⟩
              (have ec : ∀ x, a1.eval (.const x) = x := fun _ => rfl); (have ef : ∀ x, a1.eval (.func x) = .func (.func x) #[] #[] := fun _ => rfl); generalize a1.eval = ρ at *
              skip
              go_simp <;> (intros; first | (exfalso; omega) | rfl)
            · intro vs p hI hp
              have h6 : (vs 6) = .pointer (some ⟨g, 0, none⟩) := hp 6 (by simp [Lrs5])
              have e32 : (Roll.putD Drs5 vs [6] b0).eval (.tmp 32) = .pointer (some ⟨g, 0, none⟩) := (Roll.eval_new 6 rfl (by decide) (by decide) (by omega)).trans h6
              clear hp hlv hN
              unfold Roll.Goes
              simp only [Lrs5, List.getD_cons_zero, List.getD_cons_succ]
              generalize Roll.putD Drs5 vs [6] b0 = a1 at *
              refine Roll.goes_val (w' := p) (.pointer (some ⟨g, 0, none⟩)) rfl ?_ ⟨hI, Kept.refl _ _, rfl⟩
              (have ec : ∀ x, a1.eval (.const x) = x := fun _ => rfl); (have ef : ∀ x, a1.eval (.func x) = .func (.func x) #[] #[] := fun _ => rfl); generalize a1.eval = ρ at *
              clear h6
              go_simp <;> (intros; first | (exfalso; omega) | rfl)
            · intro vs p hI hp
              have h7 : (vs 7) = .pointer (some ⟨g, 0, none⟩) := hp 7 (by simp [Lrs5])
              have e33 : (Roll.putD Drs5 vs [7] b0).eval (.tmp 33) = .pointer (some ⟨g, 0, none⟩) := (Roll.eval_new 7 rfl (by decide) (by decide) (by omega)).trans h7
              clear hp hlv hN
              unfold Roll.Goes
              simp only [Lrs5, List.getD_cons_zero, List.getD_cons_succ]
              generalize Roll.putD Drs5 vs [7] b0 = a1 at *
              refine Roll.goes_val (w' := p) (.pointer (some ⟨g, 0, none⟩)) rfl ?_ ⟨hI, Kept.refl _ _, rfl⟩
              (have ec : ∀ x, a1.eval (.const x) = x := fun _ => rfl); (have ef : ∀ x, a1.eval (.func x) = .func (.func x) #[] #[] := fun _ => rfl); generalize a1.eval = ρ at *
              clear h7
              go_simp <;> (intros; first | (exfalso; omega) | rfl)
            · intro vs p hI hp
              have h8 : (vs 8) = .pointer (some ⟨g, 0, none⟩) := hp 8 (by simp [Lrs5])
              have e34 : (Roll.putD Drs5 vs [8] b0).eval (.tmp 34) = .pointer (some ⟨g, 0, none⟩) := (Roll.eval_new 8 rfl (by decide) (by decide) (by omega)).trans h8
              clear hp hlv hN
              unfold Roll.Goes
              simp only [Lrs5, List.getD_cons_zero, List.getD_cons_succ]
              generalize Roll.putD Drs5 vs [8] b0 = a1 at *
              have c0p : p.cell? ⟨g, 0, none⟩ = some (.slice (some ⟨gd, 0, none⟩) L cap) := (hI.cell Hg5.out (fun h => h)).trans P0.out
              refine Roll.goes_val (w' := p) (.slice (some ⟨gd, 0, none⟩) L cap) rfl ?_ ⟨hI, Kept.refl _ _, rfl⟩
              (have ec : ∀ x, a1.eval (.const x) = x := fun _ => rfl); (have ef : ∀ x, a1.eval (.func x) = .func (.func x) #[] #[] := fun _ => rfl); generalize a1.eval = ρ at *
              clear h8
              go_simp <;> (intros; first | (exfalso; omega) | rfl)
            · intro vs p hI hp
              have e5 : (Roll.putD Drs5 vs [] b0).eval (.tmp 5) = .pointer (some ⟨g5, 0, none⟩) := (Roll.eval_old rfl).trans (hlv.at 1 (5, .pointer (some ⟨g5, 0, none⟩)) rfl)
              clear hp hlv hN
              unfold Roll.Goes
              simp only [Lrs5, List.getD_cons_zero, List.getD_cons_succ]
              generalize Roll.putD Drs5 vs [] b0 = a1 at *
              refine Roll.goes_val (w' := p) (.pointer (some ⟨g5, 0, none⟩)) rfl ?_ ⟨hI, Kept.refl _ _, rfl⟩
              (have ec : ∀ x, a1.eval (.const x) = x := fun _ => rfl); (have ef : ∀ x, a1.eval (.func x) = .func (.func x) #[] #[] := fun _ => rfl); generalize a1.eval = ρ at *
              skip
              go_simp <;> (intros; first | (exfalso; omega) | rfl)
            · intro vs p hI hp
              have h10 : (vs 10) = .pointer (some ⟨g5, 0, none⟩) := hp 10 (by simp [Lrs5])
              have e36 : (Roll.putD Drs5 vs [10] b0).eval (.tmp 36) = .pointer (some ⟨g5, 0, none⟩) := (Roll.eval_new 10 rfl (by decide) (by decide) (by omega)).trans h10
              clear hp hlv hN
              unfold Roll.Goes
              simp only [Lrs5, List.getD_cons_zero, List.getD_cons_succ]
              generalize Roll.putD Drs5 vs [10] b0 = a1 at *
              have c5p : p.cell? ⟨g5, 0, none⟩ = some (.int .i64 (k : Int)) := (hI.cell H55.out (fun h => h)).trans P5.out
              refine Roll.goes_val (w' := p) (.int .i64 (k : Int)) rfl ?_ ⟨hI, Kept.refl _ _, rfl⟩
              (have ec : ∀ x, a1.eval (.const x) = x := fun _ => rfl); (have ef : ∀ x, a1.eval (.func x) = .func (.func x) #[] #[] := fun _ => rfl); generalize a1.eval = ρ at *
              clear h10
              go_simp <;> (intros; first | (exfalso; omega) | rfl)
            · intro vs p hI hp
              have h9 : (vs 9) = .slice (some ⟨gd, 0, none⟩) L cap := hp 9 (by simp [Lrs5])
              have h11 : (vs 11) = .int .i64 (k : Int) := hp 11 (by simp [Lrs5])
              have e35 : (Roll.putD Drs5 vs [9, 11] b0).eval (.tmp 35) = .slice (some ⟨gd, 0, none⟩) L cap := (Roll.eval_new 9 rfl (by decide) (by decide) (by omega)).trans h9
              have e37 : (Roll.putD Drs5 vs [9, 11] b0).eval (.tmp 37) = .int .i64 (k : Int) := (Roll.eval_new 11 rfl (by decide) (by decide) (by omega)).trans h11
              clear hp hlv hN
              unfold Roll.Goes
              simp only [Lrs5, List.getD_cons_zero, List.getD_cons_succ]
              generalize Roll.putD Drs5 vs [9, 11] b0 = a1 at *
              have hkL := HkL.out
              have hLc := HLc.out
              refine Roll.goes_val (w' := p) (.pointer (some ⟨gd, k * 64, none⟩)) rfl ?_ ⟨hI, Kept.refl _ _, rfl⟩
              (have ec : ∀ x, a1.eval (.const x) = x := fun _ => rfl); (have ef : ∀ x, a1.eval (.func x) = .func (.func x) #[] #[] := fun _ => rfl); generalize a1.eval = ρ at *
              clear h9 h11
              go_simp <;> (intros; first | (exfalso; omega) | rfl)
            · intro vs p hI hp
              have h12 : (vs 12) = .pointer (some ⟨gd, k * 64, none⟩) := hp 12 (by simp [Lrs5])
              have e38 : (Roll.putD Drs5 vs [12] b0).eval (.tmp 38) = .pointer (some ⟨gd, k * 64, none⟩) := (Roll.eval_new 12 rfl (by decide) (by decide) (by omega)).trans h12
              clear hp hlv hN
              unfold Roll.Goes
              simp only [Lrs5, List.getD_cons_zero, List.getD_cons_succ]
              generalize Roll.putD Drs5 vs [12] b0 = a1 at *
              exact Roll.goes_load_mid rfl 93 (.tmp 38) rfl gd (k * 64) e38 (vals old) _ (fun j v hv => (hI.cell (p := ⟨gd, k * 64 + j, none⟩) Hgd5.out (fun h => h)).trans (PD.out j v hv)) Try.underlying93 rfl (size64v Hold.out) ⟨hI, Kept.refl _ _, rfl⟩
            · intro vs p hI hp
              have e6 : (Roll.putD Drs5 vs [] b0).eval (.tmp 6) = .slice (some ⟨gk, 0, none⟩) tl.length c := (Roll.eval_old rfl).trans (hlv.at 2 (6, .slice (some ⟨gk, 0, none⟩) tl.length c) rfl)
              clear hp hlv hN
              unfold Roll.Goes
              simp only [Lrs5, List.getD_cons_zero, List.getD_cons_succ]
              generalize Roll.putD Drs5 vs [] b0 = a1 at *
              refine Roll.goes_val (w' := p) (.slice (some ⟨gk, 0, none⟩) tl.length c) rfl ?_ ⟨hI, Kept.refl _ _, rfl⟩
              (have ec : ∀ x, a1.eval (.const x) = x := fun _ => rfl); (have ef : ∀ x, a1.eval (.func x) = .func (.func x) #[] #[] := fun _ => rfl); generalize a1.eval = ρ at *
              skip
              go_simp <;> (intros; first | (exfalso; omega) | rfl)
            · intro vs p hI hp
              have e5 : (Roll.putD Drs5 vs [] b0).eval (.tmp 5) = .pointer (some ⟨g5, 0, none⟩) := (Roll.eval_old rfl).trans (hlv.at 1 (5, .pointer (some ⟨g5, 0, none⟩)) rfl)
              clear hp hlv hN
              unfold Roll.Goes
              simp only [Lrs5, List.getD_cons_zero, List.getD_cons_succ]
              generalize Roll.putD Drs5 vs [] b0 = a1 at *
              exact Roll.goes_load_row rfl 96 (.tmp 5) rfl g5 e5 96 #[.int .i64 (k : Int), .int .i64 tm.writes, .int .i64 tm.bytes] (0, 0) _ (hI.heap P5r.out (fun h => h)) Try.underlying96 rfl (by kernel_rfl) ⟨hI, Kept.refl _ _, rfl⟩
            · intro vs p hI hp
              have h13 : (vs 13) = .agg (vals old).toArray := hp 13 (by simp [Lrs5])
              have h14 : (vs 14) = .slice (some ⟨gk, 0, none⟩) tl.length c := hp 14 (by simp [Lrs5])
              have h15 : (vs 15) = .agg #[.int .i64 (k : Int), .int .i64 tm.writes, .int .i64 tm.bytes] := hp 15 (by simp [Lrs5])
              have e39 : (Roll.putD Drs5 vs [13, 14, 15] b0).eval (.tmp 39) = .agg (vals old).toArray := (Roll.eval_new 13 rfl (by decide) (by decide) (by omega)).trans h13
              have e40 : (Roll.putD Drs5 vs [13, 14, 15] b0).eval (.tmp 40) = .slice (some ⟨gk, 0, none⟩) tl.length c := (Roll.eval_new 14 rfl (by decide) (by decide) (by omega)).trans h14
              have e41 : (Roll.putD Drs5 vs [13, 14, 15] b0).eval (.tmp 41) = .agg #[.int .i64 (k : Int), .int .i64 tm.writes, .int .i64 tm.bytes] := (Roll.eval_new 15 rfl (by decide) (by decide) (by omega)).trans h15
              clear hp hlv hN
              unfold Roll.Goes
              simp only [Lrs5, List.getD_cons_zero, List.getD_cons_succ]
              generalize Roll.putD Drs5 vs [13, 14, 15] b0 = a1 at *
              refine Roll.goes_call 51 #[.agg (vals old).toArray, .slice (some ⟨gk, 0, none⟩) tl.length c, .agg #[.int .i64 (k : Int), .int .i64 tm.writes, .int .i64 tm.bytes]] p rfl (by have ec : ∀ x, a1.eval (.const x) = x := fun _ => rfl; have ef : ∀ x, a1.eval (.func x) = .func (.func x) #[] #[] := fun _ => rfl; generalize a1.eval = ρ at *; go_simp) ?_
              have hs := survivor_any p old Hold.out tl Htl.out Ht64.out gk c ⟨(k : Int), tm.writes, tm.bytes⟩ Htc.out Hc2.out (Nat.lt_of_lt_of_le Hgk5.out hI.size) (fun i hi j v hv => (hI.cell (p := ⟨gk, i * 64 + j, none⟩) Hgk5.out (fun h => h)).trans (PR.out i hi j v hv))
              rw [show surv (old :: tl) (⟨(k : Int), tm.writes, tm.bytes⟩ : TM).writes (⟨(k : Int), tm.writes, tm.bytes⟩ : TM).bytes = SV from HSV.out.symm] at hs
              refine hs.mono ?_
              rintro y p2 ⟨rfl, hb⟩
              have hk2 := Kept.of_below (fun _ => False) hb
              exact ⟨_, rfl, hI.trans hk2 (fun _ _ h => h), hk2, rfl⟩
          · intro vs p hI hR
            have h0 : (vs 0) = .pointer (some ⟨g, 0, none⟩) := hR 0 (by omega)
            have h1 : (vs 1) = .pointer (some ⟨g, 0, none⟩) := hR 1 (by omega)
            have h2 : (vs 2) = .pointer (some ⟨g, 0, none⟩) := hR 2 (by omega)
            have h3 : (vs 3) = .slice (some ⟨gd, 0, none⟩) L cap := hR 3 (by omega)
            have h4 : (vs 4) = .pointer (some ⟨g5, 0, none⟩) := hR 4 (by omega)
            have h5 : (vs 5) = .int .i64 (k : Int) := hR 5 (by omega)
            have h6 : (vs 6) = .pointer (some ⟨g, 0, none⟩) := hR 6 (by omega)
            have h7 : (vs 7) = .pointer (some ⟨g, 0, none⟩) := hR 7 (by omega)
            have h8 : (vs 8) = .pointer (some ⟨g, 0, none⟩) := hR 8 (by omega)
            have h9 : (vs 9) = .slice (some ⟨gd, 0, none⟩) L cap := hR 9 (by omega)
            have h10 : (vs 10) = .pointer (some ⟨g5, 0, none⟩) := hR 10 (by omega)
            have h11 : (vs 11) = .int .i64 (k : Int) := hR 11 (by omega)
            have h12 : (vs 12) = .pointer (some ⟨gd, k * 64, none⟩) := hR 12 (by omega)
            have h13 : (vs 13) = .agg (vals old).toArray := hR 13 (by omega)
            have h14 : (vs 14) = .slice (some ⟨gk, 0, none⟩) tl.length c := hR 14 (by omega)
            have h15 : (vs 15) = .agg #[.int .i64 (k : Int), .int .i64 tm.writes, .int .i64 tm.bytes] := hR 15 (by omega)
            have h16 : (vs 16) = .agg (vals SV).toArray := hR 16 (by omega)
            clear hR
            simp only [List.range_succ, List.range_zero, List.nil_append, List.cons_append, Roll.putD, Act.put, List.getD_cons_zero, List.getD_cons_succ, List.setIfInBounds_toArray, List.set_cons_zero, List.set_cons_succ, List.drop_succ_cons, List.drop_zero, Drs5]
            simp only [h0, h1, h2, h3, h4, h5, h6, h7, h8, h9, h10, h11, h12, h13, h14, h15, h16]
            clear h0 h1 h2 h3 h4 h5 h6 h7 h8 h9 h10 h11 h12 h13 h14 h15 h16
            have P5K := Lib.hid hI
            have PTH : Hid (p.there gd (k * 64) 64) := Lib.hid (fun j hj => by
              obtain ⟨h1, h2⟩ := PT.out j hj
              exact ⟨by rw [hI.cell (p := ⟨gd, k * 64 + j, none⟩) Hgd5.out (fun h => h)]; exact h1, by rw [hI.frozen (p := ⟨gd, k * 64 + j, none⟩) Hgd5.out (fun h => h)]; exact h2⟩)
            clear hI
            have hkL := HkL.out
            have hLc := HLc.out
            go_upto_region 6 with (refine wpList_store_mid rfl 93 (.tmp 43) (.tmp 42) rfl gd (k * 64) _ rfl rfl (by rw [List.size_toArray, vals_len, HSV64.out]; exact PTH.out) (size64a HSV64.out) (one64 _) ?_)
            obtain ⟨w6, hw6⟩ : ∃ w6, w6 = p.setCells gd (k * 64) (vals SV) := ⟨_, rfl⟩
            rw [← hw6]
            have D5 := HDi.out.kept (HKq.out.trans P5K.out (fun _ _ h => h)) (fun _ _ h => h)
            have hcut : ∀ p3, Kept (fun _ => False) w6 p3 → _ := fun p3 h3 => D5.cut HkS.out HSV64.out (p := p3) (by rw [← hw6]; exact h3)
            have HCut := Lib.hid hcut
            have K6 : Kept (fun j => j = gd) p w6 := by rw [hw6]; exact Kept.setCells _ _ (Kept.refl _ _) (fun _ => rfl)
            have W1 : Hid (w6.cell? ⟨g, 1, none⟩ = some (.map (some gm))) := Lib.hid ((K6.cell (Nat.lt_of_lt_of_le HgQ.out P5K.out.size) Hne.out.1).trans ((P5K.out.cell HgQ.out (fun h => h)).trans Q1.out))
            have W5 : Hid (w6.cell? ⟨g5, 0, none⟩ = some (.int .i64 (k : Int))) := Lib.hid ((K6.cell (Nat.lt_of_lt_of_le H5Q.out P5K.out.size) Hne5.out).trans ((P5K.out.cell H5Q.out (fun h => h)).trans P5.out))
            have HgW : Hid (g < w6.heap.size) := Lib.hid (Nat.lt_of_lt_of_le (Nat.lt_of_lt_of_le HgQ.out P5K.out.size) K6.size)
            have H5W : Hid (g5 < w6.heap.size) := Lib.hid (Nat.lt_of_lt_of_le (Nat.lt_of_lt_of_le H5Q.out P5K.out.size) K6.size)
            have HK6 := Lib.hid K6
            clear hcut K6 hw6 D5
            obtain ⟨p5, hp5⟩ : ∃ p5, p5 = p := ⟨_, rfl⟩
            rw [← hp5] at HCut P5K HK6
            clear hp5
            refine Roll.region_w 7 61 Drs6 Lrs6 [(0, .pointer (some ⟨g, 0, none⟩)), (5, .pointer (some ⟨g5, 0, none⟩))] 6 [true, true, true, true, true, true, false] (fun p => Kept (fun _ => False) w6 p) (fun vv p => (Dk p g gd gm (rowSet rowi k none) N ⟨(DM.torn d.S (ts.take i)).set k [SV], d.on, d.fuse⟩ ∧ Kept (fun j => j = gd ∨ j = gm) p5 p) ∧ Kept (fun j => j = gm) w6 p) (fun p => Kept (fun j => j = gm) w6 p) (fun p p2 => Kept (fun j => j = gm) p p2) [fun vv p => (vv 0) = .pointer (some ⟨g, 0, none⟩), fun vv p => (vv 1) = .pointer (some ⟨g, 0, none⟩), fun vv p => (vv 2) = .pointer (some ⟨g, 1, none⟩), fun vv p => (vv 3) = .map (some gm), fun vv p => (vv 4) = .pointer (some ⟨g5, 0, none⟩), fun vv p => (vv 5) = .int .i64 (k : Int), fun vv p => True] (by kernel_rfl) (by kernel_rfl) rfl ⟨rfl, rfl, trivial⟩ ((Kept.refl _ _).drew) (by decide) (by kernel_rfl) (fun _ h => h.mono (fun _ _ h => h.elim)) (fun _ _ h => h.2) (fun _ => Kept.refl _ _) ?_ ?_ ?_
            · exact ⟨fun _ _ _ _ h => h, fun _ _ _ _ h => h, fun _ _ _ _ h => h, fun _ _ _ _ h => h, fun _ _ _ _ h => h, fun _ _ _ _ h => h, fun _ _ _ _ h => h, trivial⟩
            · intro b0 hN hlv
              refine ⟨?_, ?_, ?_, ?_, ?_, ?_, ?_, trivial⟩
              · intro vs p hI0 hp
                have hI := Roll.inw_pure (by decide) rfl hI0
                clear hI0
                have e0 : (Roll.putD Drs6 vs [] b0).eval (.tmp 0) = .pointer (some ⟨g, 0, none⟩) := (Roll.eval_old rfl).trans (hlv.at 0 (0, .pointer (some ⟨g, 0, none⟩)) rfl)
                clear hp hlv hN
                unfold Roll.Goes
                simp only [Lrs6, List.getD_cons_zero, List.getD_cons_succ]
                generalize Roll.putD Drs6 vs [] b0 = a1 at *
                refine Roll.goes_val (w' := p) (.pointer (some ⟨g, 0, none⟩)) rfl ?_ ⟨(Roll.outw_pure (by decide) rfl), rfl⟩
                (have ec : ∀ x, a1.eval (.const x) = x := fun _ => rfl); (have ef : ∀ x, a1.eval (.func x) = .func (.func x) #[] #[] := fun _ => rfl); generalize a1.eval = ρ at *
                skip
                go_simp <;> (intros; first | (exfalso; omega) | rfl)
              · intro vs p hI0 hp
                have hI := Roll.inw_pure (by decide) rfl hI0
                clear hI0
                have h0 : (vs 0) = .pointer (some ⟨g, 0, none⟩) := hp 0 (by simp [Lrs6])
                have e44 : (Roll.putD Drs6 vs [0] b0).eval (.tmp 44) = .pointer (some ⟨g, 0, none⟩) := (Roll.eval_new 0 rfl (by decide) (by decide) (by omega)).trans h0
                clear hp hlv hN
                unfold Roll.Goes
                simp only [Lrs6, List.getD_cons_zero, List.getD_cons_succ]
                generalize Roll.putD Drs6 vs [0] b0 = a1 at *
                refine Roll.goes_val (w' := p) (.pointer (some ⟨g, 0, none⟩)) rfl ?_ ⟨(Roll.outw_pure (by decide) rfl), rfl⟩
                (have ec : ∀ x, a1.eval (.const x) = x := fun _ => rfl); (have ef : ∀ x, a1.eval (.func x) = .func (.func x) #[] #[] := fun _ => rfl); generalize a1.eval = ρ at *
                clear h0
                go_simp <;> (intros; first | (exfalso; omega) | rfl)
              · intro vs p hI0 hp
                have hI := Roll.inw_pure (by decide) rfl hI0
                clear hI0
                have h1 : (vs 1) = .pointer (some ⟨g, 0, none⟩) := hp 1 (by simp [Lrs6])
                have e45 : (Roll.putD Drs6 vs [1] b0).eval (.tmp 45) = .pointer (some ⟨g, 0, none⟩) := (Roll.eval_new 1 rfl (by decide) (by decide) (by omega)).trans h1
                clear hp hlv hN
                unfold Roll.Goes
                simp only [Lrs6, List.getD_cons_zero, List.getD_cons_succ]
                generalize Roll.putD Drs6 vs [1] b0 = a1 at *
                refine Roll.goes_val (w' := p) (.pointer (some ⟨g, 1, none⟩)) rfl ?_ ⟨(Roll.outw_pure (by decide) rfl), rfl⟩
                (have ec : ∀ x, a1.eval (.const x) = x := fun _ => rfl); (have ef : ∀ x, a1.eval (.func x) = .func (.func x) #[] #[] := fun _ => rfl); generalize a1.eval = ρ at *
                clear h1
                go_simp <;> (intros; first | (exfalso; omega) | rfl)
              · intro vs p hI0 hp
                have hI := Roll.inw_pure (by decide) rfl hI0
                clear hI0
                have h2 : (vs 2) = .pointer (some ⟨g, 1, none⟩) := hp 2 (by simp [Lrs6])
                have e46 : (Roll.putD Drs6 vs [2] b0).eval (.tmp 46) = .pointer (some ⟨g, 1, none⟩) := (Roll.eval_new 2 rfl (by decide) (by decide) (by omega)).trans h2
                clear hp hlv hN
                unfold Roll.Goes
                simp only [Lrs6, List.getD_cons_zero, List.getD_cons_succ]
                generalize Roll.putD Drs6 vs [2] b0 = a1 at *
                have c1p : p.cell? ⟨g, 1, none⟩ = some (.map (some gm)) := (hI.cell HgW.out Hne.out.2).trans W1.out
                refine Roll.goes_val (w' := p) (.map (some gm)) rfl ?_ ⟨(Roll.outw_pure (by decide) rfl), rfl⟩
                (have ec : ∀ x, a1.eval (.const x) = x := fun _ => rfl); (have ef : ∀ x, a1.eval (.func x) = .func (.func x) #[] #[] := fun _ => rfl); generalize a1.eval = ρ at *
                clear h2
                go_simp <;> (intros; first | (exfalso; omega) | rfl)
              · intro vs p hI0 hp
                have hI := Roll.inw_pure (by decide) rfl hI0
                clear hI0
                have e5 : (Roll.putD Drs6 vs [] b0).eval (.tmp 5) = .pointer (some ⟨g5, 0, none⟩) := (Roll.eval_old rfl).trans (hlv.at 1 (5, .pointer (some ⟨g5, 0, none⟩)) rfl)
                clear hp hlv hN
                unfold Roll.Goes
                simp only [Lrs6, List.getD_cons_zero, List.getD_cons_succ]
                generalize Roll.putD Drs6 vs [] b0 = a1 at *
                refine Roll.goes_val (w' := p) (.pointer (some ⟨g5, 0, none⟩)) rfl ?_ ⟨(Roll.outw_pure (by decide) rfl), rfl⟩
                (have ec : ∀ x, a1.eval (.const x) = x := fun _ => rfl); (have ef : ∀ x, a1.eval (.func x) = .func (.func x) #[] #[] := fun _ => rfl); generalize a1.eval = ρ at *
                skip
                go_simp <;> (intros; first | (exfalso; omega) | rfl)
              · intro vs p hI0 hp
                have hI := Roll.inw_pure (by decide) rfl hI0
                clear hI0
                have h4 : (vs 4) = .pointer (some ⟨g5, 0, none⟩) := hp 4 (by simp [Lrs6])
                have e48 : (Roll.putD Drs6 vs [4] b0).eval (.tmp 48) = .pointer (some ⟨g5, 0, none⟩) := (Roll.eval_new 4 rfl (by decide) (by decide) (by omega)).trans h4
                clear hp hlv hN
                unfold Roll.Goes
                simp only [Lrs6, List.getD_cons_zero, List.getD_cons_succ]
                generalize Roll.putD Drs6 vs [4] b0 = a1 at *
                have c5p : p.cell? ⟨g5, 0, none⟩ = some (.int .i64 (k : Int)) := (hI.cell H5W.out Hne5m.out).trans W5.out
                refine Roll.goes_val (w' := p) (.int .i64 (k : Int)) rfl ?_ ⟨(Roll.outw_pure (by decide) rfl), rfl⟩
                (have ec : ∀ x, a1.eval (.const x) = x := fun _ => rfl); (have ef : ∀ x, a1.eval (.func x) = .func (.func x) #[] #[] := fun _ => rfl); generalize a1.eval = ρ at *
                clear h4
                go_simp <;> (intros; first | (exfalso; omega) | rfl)
              · intro vs p hI0 hp
                have hI := Roll.inw_k0 rfl hI0
                clear hI0
                have h3 : (vs 3) = .map (some gm) := hp 3 (by simp [Lrs6])
                have h5 : (vs 5) = .int .i64 (k : Int) := hp 5 (by simp [Lrs6])
                have e47 : (Roll.putD Drs6 vs [3, 5] b0).eval (.tmp 47) = .map (some gm) := (Roll.eval_new 3 rfl (by decide) (by decide) (by omega)).trans h3
                have e49 : (Roll.putD Drs6 vs [3, 5] b0).eval (.tmp 49) = .int .i64 (k : Int) := (Roll.eval_new 5 rfl (by decide) (by decide) (by omega)).trans h5
                clear hp hlv hN
                unfold Roll.Goes
                simp only [Lrs6, List.getD_cons_zero, List.getD_cons_succ]
                generalize Roll.putD Drs6 vs [3, 5] b0 = a1 at *
                obtain ⟨p2, hrun, hd2, hk2, hk3⟩ := HCut.out p hI
                refine Roll.goes_val (w' := p2) (.tuple #[]) rfl ?_ ⟨Roll.outw_k0 rfl ⟨⟨hd2, hk2⟩, (hI.mono (fun _ _ h => h.elim)).trans hk3 (fun _ _ h => h)⟩ hk3, trivial⟩
                unfold execOp
                simp only [resolve, invoke, builtin, Sem.run_bind, Sem.run_pure, Result.andThen_ok, List.map_toArray, List.map_cons, List.map_nil, e47, e49, hrun]
            · intro vs p hI hR
              have h0 : (vs 0) = .pointer (some ⟨g, 0, none⟩) := hR 0 (by omega)
              have h1 : (vs 1) = .pointer (some ⟨g, 0, none⟩) := hR 1 (by omega)
              have h2 : (vs 2) = .pointer (some ⟨g, 1, none⟩) := hR 2 (by omega)
              have h3 : (vs 3) = .map (some gm) := hR 3 (by omega)
              have h4 : (vs 4) = .pointer (some ⟨g5, 0, none⟩) := hR 4 (by omega)
              have h5 : (vs 5) = .int .i64 (k : Int) := hR 5 (by omega)
              have h6 : True := hR 6 (by omega)
              clear hR
              simp only [List.range_succ, List.range_zero, List.nil_append, List.cons_append, Roll.putD, Act.put, List.getD_cons_zero, List.getD_cons_succ, List.setIfInBounds_toArray, List.set_cons_zero, List.set_cons_succ, List.drop_succ_cons, List.drop_zero, Drs6]
              simp only [h0, h1, h2, h3, h4, h5]
              clear h0 h1 h2 h3 h4 h5
              obtain ⟨⟨hd2, hk2⟩, hk3⟩ := hI
              have Hd2 := Lib.hid hd2
              have Hk2 := Lib.hid hk2
              clear hd2 hk2 hk3 h6
              go_wp2_with fail
              go_roundw
              case rel =>
                refine ⟨i + 1, by omega, by go_num, rowSet rowi k none, by rw [HTS.out]; exact Hd2.out, HKi.out.trans (((HKq.out.mono (fun _ _ h => h.elim)).trans (P5K.out.mono (fun _ _ h => h.elim)) (fun _ _ h => h)).trans Hk2.out (fun _ _ h => h)) (fun j hj e => by rcases e with e | e; exact .inr (.inl e); exact .inr (.inr (.inl e))), fun j x hx => ?_⟩
                by_cases e : j = k
                · rw [e, rowSet_same] at hx; cases hx
                · rw [rowSet_other _ _ e] at hx; exact HRi.out j x hx
              case measure => simp [intOf]; omega
      · have hx : ∀ (k : Nat) (hk : k < (DM.torn d.S (ts.take i)).length), tm.sector = (k : Int) → (DM.torn d.S (ts.take i))[k].tail = [] := fun k hk hs => Classical.byContradiction fun hn => hx ⟨k, hk, hs, hn⟩
        have hTS : DM.torn d.S (ts.take (i + 1)) = DM.torn d.S (ts.take i) := by rw [htk]; exact torn_skip (fun s hs => (HOK.out.2.2.2 s hs).1) _ _ hx
        have HTS := Lib.hid hTS
        have Q5 := Lib.hid hq5
        have HLK := Lib.hid (fun p hp => hDi.lookNo tm.sector htok.1 htok.2 hx (fun _ => False) p (fun h => h) (hKq.trans hp (fun _ _ h => h)))
        clear hDi n1 n2 n3 n4 hlti hDb hbw hrb hil hr3 htm htok htk hg5 hq hKq hq5r hq5 hc1 hc2 c0 c1 hx hTS
        go_upto_region 3 with (first
          | (refine wpList_load_mid rfl 96 (.tmp 12) rfl b (off + i * 3) rfl _ _ Hr3.out Try.underlying96 rfl (by kernel_rfl) ?_)
          | (refine wpList_alloc_z rfl 96 rfl _ 96 run_alloc67 ?_)
          | (refine wpList_store_row rfl 96 (.tmp 5) (.tmp 13) rfl wr.heap.size _ rfl rfl 96 _ (heap_new rfl) (by kernel_rfl) rfl (by simp [Value.oneCell']) ?_))
        rw [← Hq.out, ← Hg5.out]
        refine Roll.region_f 12 61 Drsn Lrsn [(0, .pointer (some ⟨g, 0, none⟩)), (5, .pointer (some ⟨g5, 0, none⟩))] (fun p => Kept (fun _ => False) q p) (fun p p2 => Kept (fun _ => False) p p2) [fun vv p => vv = .pointer (some ⟨g, 0, none⟩), fun vv p => vv = .pointer (some ⟨g, 0, none⟩), fun vv p => vv = .pointer (some ⟨g, 1, none⟩), fun vv p => vv = .map (some gm), fun vv p => vv = .pointer (some ⟨g5, 0, none⟩), fun vv p => vv = .int .i64 tm.sector, fun vv p => vv = .tuple #[.slice none 0 0, .bool false], fun vv p => vv = .tuple #[.slice none 0 0, .bool false], fun vv p => vv = .slice none 0 0, fun vv p => vv = .bool false, fun vv p => vv = .slice none 0 0, fun vv p => vv = .bool false] (by kernel_rfl) (by kernel_rfl) rfl ⟨rfl, rfl, trivial⟩ ((Kept.refl _ _).drew) ?_ ?_ ?_
        · exact ⟨fun _ _ _ _ h => h, fun _ _ _ _ h => h, fun _ _ _ _ h => h, fun _ _ _ _ h => h, fun _ _ _ _ h => h, fun _ _ _ _ h => h, fun _ _ _ _ h => h, fun _ _ _ _ h => h, fun _ _ _ _ h => h, fun _ _ _ _ h => h, fun _ _ _ _ h => h, fun _ _ _ _ h => h, trivial⟩
        · intro b0 hN hlv
          refine ⟨?_, ?_, ?_, ?_, ?_, ?_, ?_, ?_, ?_, ?_, ?_, ?_, trivial⟩
          · intro vs p hI hp
            have e0 : (Roll.putD Drsn vs [] b0).eval (.tmp 0) = .pointer (some ⟨g, 0, none⟩) := (Roll.eval_old rfl).trans (hlv.at 0 (0, .pointer (some ⟨g, 0, none⟩)) rfl)
            clear hp hlv hN
            unfold Roll.Goes
            simp only [Lrsn, List.getD_cons_zero, List.getD_cons_succ]
            generalize Roll.putD Drsn vs [] b0 = a1 at *
            refine Roll.goes_val (w' := p) (.pointer (some ⟨g, 0, none⟩)) rfl ?_ ⟨hI, Kept.refl _ _, rfl⟩
            (have ec : ∀ x, a1.eval (.const x) = x := fun _ => rfl); (have ef : ∀ x, a1.eval (.func x) = .func (.func x) #[] #[] := fun _ => rfl); generalize a1.eval = ρ at *
            skip
            go_simp <;> (intros; first | (exfalso; omega) | rfl)
          · intro vs p hI hp
            have h0 : (vs 0) = .pointer (some ⟨g, 0, none⟩) := hp 0 (by simp [Lrsn])
            have e15 : (Roll.putD Drsn vs [0] b0).eval (.tmp 15) = .pointer (some ⟨g, 0, none⟩) := (Roll.eval_new 0 rfl (by decide) (by decide) (by omega)).trans h0
            clear hp hlv hN
            unfold Roll.Goes
            simp only [Lrsn, List.getD_cons_zero, List.getD_cons_succ]
            generalize Roll.putD Drsn vs [0] b0 = a1 at *
            refine Roll.goes_val (w' := p) (.pointer (some ⟨g, 0, none⟩)) rfl ?_ ⟨hI, Kept.refl _ _, rfl⟩
            (have ec : ∀ x, a1.eval (.const x) = x := fun _ => rfl); (have ef : ∀ x, a1.eval (.func x) = .func (.func x) #[] #[] := fun _ => rfl); generalize a1.eval = ρ at *
            clear h0
            go_simp <;> (intros; first | (exfalso; omega) | rfl)
          · intro vs p hI hp
            have h1 : (vs 1) = .pointer (some ⟨g, 0, none⟩) := hp 1 (by simp [Lrsn])
            have e16 : (Roll.putD Drsn vs [1] b0).eval (.tmp 16) = .pointer (some ⟨g, 0, none⟩) := (Roll.eval_new 1 rfl (by decide) (by decide) (by omega)).trans h1
            clear hp hlv hN
            unfold Roll.Goes
            simp only [Lrsn, List.getD_cons_zero, List.getD_cons_succ]
            generalize Roll.putD Drsn vs [1] b0 = a1 at *
            refine Roll.goes_val (w' := p) (.pointer (some ⟨g, 1, none⟩)) rfl ?_ ⟨hI, Kept.refl _ _, rfl⟩
            (have ec : ∀ x, a1.eval (.const x) = x := fun _ => rfl); (have ef : ∀ x, a1.eval (.func x) = .func (.func x) #[] #[] := fun _ => rfl); generalize a1.eval = ρ at *
            clear h1
            go_simp <;> (intros; first | (exfalso; omega) | rfl)
          · intro vs p hI hp
            have h2 : (vs 2) = .pointer (some ⟨g, 1, none⟩) := hp 2 (by simp [Lrsn])
            have e17 : (Roll.putD Drsn vs [2] b0).eval (.tmp 17) = .pointer (some ⟨g, 1, none⟩) := (Roll.eval_new 2 rfl (by decide) (by decide) (by omega)).trans h2
            clear hp hlv hN
            unfold Roll.Goes
            simp only [Lrsn, List.getD_cons_zero, List.getD_cons_succ]
            generalize Roll.putD Drsn vs [2] b0 = a1 at *
            have c1p : p.cell? ⟨g, 1, none⟩ = some (.map (some gm)) := (hI.cell HgQ.out (fun h => h)).trans Q1.out
            refine Roll.goes_val (w' := p) (.map (some gm)) rfl ?_ ⟨hI, Kept.refl _ _, rfl⟩
            (have ec : ∀ x, a1.eval (.const x) = x := fun _ => rfl); (have ef : ∀ x, a1.eval (.func x) = .func (.func x) #[] #[] := fun _ => rfl); generalize a1.eval = ρ at *
            clear h2
            go_simp <;> (intros; first | (exfalso; omega) | rfl)
          · intro vs p hI hp
            have e5 : (Roll.putD Drsn vs [] b0).eval (.tmp 5) = .pointer (some ⟨g5, 0, none⟩) := (Roll.eval_old rfl).trans (hlv.at 1 (5, .pointer (some ⟨g5, 0, none⟩)) rfl)
            clear hp hlv hN
            unfold Roll.Goes
            simp only [Lrsn, List.getD_cons_zero, List.getD_cons_succ]
            generalize Roll.putD Drsn vs [] b0 = a1 at *
            refine Roll.goes_val (w' := p) (.pointer (some ⟨g5, 0, none⟩)) rfl ?_ ⟨hI, Kept.refl _ _, rfl⟩
            (have ec : ∀ x, a1.eval (.const x) = x := fun _ => rfl); (have ef : ∀ x, a1.eval (.func x) = .func (.func x) #[] #[] := fun _ => rfl); generalize a1.eval = ρ at *
            skip
            go_simp <;> (intros; first | (exfalso; omega) | rfl)
          · intro vs p hI hp
            have h4 : (vs 4) = .pointer (some ⟨g5, 0, none⟩) := hp 4 (by simp [Lrsn])
            have e19 : (Roll.putD Drsn vs [4] b0).eval (.tmp 19) = .pointer (some ⟨g5, 0, none⟩) := (Roll.eval_new 4 rfl (by decide) (by decide) (by omega)).trans h4
            clear hp hlv hN
            unfold Roll.Goes
            simp only [Lrsn, List.getD_cons_zero, List.getD_cons_succ]
            generalize Roll.putD Drsn vs [4] b0 = a1 at *
            have c5p : p.cell? ⟨g5, 0, none⟩ = some (.int .i64 tm.sector) := (hI.cell H5Q.out (fun h => h)).trans Q5.out
            refine Roll.goes_val (w' := p) (.int .i64 tm.sector) rfl ?_ ⟨hI, Kept.refl _ _, rfl⟩
            (have ec : ∀ x, a1.eval (.const x) = x := fun _ => rfl); (have ef : ∀ x, a1.eval (.func x) = .func (.func x) #[] #[] := fun _ => rfl); generalize a1.eval = ρ at *
            clear h4
            go_simp <;> (intros; first | (exfalso; omega) | rfl)
          · intro vs p hI hp
            have h3 : (vs 3) = .map (some gm) := hp 3 (by simp [Lrsn])
            have h5 : (vs 5) = .int .i64 tm.sector := hp 5 (by simp [Lrsn])
            have e18 : (Roll.putD Drsn vs [3, 5] b0).eval (.tmp 18) = .map (some gm) := (Roll.eval_new 3 rfl (by decide) (by decide) (by omega)).trans h3
            have e20 : (Roll.putD Drsn vs [3, 5] b0).eval (.tmp 20) = .int .i64 tm.sector := (Roll.eval_new 5 rfl (by decide) (by decide) (by omega)).trans h5
            clear hp hlv hN
            unfold Roll.Goes
            simp only [Lrsn, List.getD_cons_zero, List.getD_cons_succ]
            generalize Roll.putD Drsn vs [3, 5] b0 = a1 at *
            have hlk := HLK.out p hI
            refine Roll.goes_val (w' := p) (.tuple #[.slice none 0 0, .bool false]) rfl ?_ ⟨hI, Kept.refl _ _, rfl⟩
            (have ec : ∀ x, a1.eval (.const x) = x := fun _ => rfl); (have ef : ∀ x, a1.eval (.func x) = .func (.func x) #[] #[] := fun _ => rfl); generalize a1.eval = ρ at *
            clear h3 h5
            go_simp <;> (intros; first | (exfalso; omega) | rfl)
          · intro vs p hI hp
            have h6 : (vs 6) = .tuple #[.slice none 0 0, .bool false] := hp 6 (by simp [Lrsn])
            have e21 : (Roll.putD Drsn vs [6] b0).eval (.tmp 21) = .tuple #[.slice none 0 0, .bool false] := (Roll.eval_new 6 rfl (by decide) (by decide) (by omega)).trans h6
            clear hp hlv hN
            unfold Roll.Goes
            simp only [Lrsn, List.getD_cons_zero, List.getD_cons_succ]
            generalize Roll.putD Drsn vs [6] b0 = a1 at *
            refine Roll.goes_val (w' := p) (.tuple #[.slice none 0 0, .bool false]) rfl ?_ ⟨hI, Kept.refl _ _, rfl⟩
            (have ec : ∀ x, a1.eval (.const x) = x := fun _ => rfl); (have ef : ∀ x, a1.eval (.func x) = .func (.func x) #[] #[] := fun _ => rfl); generalize a1.eval = ρ at *
            clear h6
            go_simp <;> (intros; first | (exfalso; omega) | rfl)
          · intro vs p hI hp
            have h7 : (vs 7) = .tuple #[.slice none 0 0, .bool false] := hp 7 (by simp [Lrsn])
            have e14 : (Roll.putD Drsn vs [7] b0).eval (.tmp 14) = .tuple #[.slice none 0 0, .bool false] := (Roll.eval_new 7 rfl (by decide) (by decide) (by omega)).trans h7
            clear hp hlv hN
            unfold Roll.Goes
            simp only [Lrsn, List.getD_cons_zero, List.getD_cons_succ]
            generalize Roll.putD Drsn vs [7] b0 = a1 at *
            refine Roll.goes_val (w' := p) (.slice none 0 0) rfl ?_ ⟨hI, Kept.refl _ _, rfl⟩
            (have ec : ∀ x, a1.eval (.const x) = x := fun _ => rfl); (have ef : ∀ x, a1.eval (.func x) = .func (.func x) #[] #[] := fun _ => rfl); generalize a1.eval = ρ at *
            clear h7
            go_simp <;> (intros; first | (exfalso; omega) | rfl)
          · intro vs p hI hp
            have h7 : (vs 7) = .tuple #[.slice none 0 0, .bool false] := hp 7 (by simp [Lrsn])
            have e14 : (Roll.putD Drsn vs [7] b0).eval (.tmp 14) = .tuple #[.slice none 0 0, .bool false] := (Roll.eval_new 7 rfl (by decide) (by decide) (by omega)).trans h7
            clear hp hlv hN
            unfold Roll.Goes
            simp only [Lrsn, List.getD_cons_zero, List.getD_cons_succ]
            generalize Roll.putD Drsn vs [7] b0 = a1 at *
            refine Roll.goes_val (w' := p) (.bool false) rfl ?_ ⟨hI, Kept.refl _ _, rfl⟩
            (have ec : ∀ x, a1.eval (.const x) = x := fun _ => rfl); (have ef : ∀ x, a1.eval (.func x) = .func (.func x) #[] #[] := fun _ => rfl); generalize a1.eval = ρ at *
            clear h7
            go_simp <;> (intros; first | (exfalso; omega) | rfl)
          · intro vs p hI hp
            have h8 : (vs 8) = .slice none 0 0 := hp 8 (by simp [Lrsn])
            have e22 : (Roll.putD Drsn vs [8] b0).eval (.tmp 22) = .slice none 0 0 := (Roll.eval_new 8 rfl (by decide) (by decide) (by omega)).trans h8
            clear hp hlv hN
            unfold Roll.Goes
            simp only [Lrsn, List.getD_cons_zero, List.getD_cons_succ]
            generalize Roll.putD Drsn vs [8] b0 = a1 at *
            refine Roll.goes_val (w' := p) (.slice none 0 0) rfl ?_ ⟨hI, Kept.refl _ _, rfl⟩
            (have ec : ∀ x, a1.eval (.const x) = x := fun _ => rfl); (have ef : ∀ x, a1.eval (.func x) = .func (.func x) #[] #[] := fun _ => rfl); generalize a1.eval = ρ at *
            clear h8
            go_simp <;> (intros; first | (exfalso; omega) | rfl)
          · intro vs p hI hp
            have h9 : (vs 9) = .bool false := hp 9 (by simp [Lrsn])
            have e23 : (Roll.putD Drsn vs [9] b0).eval (.tmp 23) = .bool false := (Roll.eval_new 9 rfl (by decide) (by decide) (by omega)).trans h9
            clear hp hlv hN
            unfold Roll.Goes
            simp only [Lrsn, List.getD_cons_zero, List.getD_cons_succ]
            generalize Roll.putD Drsn vs [9] b0 = a1 at *
            refine Roll.goes_val (w' := p) (.bool false) rfl ?_ ⟨hI, Kept.refl _ _, rfl⟩
            (have ec : ∀ x, a1.eval (.const x) = x := fun _ => rfl); (have ef : ∀ x, a1.eval (.func x) = .func (.func x) #[] #[] := fun _ => rfl); generalize a1.eval = ρ at *
            clear h9
            go_simp <;> (intros; first | (exfalso; omega) | rfl)
        · intro vs p hI hR
          have h0 : (vs 0) = .pointer (some ⟨g, 0, none⟩) := hR 0 (by omega)
          have h1 : (vs 1) = .pointer (some ⟨g, 0, none⟩) := hR 1 (by omega)
          have h2 : (vs 2) = .pointer (some ⟨g, 1, none⟩) := hR 2 (by omega)
          have h3 : (vs 3) = .map (some gm) := hR 3 (by omega)
          have h4 : (vs 4) = .pointer (some ⟨g5, 0, none⟩) := hR 4 (by omega)
          have h5 : (vs 5) = .int .i64 tm.sector := hR 5 (by omega)
          have h6 : (vs 6) = .tuple #[.slice none 0 0, .bool false] := hR 6 (by omega)
          have h7 : (vs 7) = .tuple #[.slice none 0 0, .bool false] := hR 7 (by omega)
          have h8 : (vs 8) = .slice none 0 0 := hR 8 (by omega)
          have h9 : (vs 9) = .bool false := hR 9 (by omega)
          have h10 : (vs 10) = .slice none 0 0 := hR 10 (by omega)
          have h11 : (vs 11) = .bool false := hR 11 (by omega)
          clear hR
          simp only [List.range_succ, List.range_zero, List.nil_append, List.cons_append, Roll.putD, Act.put, List.getD_cons_zero, List.getD_cons_succ, List.setIfInBounds_toArray, List.set_cons_zero, List.set_cons_succ, List.drop_succ_cons, List.drop_zero, Drsn]
          simp only [h0, h1, h2, h3, h4, h5, h6, h7, h8, h9, h10, h11]
          clear h0 h1 h2 h3 h4 h5 h6 h7 h8 h9 h10 h11
          have HI3 := Lib.hid hI
          clear hI
          go_wp2_with fail
          go_roundw
          case rel => exact ⟨i + 1, by omega, by go_num, rowi, by rw [HTS.out]; exact HDi.out.kept (HKq.out.trans HI3.out (fun _ _ h => h)) (fun _ _ h => h), HKi.out.trans (HKq.out.trans HI3.out (fun _ _ h => h)) (fun _ _ h => h.elim), HRi.out⟩
          case measure => simp [intOf]; omega
    · obtain rfl : i = n := by omega
      have hDi := HDi.out
      rw [List.take_of_length_le (by have := HT.out.1; omega)] at hDi
      obtain ⟨cap, _, _, _, c1, _, _, f0⟩ := hDi.facts
      obtain ⟨p2, hrun, hd2, hk2, hs2⟩ := hDi.clear
      have hd3 := (hd2.setOnC true).setFuseC 0 (by omega)
      obtain ⟨cap2, _, _, _, _, e2, e3, f02⟩ := hd2.facts
      have f2 := f02 2
      have f3 := f02 3
      simp only at e2 e3
      have Hd3 := Lib.hid hd3
      have Hk2 := Lib.hid hk2
      clear hDi hd2 hd3 hk2 hs2 f0 f02
      go_wp2_with fail
      go_end0
      refine ⟨rfl, Hd3.out, ?_⟩
      refine HKi.out.trans ((Hk2.out.mono (fun j _ e => (.inr (.inr (.inl e)) : Blk g gd gm row j))).trans (kept_two _ _) (fun j _ e => (.inl e : Blk g gd gm row j))) (fun _ _ h => h)
end
end Go.Proofs.Ythffegfcgmhppaa
namespace Go.Proofs.Ythffegfcgmhppaa
open Go.RowKit
set_option linter.unusedSimpArgs false
set_option linter.unusedVariables false
def Dfl6 : List (Option Tmp) := [some 20, some 21, some 22, some 23, some 24, some 25, some 26, some 27, some 28, some 29, some 30, some 31, none]
def Lfl6 : List (List Nat) := [[], [0], [1], [2], [], [], [], [6], [7], [5, 8], [9], [3, 4], [11, 10]]
theorem flush_list (S : List (List (List UInt8))) (k : Nat) (left : Int → Bool) (bl : List UInt8) (hl : left (k : Int) = true) (hb : ∀ (hk : k < S.length), lastB S[k] = bl) :
    (S.mapIdx fun j s => if left (j : Int) then dur s else lastB s).set k bl = S.mapIdx fun j s => if (left (j : Int) && !decide ((j : Int) = (k : Int))) then dur s else lastB s := by
  apply List.ext_getElem (by simp)
  intro j h1 h2
  have hj : j < S.length := by simpa using h2
  rw [List.getElem_set, List.getElem_mapIdx, List.getElem_mapIdx]
  by_cases e : k = j
  · subst e
    rw [if_pos rfl]
    simp [hb hj]
  · rw [if_neg e]
    have : ((j : Int) = (k : Int)) = False := by rw [eq_iff_iff, iff_false]; omega
    simp [this]
section
variable {w p : World} {g gd gm : Nat} {row : Nat → Option Nat} {N : Nat} {d : DM}
theorem Dk.flushed (h : Dk w g gd gm row N d) (hK : Kept (fun j => j = gd) w p) (cap : Nat) (hg : w.heap[g]? = some (.cells #[.slice (some ⟨gd, 0, none⟩) d.S.length cap, .map (some gm), .bool d.on, .int .i64 (d.fuse : Int)] 90 (0, 0))) (hcap : d.S.length ≤ cap) (hcap2 : cap ≤ maxLen)
    {M : Nat} {f : Int → Option Value} (hM : Mp p gm M f) (cur : Array Value) (hc : p.heap[gd]? = some (.cells cur 93 (0, 0))) (hs : cur.size = cap * 64) (ht : cur.toList.take (d.S.length * 64) = scells (d.S.map lastB)) :
    ∃ p2, (Builtin.clear_ #[88] 0 #[.map (some gm)]).run Try.prog p = .ok (.tuple #[]) p2 ∧ Dk p2 g gd gm (fun _ => none) 0 ⟨d.S.map fun s => [lastB s], d.on, d.fuse⟩ ∧ Kept (fun j => j = gm) p p2 := by
  obtain ⟨n1, n2, n3, n4⟩ := h.g_ne
  have hok := h.ok
  obtain ⟨p2, hrun, hm2, hk2, hs2⟩ := hM.clear (P := Try.prog) Try.underlying88 0
  have hset : (d.S.map fun s => [lastB s]).map dur = d.S.map lastB := by rw [List.map_map]; rfl
  refine ⟨p2, hrun, ⟨⟨by simpa using hok.1, by simpa using hok.2.1, hok.2.2.1, ?_⟩, ⟨cap, cur, ?_, hk2.heap hc n3, ?_, hcap2, hs, ?_⟩, ⟨_, _, hm2, fun k h => absurd rfl h, fun j hj => .inl ⟨by simp, rfl, rfl⟩⟩, fun _ _ h => (by cases h), fun _ _ _ h => (by cases h), fun _ _ h => (by cases h)⟩, hk2⟩
  · intro s hs
    obtain ⟨s', hs', rfl⟩ := List.mem_map.1 hs
    obtain ⟨e1, _, e3⟩ := hok.2.2.2 s' hs'
    exact ⟨by simp, by simp, fun x hx => by rw [List.mem_singleton.1 hx]; exact e3 _ (lastB_mem e1)⟩
  · rw [List.length_map]; exact hk2.heap (hK.heap hg n1) n2
  · rw [List.length_map]; exact hcap
  · rw [List.length_map, hset]; exact ht
theorem flush_off (h : Dk w g gd gm row N d) (ho : d.on = false) :
    Calls Try.prog 34 #[.pointer (some ⟨g, 0, none⟩)] w fun e w' => e = .returned (.int .i64 10) ∧ w = w' := by
  obtain ⟨cap, h1, h2, c0, c1, c2, c3, f0⟩ := h.facts
  rw [ho] at c2
  clear h ho
  go_enter Try.func34, Try.ntmps34
  go_wp2
  go_ret
  exact ⟨rfl, rfl⟩
set_option maxRecDepth 100000 in
set_option maxHeartbeats 2000000 in
theorem flush_ok (h : Dk w g gd gm row N d) (ho : d.on = true) :
    Calls Try.prog 34 #[.pointer (some ⟨g, 0, none⟩)] w fun e w' => e = .returned (.int .i64 0) ∧ Dk w' g gd gm (fun _ => none) 0 d.flush ∧ Kept (Blk g gd gm row) w w' := by
  obtain ⟨cap, cur0, s1, s2, s3, s4, s5, s6⟩ := h.self
  obtain ⟨M, f, hm, hfd, hr⟩ := h.map
  obtain ⟨w1, hrg, ⟨cnt0, hRg0⟩, hk1, hsz1⟩ := hm.range (P := Try.prog) (t := 88) Try.underlying88
  obtain ⟨n1, n2, n3, n4⟩ := h.g_ne
  have hlt := h.lt
  have hgl := hlt g (.inl rfl)
  have hgdl := hlt gd (.inr (.inl rfl))
  have hgml := hlt gm (.inr (.inr (.inl rfl)))
  have c0 : w.cell? ⟨g, 0, none⟩ = some (.slice (some ⟨gd, 0, none⟩) d.S.length cap) := by rw [cell_of_row w g _ _ _ _ s1]; rfl
  have c1 : w.cell? ⟨g, 1, none⟩ = some (.map (some gm)) := by rw [cell_of_row w g _ _ _ _ s1]; rfl
  have c2 : w.cell? ⟨g, 2, none⟩ = some (.bool true) := by rw [cell_of_row w g _ _ _ _ s1, ← ho]; rfl
  have hne4 := h.ok.2.1
  have h64 : ∀ left : Int → Bool, ∀ b ∈ d.S.mapIdx fun k s => if left (k : Int) then dur s else lastB s, b.length = 64 := by
    intro left b hb
    obtain ⟨j, hj, rfl⟩ := List.mem_iff_getElem.1 hb
    rw [List.getElem_mapIdx]
    have hj' : j < d.S.length := by simpa using hj
    obtain ⟨e1, _, e3⟩ := h.ok.2.2.2 _ (List.getElem_mem hj')
    split
    · exact e3 _ (dur_mem e1)
    · exact e3 _ (lastB_mem e1)
  have hstart : Rg w1 w.heap.size gm M f (fun k => (f k).isSome) cnt0 ∧ (∀ k, (f k).isSome = true → (f k).isSome = true) ∧ Kept (fun j => j = gd) w w1 ∧ ∃ cur, w1.heap[gd]? = some (.cells cur 93 (0, 0)) ∧ cur.size = cap * 64 ∧ cur.toList.take (d.S.length * 64) = scells (d.S.mapIdx fun k s => if (f (k : Int)).isSome then dur s else lastB s) := by
    refine ⟨hRg0, fun _ h => h, hk1.mono (fun _ _ h => h.elim), cur0, hk1.heap s2 (fun h => h), s5, ?_⟩
    rw [s6]
    congr 1
    apply List.ext_getElem (by simp)
    intro j h1 h2
    rw [List.getElem_map, List.getElem_mapIdx]
    have hj : j < d.S.length := by simpa using h1
    rcases hr j hj with ⟨e1, e2, _⟩ | ⟨_, _, v, _, e2, _⟩
    · rw [e2]
      have hne := (h.ok.2.2.2 _ (List.getElem_mem hj)).1
      match hS : d.S[j], e1, hne with
      | [x], _, _ => rfl
    · rw [e2]; rfl
  have HS := Lib.hid hstart
  have H := Lib.hid h
  have H64 := Lib.hid h64
  have S1 := Lib.hid s1
  have Hr := Lib.hid hr
  have Hfd := Lib.hid hfd
  have Hne : Hid (gm ≠ gd ∧ g ≠ gd ∧ g ≠ gm) := Lib.hid ⟨fun e => n3 e.symm, n1, n2⟩
  have Hgd := Lib.hid hgdl
  have Hgl := Lib.hid hgl
  have Hgm := Lib.hid hgml
  have Hcap : Hid (d.S.length ≤ cap ∧ cap ≤ maxLen) := Lib.hid ⟨s3, s4⟩
  have Hr2 : Hid (∀ k j, row k = some j → j < w.heap.size ∧ j ≠ gd) := Lib.hid (fun k j hj => ⟨hlt j (.inr (.inr (.inr ⟨k, hj⟩))), h.apart k j hj⟩)
  have Hn4 := Lib.hid hne4
  have HW1 := Lib.hid hk1
  obtain ⟨L, hL⟩ : ∃ L, L = d.S.length := ⟨_, rfl⟩
  rw [← hL] at c0
  have HLe := Lib.hid hL
  clear hstart h64 s1 s2 s3 s4 s5 s6 hr hfd hRg0 n1 n2 n3 n4 hlt hgl hgdl hgml hm h ho hne4 hk1 hL
  go_enter Try.func34, Try.ntmps34
  go_wp2_with fail
  go_loopw [] (fun wr => ∃ left cnt, Rg wr w.heap.size gm M f left cnt ∧ (∀ k, left k = true → (f k).isSome = true) ∧ Kept (fun j => j = gd) w wr ∧ ∃ cur, wr.heap[gd]? = some (.cells cur 93 (0, 0)) ∧ cur.size = cap * 64 ∧ cur.toList.take (d.S.length * 64) = scells (d.S.mapIdx fun k s => if left (k : Int) then dur s else lastB s)) (fun wr => wr.rangeLeft gm w.heap.size)
  case atStart => exact ⟨_, cnt0, HS.out⟩
  case round =>
    obtain ⟨left, cnt, hRg, hLf, hKr, cur, hcur⟩ := hrel
    have HRg := Lib.hid hRg
    have HLf := Lib.hid hLf
    have HKr := Lib.hid hKr
    have Hcur := Lib.hid hcur
    have d0 := (hKr.cell (p := ⟨g, 0, none⟩) Hgl.out Hne.out.2.1).trans c0
    have d1 := (hKr.cell (p := ⟨g, 1, none⟩) Hgl.out Hne.out.2.1).trans c1
    rcases hRg.next (P := Try.prog) 0 with ⟨hall, hrun⟩ | ⟨k', v, w2, cnt', hlk, hfk, hrun, hRg2, hlt, hk2, hsz2, hen⟩
    · have hfin : cur.toList.take (d.S.length * 64) = scells (d.S.map lastB) := by
        rw [hcur.2.2]
        congr 1
        apply List.ext_getElem (by simp)
        intro j h1 h2
        rw [List.getElem_map, List.getElem_mapIdx, hall]
        rfl
      obtain ⟨p2, hclr, hd2, hk2⟩ := H.out.flushed hKr cap S1.out Hcap.out.1 Hcap.out.2 hRg.mp cur hcur.1 hcur.2.1 hfin
      have HB := Lib.hid (burn_dk hd2)
      have Hk2 := Lib.hid hk2
      clear hRg hLf hKr hcur hall hfin hd2 hk2
      go_wp2_with (go_at_call 54; refine HB.out.mono ?_; rintro e w9 ⟨rfl, hd9, hk9⟩; have Hd9 := Lib.hid hd9; have Hk9 := Lib.hid hk9; clear hd9 hk9)
      go_ret
      exact ⟨rfl, Hd9.out, ((HKr.out.mono (T := Blk g gd gm row) (fun j _ e => .inr (.inl e))).trans Hk2.out (fun j _ e => .inr (.inr (.inl e)))).trans Hk9.out (fun j _ e => .inl e)⟩
    · obtain ⟨hk0, hkl⟩ := Hfd.out k' (by rw [hfk]; simp)
      obtain ⟨k, rfl⟩ : ∃ k : Nat, k' = (k : Int) := ⟨k'.toNat, by omega⟩
      have hkL0 : k < d.S.length := by omega
      rcases Hr.out k hkL0 with ⟨_, e0, _⟩ | ⟨htl, gk, v', hrow, e0, hown⟩
      · rw [e0] at hfk; cases hfk
      rw [e0] at hfk
      obtain rfl : v' = v := by cases hfk; rfl
      obtain ⟨hsne, _, hs64⟩ := H.out.ok.2.2.2 _ (List.getElem_mem hkL0)
      have ht64 : ∀ b ∈ d.S[k].tail, b.length = 64 := fun b hb => hs64 b (List.mem_of_mem_tail hb)
      have hgk := Hr2.out k gk hrow
      obtain ⟨c, rfl, hmc, hc2, hrr⟩ := hown.secs ht64 rfl
      obtain ⟨bl, hbl⟩ : ∃ bl, bl = lastB d.S[k] := ⟨_, rfl⟩
      have Hbl : Hid (bl.length = 64) := Lib.hid (by rw [hbl]; exact hs64 _ (lastB_mem hsne))
      have Hbs : Hid (∀ (hk : k < d.S.length), lastB d.S[k] = bl) := Lib.hid (fun _ => hbl.symm)
      have hpl : 0 < d.S[k].tail.length := List.length_pos_iff.2 htl
      have hlast := hrr (d.S[k].tail.length - 1) (by omega)
      rw [tail_last _ htl (by omega), ← hbl] at hlast
      obtain ⟨m, hmm⟩ : ∃ m, m = d.S[k].tail.length := ⟨_, rfl⟩
      rw [← hmm] at hlast hmc hpl hrun hen
      have Hm : Hid (0 < m ∧ m ≤ 9223372036854775807 ∧ m ≤ c) := Lib.hid ⟨hpl, by omega, hmc⟩
      have hKq : Kept (fun j => j = gd ∨ j = w.heap.size) w w2 := (hKr.mono (fun _ _ e => .inl e)).trans hk2 (fun _ _ e => .inr e)
      obtain ⟨q, hq⟩ : ∃ q, q = w2 := ⟨_, rfl⟩
      have Hgq : Hid (g < q.heap.size) := Lib.hid (by rw [hq]; exact Nat.lt_of_lt_of_le Hgl.out hKq.size)
      have Hgdq : Hid (gd < q.heap.size) := Lib.hid (by rw [hq]; exact Nat.lt_of_lt_of_le Hgd.out hKq.size)
      have Hgkq : Hid (gk < q.heap.size) := Lib.hid (by rw [hq]; exact Nat.lt_of_lt_of_le hgk.1 hKq.size)
      have P0 : Hid (q.cell? ⟨g, 0, none⟩ = some (.slice (some ⟨gd, 0, none⟩) L cap)) := Lib.hid (by rw [hq]; exact (hKq.cell (p := ⟨g, 0, none⟩) Hgl.out (fun e => by rcases e with e | e; exact Hne.out.2.1 e; have := Hgl.out; simp only at e; omega)).trans c0)
      obtain ⟨m1, hm1⟩ : ∃ m1, m1 = m - 1 := ⟨_, rfl⟩
      have Hm1 := Lib.hid hm1
      have Hm1b : Hid ((m1 : Int) < (m : Int)) := Lib.hid (by omega)
      rw [← hm1] at hlast
      have PR : Hid (q.rangeAt gk (m1 * 64) (vals bl)) := Lib.hid (fun j v hv => by rw [hq]; exact (hKq.cell (p := ⟨gk, m1 * 64 + j, none⟩) hgk.1 (fun e => by rcases e with e | e; exact hgk.2 e; have := hgk.1; simp only at e; omega)).trans (hlast j v hv))
      have PT : Hid (q.there gd (k * 64) 64) := Lib.hid (fun j hj => by
        have hh : q.heap[gd]? = some (.cells cur 93 (0, 0)) := by rw [hq]; exact hk2.heap hcur.1 (fun e => by have := Hgd.out; omega)
        have hlt : k * 64 + j < cur.size := by rw [hcur.2.1]; have := Hcap.out.1; have := Nat.mul_le_mul_right 64 (show k + 1 ≤ cap by omega); omega
        refine ⟨?_, frozen_of_row q gd _ _ _ hh⟩
        rw [cell_of_row q gd _ _ _ _ hh, Array.getElem?_eq_getElem hlt]
        rfl)
      have HkL : Hid ((k : Int) < (L : Int)) := Lib.hid (by have := HLe.out; omega)
      have HLc : Hid (L ≤ cap ∧ cap ≤ 9223372036854775807 ∧ L ≤ 4096) := Lib.hid ⟨by have := HLe.out; have := Hcap.out; omega, by have := Hcap.out.2; unfold maxLen at this; omega, by have := HLe.out; have := Hn4.out; omega⟩
      have Hlk := Lib.hid hlk
      have HRg2 : Hid (Rg q w.heap.size gm M f (fun j => left j && !decide (j = (k : Int))) cnt') := Lib.hid (by rw [hq]; exact hRg2)
      have Hlt := Lib.hid hlt
      have Hk2 : Hid (Kept (fun j => j = w.heap.size) wr q) := Lib.hid (by rw [hq]; exact hk2)
      rw [← hq] at hrun hen
      have hkL2 := HkL.out
      clear hRg hLf hKr hcur hlk hfk hRg2 hlt hk2 hsz2 hk0 hkl e0 hown hsne hs64 ht64 hgk hmc hc2 hrr hbl hpl hlast hmm hm1 hKq hq htl hrow
      go_upto_region 6 with fail
      refine Roll.region_f 11 38 Dfl6 Lfl6 [(0, .pointer (some ⟨g, 0, none⟩)), (3, .int .i64 (k : Int)), (4, .slice (some ⟨gk, 0, none⟩) m c)] (fun p => Kept (fun _ => False) q p) (fun p p2 => Kept (fun _ => False) p p2) [fun vv p => vv = .pointer (some ⟨g, 0, none⟩), fun vv p => vv = .pointer (some ⟨g, 0, none⟩), fun vv p => vv = .pointer (some ⟨g, 0, none⟩), fun vv p => vv = .slice (some ⟨gd, 0, none⟩) L cap, fun vv p => vv = .int .i64 (k : Int), fun vv p => vv = .slice (some ⟨gk, 0, none⟩) m c, fun vv p => vv = .slice (some ⟨gk, 0, none⟩) m c, fun vv p => vv = .int .i64 (m : Int), fun vv p => vv = .int .i64 (m1 : Int), fun vv p => vv = .pointer (some ⟨gk, m1 * 64, none⟩), fun vv p => vv = .agg (vals bl).toArray] (by kernel_rfl) (by kernel_rfl) rfl ⟨rfl, rfl, rfl, trivial⟩ ((Kept.refl _ _).drew) ?_ ?_ ?_
      · exact ⟨fun _ _ _ _ h => h, fun _ _ _ _ h => h, fun _ _ _ _ h => h, fun _ _ _ _ h => h, fun _ _ _ _ h => h, fun _ _ _ _ h => h, fun _ _ _ _ h => h, fun _ _ _ _ h => h, fun _ _ _ _ h => h, fun _ _ _ _ h => h, fun _ _ _ _ h => h, trivial⟩
      · intro b0 hN hlv
        refine ⟨?_, ?_, ?_, ?_, ?_, ?_, ?_, ?_, ?_, ?_, ?_, trivial⟩
        · intro vs p hI hp
          have e0 : (Roll.putD Dfl6 vs [] b0).eval (.tmp 0) = .pointer (some ⟨g, 0, none⟩) := (Roll.eval_old rfl).trans (hlv.at 0 (0, .pointer (some ⟨g, 0, none⟩)) rfl)
          clear hp hlv hN
          unfold Roll.Goes
          simp only [Lfl6, List.getD_cons_zero, List.getD_cons_succ]
          generalize Roll.putD Dfl6 vs [] b0 = a1 at *
          refine Roll.goes_val (w' := p) (.pointer (some ⟨g, 0, none⟩)) rfl ?_ ⟨hI, Kept.refl _ _, rfl⟩
          (have ec : ∀ x, a1.eval (.const x) = x := fun _ => rfl); (have ef : ∀ x, a1.eval (.func x) = .func (.func x) #[] #[] := fun _ => rfl); generalize a1.eval = ρ at *
          skip
          go_simp <;> (intros; first | (exfalso; omega) | rfl)
        · intro vs p hI hp
          have h0 : (vs 0) = .pointer (some ⟨g, 0, none⟩) := hp 0 (by simp [Lfl6])
          have e20 : (Roll.putD Dfl6 vs [0] b0).eval (.tmp 20) = .pointer (some ⟨g, 0, none⟩) := (Roll.eval_new 0 rfl (by decide) (by decide) (by omega)).trans h0
          clear hp hlv hN
          unfold Roll.Goes
          simp only [Lfl6, List.getD_cons_zero, List.getD_cons_succ]
          generalize Roll.putD Dfl6 vs [0] b0 = a1 at *
          refine Roll.goes_val (w' := p) (.pointer (some ⟨g, 0, none⟩)) rfl ?_ ⟨hI, Kept.refl _ _, rfl⟩
          (have ec : ∀ x, a1.eval (.const x) = x := fun _ => rfl); (have ef : ∀ x, a1.eval (.func x) = .func (.func x) #[] #[] := fun _ => rfl); generalize a1.eval = ρ at *
          clear h0
          go_simp <;> (intros; first | (exfalso; omega) | rfl)
        · intro vs p hI hp
          have h1 : (vs 1) = .pointer (some ⟨g, 0, none⟩) := hp 1 (by simp [Lfl6])
          have e21 : (Roll.putD Dfl6 vs [1] b0).eval (.tmp 21) = .pointer (some ⟨g, 0, none⟩) := (Roll.eval_new 1 rfl (by decide) (by decide) (by omega)).trans h1
          clear hp hlv hN
          unfold Roll.Goes
          simp only [Lfl6, List.getD_cons_zero, List.getD_cons_succ]
          generalize Roll.putD Dfl6 vs [1] b0 = a1 at *
          refine Roll.goes_val (w' := p) (.pointer (some ⟨g, 0, none⟩)) rfl ?_ ⟨hI, Kept.refl _ _, rfl⟩
          (have ec : ∀ x, a1.eval (.const x) = x := fun _ => rfl); (have ef : ∀ x, a1.eval (.func x) = .func (.func x) #[] #[] := fun _ => rfl); generalize a1.eval = ρ at *
          clear h1
          go_simp <;> (intros; first | (exfalso; omega) | rfl)
        · intro vs p hI hp
          have h2 : (vs 2) = .pointer (some ⟨g, 0, none⟩) := hp 2 (by simp [Lfl6])
          have e22 : (Roll.putD Dfl6 vs [2] b0).eval (.tmp 22) = .pointer (some ⟨g, 0, none⟩) := (Roll.eval_new 2 rfl (by decide) (by decide) (by omega)).trans h2
          clear hp hlv hN
          unfold Roll.Goes
          simp only [Lfl6, List.getD_cons_zero, List.getD_cons_succ]
          generalize Roll.putD Dfl6 vs [2] b0 = a1 at *
          have c0p : p.cell? ⟨g, 0, none⟩ = some (.slice (some ⟨gd, 0, none⟩) L cap) := (hI.cell Hgq.out (fun h => h)).trans P0.out
          refine Roll.goes_val (w' := p) (.slice (some ⟨gd, 0, none⟩) L cap) rfl ?_ ⟨hI, Kept.refl _ _, rfl⟩
          (have ec : ∀ x, a1.eval (.const x) = x := fun _ => rfl); (have ef : ∀ x, a1.eval (.func x) = .func (.func x) #[] #[] := fun _ => rfl); generalize a1.eval = ρ at *
          clear h2
          go_simp <;> (intros; first | (exfalso; omega) | rfl)
        · intro vs p hI hp
          have e3 : (Roll.putD Dfl6 vs [] b0).eval (.tmp 3) = .int .i64 (k : Int) := (Roll.eval_old rfl).trans (hlv.at 1 (3, .int .i64 (k : Int)) rfl)
          clear hp hlv hN
          unfold Roll.Goes
          simp only [Lfl6, List.getD_cons_zero, List.getD_cons_succ]
          generalize Roll.putD Dfl6 vs [] b0 = a1 at *
          refine Roll.goes_val (w' := p) (.int .i64 (k : Int)) rfl ?_ ⟨hI, Kept.refl _ _, rfl⟩
          (have ec : ∀ x, a1.eval (.const x) = x := fun _ => rfl); (have ef : ∀ x, a1.eval (.func x) = .func (.func x) #[] #[] := fun _ => rfl); generalize a1.eval = ρ at *
          skip
          go_simp <;> (intros; first | (exfalso; omega) | rfl)
        · intro vs p hI hp
          have e4 : (Roll.putD Dfl6 vs [] b0).eval (.tmp 4) = .slice (some ⟨gk, 0, none⟩) m c := (Roll.eval_old rfl).trans (hlv.at 2 (4, .slice (some ⟨gk, 0, none⟩) m c) rfl)
          clear hp hlv hN
          unfold Roll.Goes
          simp only [Lfl6, List.getD_cons_zero, List.getD_cons_succ]
          generalize Roll.putD Dfl6 vs [] b0 = a1 at *
          refine Roll.goes_val (w' := p) (.slice (some ⟨gk, 0, none⟩) m c) rfl ?_ ⟨hI, Kept.refl _ _, rfl⟩
          (have ec : ∀ x, a1.eval (.const x) = x := fun _ => rfl); (have ef : ∀ x, a1.eval (.func x) = .func (.func x) #[] #[] := fun _ => rfl); generalize a1.eval = ρ at *
          skip
          go_simp <;> (intros; first | (exfalso; omega) | rfl)
        · intro vs p hI hp
          have e4 : (Roll.putD Dfl6 vs [] b0).eval (.tmp 4) = .slice (some ⟨gk, 0, none⟩) m c := (Roll.eval_old rfl).trans (hlv.at 2 (4, .slice (some ⟨gk, 0, none⟩) m c) rfl)
          clear hp hlv hN
          unfold Roll.Goes
          simp only [Lfl6, List.getD_cons_zero, List.getD_cons_succ]
          generalize Roll.putD Dfl6 vs [] b0 = a1 at *
          refine Roll.goes_val (w' := p) (.slice (some ⟨gk, 0, none⟩) m c) rfl ?_ ⟨hI, Kept.refl _ _, rfl⟩
          (have ec : ∀ x, a1.eval (.const x) = x := fun _ => rfl); (have ef : ∀ x, a1.eval (.func x) = .func (.func x) #[] #[] := fun _ => rfl); generalize a1.eval = ρ at *
          skip
          go_simp <;> (intros; first | (exfalso; omega) | rfl)
        · intro vs p hI hp
          have h6 : (vs 6) = .slice (some ⟨gk, 0, none⟩) m c := hp 6 (by simp [Lfl6])
          have e26 : (Roll.putD Dfl6 vs [6] b0).eval (.tmp 26) = .slice (some ⟨gk, 0, none⟩) m c := (Roll.eval_new 6 rfl (by decide) (by decide) (by omega)).trans h6
          clear hp hlv hN
          unfold Roll.Goes
          simp only [Lfl6, List.getD_cons_zero, List.getD_cons_succ]
          generalize Roll.putD Dfl6 vs [6] b0 = a1 at *
          refine Roll.goes_val (w' := p) (.int .i64 (m : Int)) rfl ?_ ⟨hI, Kept.refl _ _, rfl⟩
          (have ec : ∀ x, a1.eval (.const x) = x := fun _ => rfl); (have ef : ∀ x, a1.eval (.func x) = .func (.func x) #[] #[] := fun _ => rfl); generalize a1.eval = ρ at *
          clear h6
          go_simp <;> (intros; first | (exfalso; omega) | rfl)
        · intro vs p hI hp
          have h7 : (vs 7) = .int .i64 (m : Int) := hp 7 (by simp [Lfl6])
          have e27 : (Roll.putD Dfl6 vs [7] b0).eval (.tmp 27) = .int .i64 (m : Int) := (Roll.eval_new 7 rfl (by decide) (by decide) (by omega)).trans h7
          clear hp hlv hN
          unfold Roll.Goes
          simp only [Lfl6, List.getD_cons_zero, List.getD_cons_succ]
          generalize Roll.putD Dfl6 vs [7] b0 = a1 at *
          have hm1 := Hm.out.1
          have hm2 := Hm.out.2.1
          have hm6 := Hm1.out
          have hwr : IntKind.i64.wrap ((m : Int) - 1) = (m1 : Int) := (i64_id _ (by omega) (by omega)).trans (by omega)
          clear hm6
          refine Roll.goes_val (w' := p) (.int .i64 (m1 : Int)) rfl ?_ ⟨hI, Kept.refl _ _, rfl⟩
          (have ec : ∀ x, a1.eval (.const x) = x := fun _ => rfl); (have ef : ∀ x, a1.eval (.func x) = .func (.func x) #[] #[] := fun _ => rfl); generalize a1.eval = ρ at *
          clear h7
          go_simp <;> (intros; first | (exfalso; omega) | rfl)
        · intro vs p hI hp
          have h5 : (vs 5) = .slice (some ⟨gk, 0, none⟩) m c := hp 5 (by simp [Lfl6])
          have h8 : (vs 8) = .int .i64 (m1 : Int) := hp 8 (by simp [Lfl6])
          have e25 : (Roll.putD Dfl6 vs [5, 8] b0).eval (.tmp 25) = .slice (some ⟨gk, 0, none⟩) m c := (Roll.eval_new 5 rfl (by decide) (by decide) (by omega)).trans h5
          have e28 : (Roll.putD Dfl6 vs [5, 8] b0).eval (.tmp 28) = .int .i64 (m1 : Int) := (Roll.eval_new 8 rfl (by decide) (by decide) (by omega)).trans h8
          clear hp hlv hN
          unfold Roll.Goes
          simp only [Lfl6, List.getD_cons_zero, List.getD_cons_succ]
          generalize Roll.putD Dfl6 vs [5, 8] b0 = a1 at *
          have hm3 := Hm.out.2.2
          have hm5 : (m1 : Int) < (m : Int) := Hm1b.out
          refine Roll.goes_val (w' := p) (.pointer (some ⟨gk, m1 * 64, none⟩)) rfl ?_ ⟨hI, Kept.refl _ _, rfl⟩
          (have ec : ∀ x, a1.eval (.const x) = x := fun _ => rfl); (have ef : ∀ x, a1.eval (.func x) = .func (.func x) #[] #[] := fun _ => rfl); generalize a1.eval = ρ at *
          clear h5 h8
          go_simp <;> (intros; first | (exfalso; omega) | rfl)
        · intro vs p hI hp
          have h9 : (vs 9) = .pointer (some ⟨gk, m1 * 64, none⟩) := hp 9 (by simp [Lfl6])
          have e29 : (Roll.putD Dfl6 vs [9] b0).eval (.tmp 29) = .pointer (some ⟨gk, m1 * 64, none⟩) := (Roll.eval_new 9 rfl (by decide) (by decide) (by omega)).trans h9
          clear hp hlv hN
          unfold Roll.Goes
          simp only [Lfl6, List.getD_cons_zero, List.getD_cons_succ]
          generalize Roll.putD Dfl6 vs [9] b0 = a1 at *
          exact Roll.goes_load_mid rfl 93 (.tmp 29) rfl gk (m1 * 64) e29 (vals bl) _ (fun j v hv => (hI.cell (p := ⟨gk, m1 * 64 + j, none⟩) Hgkq.out (fun h => h)).trans (PR.out j v hv)) Try.underlying93 rfl (size64v Hbl.out) ⟨hI, Kept.refl _ _, rfl⟩
      · intro vs p hI hR
        have h0 : (vs 0) = .pointer (some ⟨g, 0, none⟩) := hR 0 (by omega)
        have h1 : (vs 1) = .pointer (some ⟨g, 0, none⟩) := hR 1 (by omega)
        have h2 : (vs 2) = .pointer (some ⟨g, 0, none⟩) := hR 2 (by omega)
        have h3 : (vs 3) = .slice (some ⟨gd, 0, none⟩) L cap := hR 3 (by omega)
        have h4 : (vs 4) = .int .i64 (k : Int) := hR 4 (by omega)
        have h5 : (vs 5) = .slice (some ⟨gk, 0, none⟩) m c := hR 5 (by omega)
        have h6 : (vs 6) = .slice (some ⟨gk, 0, none⟩) m c := hR 6 (by omega)
        have h7 : (vs 7) = .int .i64 (m : Int) := hR 7 (by omega)
        have h8 : (vs 8) = .int .i64 (m1 : Int) := hR 8 (by omega)
        have h9 : (vs 9) = .pointer (some ⟨gk, m1 * 64, none⟩) := hR 9 (by omega)
        have h10 : (vs 10) = .agg (vals bl).toArray := hR 10 (by omega)
        clear hR
        simp only [List.range_succ, List.range_zero, List.nil_append, List.cons_append, Roll.putD, Act.put, List.getD_cons_zero, List.getD_cons_succ, List.setIfInBounds_toArray, List.set_cons_zero, List.set_cons_succ, List.drop_succ_cons, List.drop_zero, Dfl6]
        simp only [h0, h1, h2, h3, h4, h5, h6, h7, h8, h9, h10]
        clear h0 h1 h2 h3 h4 h5 h6 h7 h8 h9 h10
        have HI := Lib.hid hI
        have PTH : Hid (p.there gd (k * 64) 64) := Lib.hid (fun j hj => by
          obtain ⟨h1, h2⟩ := PT.out j hj
          exact ⟨by rw [hI.cell (p := ⟨gd, k * 64 + j, none⟩) Hgdq.out (fun h => h)]; exact h1, by rw [hI.frozen (p := ⟨gd, k * 64 + j, none⟩) Hgdq.out (fun h => h)]; exact h2⟩)
        clear hI
        have hkL := HkL.out
        have hLc := HLc.out
        go_wp2_with (refine wpList_store_mid rfl 93 (.tmp 31) (.tmp 30) rfl gd (k * 64) _ rfl rfl (by rw [List.size_toArray, vals_len, Hbl.out]; exact PTH.out) (size64a Hbl.out) (one64 _) ?_)
        go_roundw
        case rel =>
          have hp1 : p.heap[gd]? = some (.cells cur 93 (0, 0)) := HI.out.heap (Hk2.out.heap Hcur.out.1 (fun e => by have := Hgd.out; omega)) (fun h => h)
          obtain ⟨cur', q1, q2, q3⟩ := heap_setCells_own (vals bl) (k * 64) p cur hp1 (by rw [vals_len, Hbl.out, Hcur.out.2.1]; have := Nat.mul_le_mul_right 64 (show k + 1 ≤ cap by omega); omega)
          have KS : Kept (fun j => j = gd) p (p.setCells gd (k * 64) (vals bl)) := Kept.setCells _ _ (Kept.refl _ _) (fun _ => rfl)
          have hrg : Rg (p.setCells gd (k * 64) (vals bl)) w.heap.size gm M f (fun j => left j && !decide (j = (k : Int))) cnt' := (HRg2.out.kept HI.out (fun h => h) (fun h => h)).kept KS (fun e => Hne.out.1 e) (fun e => by have := Hgd.out; omega)
          refine ⟨_, _, _, _, _, _, _, _, _, _, _, _, _, _, _, _, _, _, _, ⟨_, cnt', hrg, fun j hj => HLf.out j (by simp at hj; exact hj.1), (HKr.out.trans ((Hk2.out.mono (T := fun j => j = gd ∨ j = w.heap.size) (fun _ _ e => .inr e)).trans (HI.out.mono (fun _ _ h => h.elim)) (fun _ _ h => h)) (fun j hj e => by omega)).trans KS (fun _ _ h => h), cur', q1, q2.trans Hcur.out.2.1, ?_⟩, rfl⟩
          rw [q3, vals_len, Hbl.out, take_splice _ _ _ _ _ (by rw [vals_len, Hbl.out]) (by have := Nat.mul_le_mul_right 64 (show k + 1 ≤ d.S.length by have := HLe.out; omega); omega) (by rw [Array.length_toList, Hcur.out.2.1]; exact Nat.mul_le_mul_right 64 (by have := HLe.out; omega)), Hcur.out.2.2, ← scells_set (H64.out left) k (by rw [List.length_mapIdx]; have := HLe.out; omega)]
          congr 1
          exact flush_list d.S k left bl Hlk.out Hbs.out
        case measure => rw [(HRg2.out.kept HI.out (fun h => h) (fun h => h) |>.kept ((Kept.setCells (vals bl) (k * 64) (Kept.refl (fun j => j = gd) p) (fun _ => rfl))) (fun e => Hne.out.1 e) (fun e => by have := Hgd.out; omega)).left_eq, HRg.out.left_eq]; exact Hlt.out
end
end Go.Proofs.Ythffegfcgmhppaa
namespace Go.Proofs.Ythffegfcgmhppaa
open Go.RowKit
set_option linter.unusedSimpArgs false
set_option linter.unusedVariables false
def Dcl7 : List (Option Tmp) := [some 32, some 33, some 34, some 35, some 36, none]
def Lcl7 : List (List Nat) := [[], [0], [], [], [3], [1, 2, 4]]
/-- m[k] = new writes -/
theorem Dk.setTail {w p : World} {g gd gm : Nat} {row : Nat → Option Nat} {N : Nat} {d : DM} (h : Dk w g gd gm row N d) {k : Nat} (hk : k < d.S.length) {T : List (List UInt8)} (hT0 : T ≠ []) (hT64 : ∀ b ∈ T, b.length = 64) (hTN : T.length ≤ N) {k' : Nat} {v' : Value}
    (hK : Kept (fun j => row k = some j) w p) (ho : Own p 93 64 (some k') v' T.length (scells T)) (hf : row k = some k' ∨ w.heap.size ≤ k') :
    ∃ p2, (Instr.mapUpdate 88 (.map (some gm)) (.int .i64 (k : Int)) v').run Try.prog p = .ok () p2 ∧ Dk p2 g gd gm (rowSet row k (some k')) N ⟨d.S.set k (dur d.S[k] :: T), d.on, d.fuse⟩ ∧ Kept (fun j => row k = some j ∨ j = gm) w p2 ∧ p2.heap.size = p.heap.size := by
  obtain ⟨n1, n2, n3, n4⟩ := h.g_ne
  have hlt := h.lt
  obtain ⟨hok, ⟨cap, cur, h1, h2, h3, h4, h5, h6⟩, ⟨M, f, hm, hfd, hr⟩, hdom, hinj, hap⟩ := h
  have hn4 := hok.2.1
  have hgm : ¬ row k = some gm := fun e => (n4 k gm e).2 rfl
  have hgm2 := hlt gm (.inr (.inr (.inl rfl)))
  obtain ⟨p2, hrun, hm2, hk2, hs2⟩ := (hm.kept hK hgm).put (P := Try.prog) Try.underlying88 Try.underlying3 (k : Int) (WalkArith.wf_i64 (by omega)) v'
  have hK2 : Kept (fun j => row k = some j ∨ j = gm) w p2 := (hK.mono fun j _ hj => .inl hj).trans hk2 (fun j _ hj => .inr hj)
  have hkgm : k' ≠ gm := by
    rcases hf with e | e
    · exact (n4 k k' e).2
    · omega
  have hkg : k' ≠ g ∧ k' ≠ gd := by
    rcases hf with e | e
    · exact ⟨(n4 k k' e).1, hap k k' e⟩
    · have := hlt g (.inl rfl)
      have := hlt gd (.inr (.inl rfl))
      omega
  have hlen : (d.S.set k (dur d.S[k] :: T)).length = d.S.length := by simp
  have hold : ∀ i j, row i = some j → i ≠ k → j ≠ k' := by
    intro i j hi hne e
    subst e
    rcases hf with e2 | e2
    · exact hne (hinj i k j hi e2)
    · have := hlt j (.inr (.inr (.inr ⟨i, hi⟩)))
      omega
  have hdm : (d.S.set k (dur d.S[k] :: T)).map dur = d.S.map dur := by
    apply List.ext_getElem (by simp)
    intro i hi hi2
    rw [List.getElem_map, List.getElem_map, List.getElem_set]
    split
    · rename_i e
      subst e
      rfl
    · rfl
  refine ⟨p2, hrun, ⟨?_, ⟨cap, cur, ?_, ?_, ?_, h4, h5, ?_⟩, ⟨_, _, hm2, ?_, ?_⟩, ?_, ?_, ?_⟩, hK2, hs2⟩
  · refine ⟨by simpa using hok.1, by simpa using hok.2.1, hok.2.2.1, fun s hs => ?_⟩
    simp only at hs
    rcases List.mem_or_eq_of_mem_set hs with hs | rfl
    · exact hok.2.2.2 s hs
    · obtain ⟨e1, _, e3⟩ := hok.2.2.2 _ (List.getElem_mem hk)
      refine ⟨by simp, by rw [List.length_cons]; omega, fun x hx => ?_⟩
      rcases List.mem_cons.1 hx with rfl | hx
      · exact e3 _ (dur_mem e1)
      · exact hT64 x hx
  · rw [hlen]
    exact hK2.heap h1 (fun e => by rcases e with e | e; exact (n4 k g e).1 rfl; exact n2 e)
  · exact hK2.heap h2 (fun e => by rcases e with e | e; exact hap k gd e rfl; exact n3 e)
  · rw [hlen]; exact h3
  · rw [hlen, h6, hdm]
  · intro j hj
    rw [hlen]
    by_cases e : j = (k : Int)
    · subst e; omega
    · rw [fput_other _ _ e] at hj; exact hfd j hj
  · intro j hj
    have hj' : j < d.S.length := by rw [hlen] at hj; exact hj
    by_cases e : j = k
    · subst e
      refine .inr ?_
      have et : ((d.S.set j (dur d.S[j] :: T))[j]).tail = T := by rw [List.getElem_set_self]; rfl
      simp only [et]
      refine ⟨hT0, k', v', rowSet_same _ _ _, fput_same _ _ _, ?_⟩
      exact ho.kept hk2 (fun j hj e => hkgm (by cases hj; exact e))
    · have et : (d.S.set k (dur d.S[k] :: T))[j] = d.S[j] := List.getElem_set_ne (fun e2 => e e2.symm) _
      simp only [et, rowSet_other _ _ e, fput_other f v' (show (j : Int) ≠ (k : Int) by omega)]
      rcases hr j hj' with h0 | ⟨h0, gk, v, hg, hv, hoo⟩
      · exact .inl h0
      · refine .inr ⟨h0, gk, v, hg, hv, hoo.kept hK2 (fun j2 hj2 e2 => ?_)⟩
        cases hj2
        rcases e2 with e2 | e2
        · exact e (hinj j k gk hg e2)
        · exact (n4 j gk hg).2 e2
  · intro i j hi
    rw [hlen]
    by_cases e : i = k
    · omega
    · rw [rowSet_other _ _ e] at hi; exact hdom i j hi
  · intro i j g' hi hj
    by_cases e : i = k
    · by_cases e2 : j = k
      · omega
      · subst e
        rw [rowSet_same] at hi
        rw [rowSet_other _ _ e2] at hj
        cases hi
        exact absurd rfl (hold j _ hj e2)
    · rw [rowSet_other _ _ e] at hi
      by_cases e2 : j = k
      · subst e2
        rw [rowSet_same] at hj
        cases hj
        exact absurd rfl (hold i _ hi e)
      · rw [rowSet_other _ _ e2] at hj
        exact hinj i j g' hi hj
  · intro i g' hi
    by_cases e : i = k
    · subst e
      rw [rowSet_same] at hi
      cases hi
      exact hkg.2
    · rw [rowSet_other _ _ e] at hi
      exact hap i g' hi

theorem run_build0 (W : World) : (Instr.buildSlice 87 0 #[]).run Try.prog W = .ok (.slice (some ⟨W.heap.size, 0, none⟩) 0 0) (W.alloc (.cells #[] 93)) := by kernel_rfl
theorem run_makeMap90 (n : Int) (W : World) : (Instr.makeMap 88 (some (.int .i64 n))).run Try.prog W = .ok (.map (some W.heap.size)) (W.alloc (.map #[] 0)) := by kernel_rfl
set_option maxRecDepth 100000 in
set_option maxHeartbeats 400000 in
theorem clone_sec (w : World) (b n c : Nat) (l : List (List UInt8)) (hn : l.length = n) (hp : 0 < n ∧ ∀ x ∈ l, x.length = 64) (hnc : n ≤ c ∧ c ≤ maxLen) (hnN : n ≤ 1000000) (hr : w.rangeAt b 0 (scells l)) :
    Calls Try.prog 49 #[.slice (some ⟨b, 0, none⟩) n c] w fun e w' => ∃ k cp, e = .returned (.slice (some ⟨k, 0, none⟩) n cp) ∧ Own w' 93 64 (some k) (.slice (some ⟨k, 0, none⟩) n cp) n (scells l) ∧ w.heap.size ≤ k ∧ Below w.heap.size w w' := by
  obtain ⟨i0, hi, hz0, hz1, hz2⟩ := info_parts info94
  have hB : Sl (fun _ => True) w (some ⟨b, 0, none⟩) n c (scells l) 64 := ⟨by rw [scells_len hp.2, hn], hnc.1, hnc.2, (fun h => by cases h), fun _ => ⟨b, 0, trivial, rfl, hr⟩⟩
  have HB := Lib.hid hB
  have HP := Lib.hid hp.1
  have ke := fun (w : World) => Lib.run_eql_slice_nil (P := Try.prog) w 87 93 (some ⟨b, 0, none⟩) n c 0 0 Try.underlying87
  have hb0 := run_build0
  clear hB hr hp hn
  go_enter Try.func49, Try.ntmps49
  go_wp2_with (at_builtin; refine wpList_append_any _ rfl (.tmp 5) (.tmp 6) 87 87 rfl 93 i0 (.agg Z64) 64 64 Try.underlying87 hi hz0 hz1 hz2 cells64 (some w.heap.size) _ 0 [] rfl (Own.made w 93 64 #[] 0 (Nat.zero_le _) rfl) n (scells l) ((HB.out.kept (by decide) ((Kept.refl (fun _ => False) w).alloc _) (fun _ _ _ h => h)).src Try.underlying87 (scells_one _)) (by unfold maxLen; omega) (by omega) ?_)
  intro k' v' w' ho hf hK hn
  obtain ⟨k2, rfl⟩ := Option.ne_none_iff_exists'.1 (hn HP.out)
  have ho : Own w' 93 64 (some k2) v' n (scells l) := by first | exact ho | (rw [Nat.zero_add] at ho; exact ho)
  obtain ⟨cp, rfl⟩ : ∃ cp, v' = .slice (some ⟨k2, 0, none⟩) n cp := by
    rcases ho.2 with ⟨h0, _⟩ | ⟨g', cap', cur, hg', hv, _⟩
    · cases h0
    · cases hg'; exact ⟨cap', hv⟩
  have HO : Hid (Own w' 93 64 (some k2) (.slice (some ⟨k2, 0, none⟩) n cp) n (scells l)) := Lib.hid ho
  have HF : Hid (w.heap.size ≤ k2) := Lib.hid (by
    rcases hf k2 rfl with h | h
    · cases h; exact Nat.le_refl _
    · exact Nat.le_trans (by simp) h)
  have HBL : Hid (Below w.heap.size w w') := Lib.hid (((Below.refl w.heap.size w).alloc (Nat.le_refl _) _).trans (hK.below (by simp) (fun j hj h => by cases h; omega)))
  clear ho hf hK hn
  go_wp2
  go_ret
  exact ⟨k2, _, rfl, HO.out, HF.out, HBL.out⟩
theorem clone_list (S : List (List (List UInt8))) (k : Nat) (left : Int → Bool) (s : List (List UInt8)) (hs : ∀ (hk : k < S.length), S[k] = s) :
    (S.mapIdx fun j s => if left (j : Int) then [dur s] else s).set k s = S.mapIdx fun j s => if (left (j : Int) && !decide ((j : Int) = (k : Int))) then [dur s] else s := by
  apply List.ext_getElem (by simp)
  intro j h1 h2
  have hj : j < S.length := by simpa using h2
  rw [List.getElem_set, List.getElem_mapIdx, List.getElem_mapIdx]
  by_cases e : k = j
  · subst e
    rw [if_pos rfl]
    simp [hs hj]
  · rw [if_neg e]
    have : ((j : Int) = (k : Int)) = False := by rw [eq_iff_iff, iff_false]; omega
    simp [this]
section
variable {w : World} {g gd gm : Nat} {row : Nat → Option Nat} {N : Nat} {d : DM}
theorem Dk.fresh {W : World} {gc gdc gmc cap M : Nat} (hok : d.Ok N) (h1 : ∀ s ∈ d.S, s.tail = []) (hg : W.heap[gc]? = some (.cells #[.slice (some ⟨gdc, 0, none⟩) d.S.length cap, .map (some gmc), .bool d.on, .int .i64 (d.fuse : Int)] 90 (0, 0)))
    (ho : Own W 93 64 (some gdc) (.slice (some ⟨gdc, 0, none⟩) d.S.length cap) d.S.length (scells (d.S.map dur))) (hm : Mp W gmc M (fun _ => none)) : Dk W gc gdc gmc (fun _ => none) N d := by
  rcases ho.2 with ⟨h0, _⟩ | ⟨g', cap', cur, hg', hv, hh, hnc, hc, hs, ht⟩
  · cases h0
  · cases hg'
    obtain rfl : cap = cap' := by injection hv
    exact ⟨hok, ⟨cap, cur, hg, hh, hnc, hc, hs, ht⟩, ⟨M, _, hm, fun k h => absurd rfl h, fun j hj => .inl ⟨h1 _ (List.getElem_mem hj), rfl, rfl⟩⟩, fun _ _ h => (by cases h), fun _ _ _ h => (by cases h), fun _ _ h => (by cases h)⟩
theorem run_alloc92 (W : World) : (Instr.alloc 90 true (.tuple #[])).run Try.prog W = .ok (.pointer (some ⟨W.heap.size, 0, none⟩)) (W.alloc (.cells #[.slice none 0 0, .map none, .bool false, .int .i64 0] 90)) := by kernel_rfl
set_option maxRecDepth 100000 in
set_option maxHeartbeats 2000000 in
theorem clone_dk (h : Dk w g gd gm row N d) (hN : N ≤ 100000) :
    Calls Try.prog 20 #[.pointer (some ⟨g, 0, none⟩)] w fun e w' => ∃ gc, e = .returned (.pointer (some ⟨gc, 0, none⟩)) ∧ (∃ gdc gmc rowc, Dk w' gc gdc gmc rowc N d ∧ ∀ j, Blk gc gdc gmc rowc j → w.heap.size ≤ j) ∧ Below w.heap.size w w' := by
  obtain ⟨cap, cur0, s1, s2, s3, s4, s5, s6⟩ := h.self
  obtain ⟨M, f, hm, hfd, hr⟩ := h.map
  have hlt := h.lt
  have hgl := hlt g (.inl rfl)
  have hgdl := hlt gd (.inr (.inl rfl))
  have hgml := hlt gm (.inr (.inr (.inl rfl)))
  have hok := h.ok
  have hd64 : ∀ b ∈ d.S.map dur, b.length = 64 := by
    intro x hx
    obtain ⟨s, hs, rfl⟩ := List.mem_map.1 hx
    obtain ⟨e1, _, e3⟩ := hok.2.2.2 s hs
    exact e3 _ (dur_mem e1)
  obtain ⟨L, hL⟩ : ∃ L, L = d.S.length := ⟨_, rfl⟩
  rw [← hL] at s1
  obtain ⟨w1, hw1⟩ : ∃ w1, w1 = (w.alloc (.cells #[.slice none 0 0, .map none, .bool false, .int .i64 0] 90)).setRow w.heap.size #[.slice (some ⟨gd, 0, none⟩) L cap, .map (some gm), .bool d.on, .int .i64 (d.fuse : Int)] := ⟨_, rfl⟩
  have hb1 : Below w.heap.size w w1 := by rw [hw1]; exact below_setRow ((Below.refl _ _).alloc (Nat.le_refl _) _) (Nat.le_refl _) _
  have hn1 : w1.heap[w.heap.size]? = some (.cells #[.slice (some ⟨gd, 0, none⟩) L cap, .map (some gm), .bool d.on, .int .i64 (d.fuse : Int)] 90 (0, 0)) := by rw [hw1]; exact setRow_heap _ _ _ _ _ _ (heap_new rfl)
  have c0 : w1.cell? ⟨g, 0, none⟩ = some (.slice (some ⟨gd, 0, none⟩) L cap) := (hb1.cell (p := ⟨g, 0, none⟩) hgl).trans (by rw [cell_of_row w g _ _ _ _ s1]; rfl)
  have c1 : w.cell? ⟨g, 1, none⟩ = some (.map (some gm)) := by rw [cell_of_row w g _ _ _ _ s1]; rfl
  have hrd : w1.rangeAt gd 0 (scells (d.S.map dur)) := by
    intro j v hv
    refine (hb1.cell (p := ⟨gd, 0 + j, none⟩) hgdl).trans ?_
    rw [Nat.zero_add, cell_of_row w gd _ _ _ _ s2]
    rw [← s6, List.getElem?_take] at hv
    split at hv
    · simpa using hv
    · cases hv
  have HC := clone_sec w1 gd L cap (d.S.map dur) (by rw [List.length_map, hL]) ⟨by rw [hL]; exact hok.1, hd64⟩ ⟨by rw [hL]; exact s3, s4⟩ (by have := hok.2.1; omega) hrd
  have HC := Lib.hid HC
  have H := Lib.hid h
  have HOK := Lib.hid hok
  have Hw1 := Lib.hid hw1
  have Hb1 := Lib.hid hb1
  have Hn1 := Lib.hid hn1
  have S1 := Lib.hid s1
  have C1 := Lib.hid c1
  have Hm := Lib.hid hm
  have Hrr := Lib.hid hr
  have Hfd := Lib.hid hfd
  have Hgl := Lib.hid hgl
  have Hgml := Lib.hid hgml
  have HL := Lib.hid hL
  have Hr2 : Hid (∀ k j, row k = some j → j < w.heap.size) := Lib.hid (fun k j hj => hlt j (.inr (.inr (.inr ⟨k, hj⟩))))
  clear h hok hlt hgl hgdl hgml hw1 hb1 hn1 hrd s1 s2 s3 s4 s5 s6 hm hr hfd c1 hd64 hL
  go_enter Try.func20, Try.ntmps20
  go_upto_region 2 with (first
    | (refine wpList_load_row rfl 90 (.tmp 7) rfl g rfl 90 _ (0, 0) _ S1.out Try.underlying90 rfl (by kernel_rfl) ?_)
    | (refine wpList_alloc_z rfl 90 rfl _ 90 run_alloc92 ?_)
    | (refine wpList_store_row rfl 90 (.tmp 3) (.tmp 8) rfl w.heap.size _ rfl rfl 90 _ (heap_new rfl) (by kernel_rfl) rfl (by simp [Value.oneCell']) ?_))
  rw [← Hw1.out]
  obtain ⟨gc, hgc⟩ : ∃ gc, gc = w.heap.size := ⟨_, rfl⟩
  rw [← hgc]
  have Hgc := Lib.hid hgc
  have hn1 := Hn1.out
  rw [← hgc] at hn1
  have fz : ∀ i, w1.frozen? ⟨gc, i, none⟩ = false := fun i => frozen_of_row w1 gc i _ _ hn1
  have e0 : w1.cell? ⟨gc, 0, none⟩ = some (.slice (some ⟨gd, 0, none⟩) L cap) := by rw [cell_of_row w1 gc _ _ _ _ hn1]; rfl
  have Hn1b := Lib.hid hn1
  have Hfz := Lib.hid fz
  have He0 := Lib.hid e0
  clear hgc hn1 fz e0 Hn1
  go_upto_region 3 with (go_at_call 49; refine HC.out.mono ?_; rintro e w2 ⟨gdc, vc, rfl, ho, hf, hb⟩; have HO := Lib.hid ho; have HF := Lib.hid hf; have HB := Lib.hid hb; have f2 := (hb.frozen (p := ⟨gc, 0, none⟩) (heap_lt Hn1b.out)).trans (Hfz.out 0); have e2 := (hb.cell (p := ⟨gc, 0, none⟩) (heap_lt Hn1b.out)).trans He0.out; clear ho hf hb)
  obtain ⟨W2, hW2⟩ : ∃ W2, W2 = w2.setCell ⟨gc, 0, none⟩ (.slice (some ⟨gdc, 0, none⟩) L vc) := ⟨_, rfl⟩
  rw [← hW2]
  clear f2 e2
  have hgcw : gc = w.heap.size := Hgc.out
  have hs1 : w.heap.size < w1.heap.size := by rw [← hgcw]; exact heap_lt Hn1b.out
  have hn2 : w2.heap[gc]? = _ := (HB.out.block _ (heap_lt Hn1b.out)).trans Hn1b.out
  have hW2c : W2.heap[gc]? = some (.cells #[.slice (some ⟨gdc, 0, none⟩) L vc, .map (some gm), .bool d.on, .int .i64 (d.fuse : Int)] 90 (0, 0)) := by rw [hW2]; exact heap_setCell_same w2 gc 0 _ _ _ hn2
  have hK2 : Kept (fun _ => False) w W2 := by
    have k1 : Kept (fun j => j = gc) w W2 := by rw [hW2]; exact (((Kept.of_below (fun j => j = gc) Hb1.out).trans (Kept.of_below (fun j => j = gc) HB.out) (fun _ _ h => h)).setCell (p := ⟨gc, 0, none⟩) (fun _ => rfl) _)
    exact ⟨k1.os, k1.tape, k1.output, k1.size, fun j hj _ => k1.block j hj (fun e => by omega)⟩
  have hgdcs : gdc < w2.heap.size := HO.out.lt _ rfl
  have HO2 : Hid (Own W2 93 64 (some gdc) (.slice (some ⟨gdc, 0, none⟩) L vc) L (scells (d.S.map dur))) := Lib.hid (by rw [hW2]; exact HO.out.kept ((Kept.refl (fun j => j = gc) w2).setCell (p := ⟨gc, 0, none⟩) (fun _ => rfl) _) (fun j hj e => by cases hj; have := HF.out; omega))
  obtain ⟨n', _, hlen⟩ := (Hm.out.kept hK2 (fun h => h)).len (P := Try.prog) (t := 88) Try.underlying88 3
  obtain ⟨gmc, hgmc⟩ : ∃ gmc, gmc = W2.heap.size := ⟨_, rfl⟩
  obtain ⟨W2b, hW2b⟩ : ∃ W2b, W2b = W2.alloc (.map #[] 0) := ⟨_, rfl⟩
  have hmk := run_makeMap90 (n' : Int) W2
  rw [← hgmc, ← hW2b] at hmk
  have hW2bc : W2b.heap[gc]? = some (.cells #[.slice (some ⟨gdc, 0, none⟩) L vc, .map (some gm), .bool d.on, .int .i64 (d.fuse : Int)] 90 (0, 0)) := by rw [hW2b]; exact heap_old hW2c
  have i1 := (hK2.cell (p := ⟨g, 1, none⟩) Hgl.out (fun h => h)).trans C1.out
  have fz2 : W2b.frozen? ⟨gc, 1, none⟩ = false := frozen_of_row W2b gc 1 _ _ hW2bc
  have e12 : W2b.cell? ⟨gc, 1, none⟩ = some (.map (some gm)) := by rw [cell_of_row W2b gc _ _ _ _ hW2bc]; rfl
  have HW2b := Lib.hid hW2b
  have Hgmc0 := Lib.hid hgmc
  have HW2bc := Lib.hid hW2bc
  have HW2c := Lib.hid hW2c
  have HK2 := Lib.hid hK2
  have hW2s : w2.heap.size ≤ W2.heap.size := by rw [hW2]; simp [World.setCell]
  have HgdW : Hid (gdc < W2.heap.size ∧ w.heap.size < gdc ∧ gc < W2.heap.size) := Lib.hid ⟨by omega, by have := HF.out; omega, heap_lt hW2c⟩
  have Hs1 := Lib.hid hs1
  clear hW2b hgmc hW2bc hn2 hW2c hK2 hgdcs HO HF HB hW2 hW2s c0 hgcw hs1
  go_upto_region 4 with fail
  have hgcw : gc = w.heap.size := Hgc.out
  have hs1 := Hs1.out
  obtain ⟨W3, hW3⟩ : ∃ W3, W3 = W2b.setCell ⟨gc, 1, none⟩ (.map (some gmc)) := ⟨_, rfl⟩
  rw [← hW3]
  have hgmc := Hgmc0.out
  have hW2b := HW2b.out
  have hK3 : Kept (fun j => j = gc) W2 W3 := by rw [hW3, hW2b]; exact ((Kept.refl (fun j => j = gc) W2).alloc _).setCell (p := ⟨gc, 1, none⟩) (fun _ => rfl) _
  have hW3c : W3.heap[gc]? = some (.cells #[.slice (some ⟨gdc, 0, none⟩) L vc, .map (some gmc), .bool d.on, .int .i64 (d.fuse : Int)] 90 (0, 0)) := by rw [hW3]; exact heap_setCell_same _ gc 1 _ _ _ HW2bc.out
  have hW3m : Mp W3 gmc 0 (fun _ => none) := by
    have := Mp.made W2
    rw [← hgmc] at this
    rw [hW3, hW2b]
    exact this.kept ((Kept.refl (fun j => j = gc) _).setCell (p := ⟨gc, 1, none⟩) (fun _ => rfl) _) (fun e => by have := HgdW.out; omega)
  have hK3w : Kept (fun _ => False) w W3 := by
    have k1 : Kept (fun j => j = gc) w W3 := (HK2.out.mono (fun _ _ h => h.elim)).trans hK3 (fun _ _ h => h)
    exact ⟨k1.os, k1.tape, k1.output, k1.size, fun j hj _ => k1.block j hj (fun e => by omega)⟩
  have hOw3 : Own W3 93 64 (some gdc) (.slice (some ⟨gdc, 0, none⟩) L vc) L (scells (d.S.map dur)) := HO2.out.kept hK3 (fun j hj e => by cases hj; have := HgdW.out; omega)
  obtain ⟨w4, hrg, ⟨cnt0, hRg0⟩, hk4, hs4⟩ := (Hm.out.kept hK3w (fun h => h)).range (P := Try.prog) (t := 88) Try.underlying88
  have d1 := (hK3w.cell (p := ⟨g, 1, none⟩) Hgl.out (fun h => h)).trans C1.out
  obtain ⟨r, hrr⟩ : ∃ r, r = W3.heap.size := ⟨_, rfl⟩
  rw [← hrr] at hrg hRg0
  have hstart : Rg w4 r gm M f (fun k => (f k).isSome) cnt0 ∧ Dk w4 gc gdc gmc (fun _ => none) N ⟨d.S.mapIdx fun k s => if (f (k : Int)).isSome then [dur s] else s, d.on, d.fuse⟩ ∧ (∀ k, (f k).isSome = true → (f k).isSome = true) ∧ (∀ (k j : Nat), (none : Option Nat) = some j → w.heap.size ≤ j ∧ j ≠ r) ∧ Kept (fun _ => False) w w4 := by
    refine ⟨hRg0, ?_, fun _ h => h, fun _ _ h => (by cases h), hK3w.trans hk4 (fun _ _ h => h)⟩
    have hone : ∀ (k : Nat) (hk : k < d.S.length), (if (f (k : Int)).isSome then [dur d.S[k]] else d.S[k]) = [dur d.S[k]] := by
      intro k hk
      rcases Hrr.out k hk with ⟨e1, e2, _⟩ | ⟨_, _, v, _, e2, _⟩
      · rw [e2]
        have hne := (HOK.out.2.2.2 _ (List.getElem_mem hk)).1
        match hS : d.S[k], e1, hne with
        | [x], _, _ => rfl
      · rw [e2]; rfl
    have hlist : (d.S.mapIdx fun k s => if (f (k : Int)).isSome then [dur s] else s) = d.S.map fun s => [dur s] := by
      apply List.ext_getElem (by simp)
      intro j h1 h2
      rw [List.getElem_map, List.getElem_mapIdx]
      exact hone j (by simpa using h1)
    rw [hlist]
    rw [HL.out] at hW3c hOw3
    refine (Dk.fresh (d := ⟨d.S.map fun s => [dur s], d.on, d.fuse⟩) (N := N) (cap := vc) (M := 0) (W := W3) (gc := gc) (gdc := gdc) (gmc := gmc) ⟨by simpa using HOK.out.1, by simpa using HOK.out.2.1, HOK.out.2.2.1, ?_⟩ ?_ (by rw [List.length_map]; exact hW3c) (by rw [List.length_map, List.map_map]; exact hOw3) hW3m).kept hk4 (fun _ _ h => h)
    · intro s hs
      obtain ⟨s', hs', rfl⟩ := List.mem_map.1 hs
      obtain ⟨e1, _, e3⟩ := HOK.out.2.2.2 s' hs'
      exact ⟨by simp, by simp, fun x hx => by rw [List.mem_singleton.1 hx]; exact e3 _ (dur_mem e1)⟩
    · intro s hs
      obtain ⟨s', hs', rfl⟩ := List.mem_map.1 hs
      rfl
  have HS := Lib.hid hstart
  have hgm3 : gmc < W3.heap.size := hW3m.lt
  have Hgmc : Hid (w.heap.size ≤ gmc ∧ w.heap.size ≤ gc ∧ w.heap.size ≤ gdc) := Lib.hid (by have := HgdW.out; have := HK2.out.size; omega)
  have Hr : Hid (w.heap.size ≤ r ∧ gmc < r) := Lib.hid ⟨by rw [hrr]; exact hK3w.size, by omega⟩
  have Hne : Hid (gmc ≠ gm ∧ gmc ≠ r) := Lib.hid ⟨by have := Hgml.out; have := HK2.out.size; omega, by omega⟩
  have Hs4 : Hid (w4.heap.size = r + 1) := Lib.hid (by rw [hrr]; exact hs4)
  clear hstart hW3 hgmc hW2b HW2b Hgmc0 HW2bc hK3 hW3c hW3m hK3w hOw3 hRg0 hk4 hs4 hrr hgm3 hmk hlen i1 fz2 e12 hgcw hs1 HO2 HW2c HK2 HgdW Hfz He0 Hn1b
  go_wp2_with fail
  go_loopw [] (fun wr => ∃ left cnt rowc, Rg wr r gm M f left cnt ∧ Dk wr gc gdc gmc rowc N ⟨d.S.mapIdx fun k s => if left (k : Int) then [dur s] else s, d.on, d.fuse⟩ ∧ (∀ k, left k = true → (f k).isSome = true) ∧ (∀ k j, rowc k = some j → w.heap.size ≤ j ∧ j ≠ r) ∧ Kept (fun _ => False) w wr) (fun wr => wr.rangeLeft gm r)
  case atStart => exact ⟨_, cnt0, _, HS.out⟩
  case round =>
    obtain ⟨left, cnt, rowc, hRg, hDc, hLf, hRc, hKr⟩ := hrel
    have HRg := Lib.hid hRg
    have HDc := Lib.hid hDc
    have HLf := Lib.hid hLf
    have HRc := Lib.hid hRc
    have HKr := Lib.hid hKr
    rcases hRg.next (P := Try.prog) 0 with ⟨hall, hrun⟩ | ⟨k', v, w2, cnt', hlk, hfk, hrun, hRg2, hlt, hk2, hsz2, hen⟩
    · have hfin : (d.S.mapIdx fun k s => if left (k : Int) then [dur s] else s) = d.S := by
        apply List.ext_getElem (by simp)
        intro j h1 h2
        rw [List.getElem_mapIdx, hall]
        rfl
      have HD : Hid (Dk wr gc gdc gmc rowc N d) := Lib.hid (by have := HDc.out; rw [hfin] at this; exact this)
      clear hRg hDc hLf hRc hKr hall hfin
      go_wp2_with fail
      go_ret
      refine ⟨gc, rfl, ⟨gdc, gmc, rowc, HD.out, ?_⟩, HKr.out.below (Nat.le_refl _) (fun _ _ h => h)⟩
      rintro j (rfl | rfl | rfl | ⟨k, hk⟩)
      · exact Hgmc.out.2.1
      · exact Hgmc.out.2.2
      · exact Hgmc.out.1
      · exact (HRc.out k j hk).1
    · obtain ⟨hk0, hkl⟩ := Hfd.out k' (by rw [hfk]; simp)
      obtain ⟨k, rfl⟩ : ∃ k : Nat, k' = (k : Int) := ⟨k'.toNat, by omega⟩
      have hkL0 : k < d.S.length := by omega
      rcases Hrr.out k hkL0 with ⟨_, e0, _⟩ | ⟨htl, gk, v', hrow, e0, hown⟩
      · rw [e0] at hfk; cases hfk
      rw [e0] at hfk
      obtain rfl : v' = v := by cases hfk; rfl
      obtain ⟨hsne, hsN, hs64⟩ := HOK.out.2.2.2 _ (List.getElem_mem hkL0)
      have ht64 : ∀ b ∈ d.S[k].tail, b.length = 64 := fun b hb => hs64 b (List.mem_of_mem_tail hb)
      have hgk := Hr2.out k gk hrow
      obtain ⟨c, rfl, hmc, hc2, _⟩ := hown.secs ht64 rfl
      obtain ⟨tl, htlE⟩ : ∃ tl, tl = d.S[k].tail := ⟨_, rfl⟩
      obtain ⟨m, hmm⟩ : ∃ m, m = tl.length := ⟨_, rfl⟩
      have hKq : Kept (fun j => j = r) w w2 := (hKr.mono (fun _ _ e => e.elim)).trans hk2 (fun _ _ e => e)
      obtain ⟨q, hq⟩ : ∃ q, q = w2 := ⟨_, rfl⟩
      have hsl := (hown.kept hKq (fun j hj e => by cases hj; have := Hr.out; omega)).sl
      obtain ⟨a9, c9, hv9, hsl9⟩ := hsl
      obtain ⟨rfl, rfl⟩ : a9 = some ⟨gk, 0, none⟩ ∧ c = c9 := by injection hv9 with e1 e2 e3; exact ⟨e1.symm, e3⟩
      have hpl : 0 < d.S[k].tail.length := List.length_pos_iff.2 htl
      obtain ⟨b9, o9, _, hab, hrg9⟩ := hsl9.2.2.2.2 hpl
      obtain ⟨rfl, rfl⟩ : gk = b9 ∧ 0 = o9 := by injection hab with e1; injection e1 with e2 e3; exact ⟨e2, e3⟩
      rw [← htlE] at hrg9 hmc hpl hrun hen ht64 htl
      rw [← hmm] at hmc hpl hrun hen
      have Htm : Hid (tl.length = m ∧ (0 < m ∧ ∀ x ∈ tl, x.length = 64) ∧ (m ≤ c ∧ c ≤ maxLen) ∧ m ≤ 1000000) := Lib.hid ⟨hmm.symm, ⟨hpl, ht64⟩, ⟨hmc, hc2⟩, by rw [hmm, htlE, List.length_tail]; omega⟩
      have Htl : Hid (tl ≠ [] ∧ (∀ b ∈ tl, b.length = 64) ∧ tl.length ≤ N) := Lib.hid ⟨htl, ht64, by rw [htlE, List.length_tail]; omega⟩
      have Hgkq : Hid (gk < q.heap.size) := Lib.hid (by rw [hq]; exact Nat.lt_of_lt_of_le hgk hKq.size)
      have PR : Hid (q.rangeAt gk 0 (scells tl)) := Lib.hid (by rw [hq]; exact hrg9)
      have HDq : Hid (Dk q gc gdc gmc rowc N ⟨d.S.mapIdx fun k s => if left (k : Int) then [dur s] else s, d.on, d.fuse⟩) := Lib.hid (by
        rw [hq]
        refine hDc.kept hk2 ?_
        rintro j (rfl | rfl | rfl | ⟨k, hk⟩) e
        · have := hDc.lt j (.inl rfl); exact absurd (hDc.self) (by rintro ⟨_, _, x, _⟩; rw [e] at x; obtain ⟨_, _, _, _, _, _, _, _, _, _, y, _⟩ := hRg; rw [x] at y; cases y)
        · exact absurd (hDc.self) (by rintro ⟨_, _, _, x, _⟩; rw [e] at x; obtain ⟨_, _, _, _, _, _, _, _, _, _, y, _⟩ := hRg; rw [x] at y; cases y)
        · exact Hne.out.2 e
        · exact (HRc.out k j hk).2 e)
      have PC1 : Hid (q.cell? ⟨gc, 1, none⟩ = some (.map (some gmc))) := Lib.hid (by obtain ⟨_, _, _, _, x, _⟩ := HDq.out.facts; exact x)
      have Hgcq : Hid (gc < q.heap.size) := Lib.hid (HDq.out.lt gc (.inl rfl))
      have hkC : k < (d.S.mapIdx fun k s => if left (k : Int) then [dur s] else s).length := by simpa using hkL0
      have hgetC : (d.S.mapIdx fun k s => if left (k : Int) then [dur s] else s)[k] = [dur d.S[k]] := by rw [List.getElem_mapIdx, hlk]; rfl
      have HrN : Hid (rowc k = none) := Lib.hid (by
        obtain ⟨_, f9, _, _, hr9⟩ := hDc.map
        rcases hr9 k hkC with ⟨_, _, x⟩ | ⟨x, _⟩
        · exact x
        · exact absurd (by simp only [hgetC]; rfl) x)
      have Hset : Hid ((d.S.mapIdx fun k s => if left (k : Int) then [dur s] else s).set k (dur ((d.S.mapIdx fun k s => if left (k : Int) then [dur s] else s)[k]) :: tl) = d.S.mapIdx fun j s => if (left (j : Int) && !decide ((j : Int) = (k : Int))) then [dur s] else s) := Lib.hid (by
        rw [hgetC, show dur [dur d.S[k]] :: tl = d.S[k] by
          rw [htlE]
          cases hS : d.S[k] with
          | nil => exact absurd hS hsne
          | cons x rr => rfl]
        exact clone_list d.S k left _ (fun _ => rfl))
      have Hlt := Lib.hid hlt
      have HRg2 : Hid (Rg q r gm M f (fun j => left j && !decide (j = (k : Int))) cnt') := Lib.hid (by rw [hq]; exact hRg2)
      have Hkn : Hid (Kept (fun j => j = r) wr q) := Lib.hid (by rw [hq]; exact hk2)
      have Hrq : Hid (r < q.heap.size ∧ w.heap.size ≤ q.heap.size) := Lib.hid ⟨HRg2.out.lt, by rw [hq]; exact hKq.size⟩
      rw [← hq] at hrun hen
      clear hRg hDc hLf hRc hKr hlk hfk hRg2 hlt hk2 hsz2 hk0 hkl e0 hown hsne hs64 hsN ht64 hgk hc2 hKq hq hrow hsl9 hv9 hab hrg9 hpl hgetC hmm htlE htl
      go_upto_region 7 with fail
      refine Roll.region_f 5 37 Dcl7 Lcl7 [(3, .pointer (some ⟨gc, 0, none⟩)), (4, .int .i64 (k : Int)), (5, .slice (some ⟨gk, 0, none⟩) m c)] (fun p => Kept (fun _ => False) q p) (fun p p2 => Kept (fun _ => False) p p2) [fun vv p => vv = .pointer (some ⟨gc, 1, none⟩), fun vv p => vv = .map (some gmc), fun vv p => vv = .int .i64 (k : Int), fun vv p => vv = .slice (some ⟨gk, 0, none⟩) m c, fun vv p => ∃ k2, Own p 93 64 (some k2) vv m (scells tl) ∧ q.heap.size ≤ k2] (by kernel_rfl) (by kernel_rfl) rfl ⟨rfl, rfl, rfl, trivial⟩ ((Kept.refl _ _).drew) ?_ ?_ ?_
      · exact ⟨fun _ _ _ _ h => h, fun _ _ _ _ h => h, fun _ _ _ _ h => h, fun _ _ _ _ h => h, fun _ _ _ hs h => by obtain ⟨k2, h1, h2⟩ := h; exact ⟨k2, h1.kept hs (fun _ _ h => h), h2⟩, trivial⟩
      · intro b0 hN hlv
        refine ⟨?_, ?_, ?_, ?_, ?_, trivial⟩
        · intro vs p hI hp
          have e3 : (Roll.putD Dcl7 vs [] b0).eval (.tmp 3) = .pointer (some ⟨gc, 0, none⟩) := (Roll.eval_old rfl).trans (hlv.at 0 (3, .pointer (some ⟨gc, 0, none⟩)) rfl)
          clear hp hlv hN
          unfold Roll.Goes
          simp only [Lcl7, List.getD_cons_zero, List.getD_cons_succ]
          generalize Roll.putD Dcl7 vs [] b0 = a1 at *
          refine Roll.goes_val (w' := p) (.pointer (some ⟨gc, 1, none⟩)) rfl ?_ ⟨hI, Kept.refl _ _, rfl⟩
          (have ec : ∀ x, a1.eval (.const x) = x := fun _ => rfl); (have ef : ∀ x, a1.eval (.func x) = .func (.func x) #[] #[] := fun _ => rfl); generalize a1.eval = ρ at *
          skip
          go_simp <;> (intros; first | (exfalso; omega) | rfl)
        · intro vs p hI hp
          have h0 : (vs 0) = .pointer (some ⟨gc, 1, none⟩) := hp 0 (by simp [Lcl7])
          have e32 : (Roll.putD Dcl7 vs [0] b0).eval (.tmp 32) = .pointer (some ⟨gc, 1, none⟩) := (Roll.eval_new 0 rfl (by decide) (by decide) (by omega)).trans h0
          clear hp hlv hN
          unfold Roll.Goes
          simp only [Lcl7, List.getD_cons_zero, List.getD_cons_succ]
          generalize Roll.putD Dcl7 vs [0] b0 = a1 at *
          have c1p : p.cell? ⟨gc, 1, none⟩ = some (.map (some gmc)) := (hI.cell Hgcq.out (fun h => h)).trans PC1.out
          refine Roll.goes_val (w' := p) (.map (some gmc)) rfl ?_ ⟨hI, Kept.refl _ _, rfl⟩
          (have ec : ∀ x, a1.eval (.const x) = x := fun _ => rfl); (have ef : ∀ x, a1.eval (.func x) = .func (.func x) #[] #[] := fun _ => rfl); generalize a1.eval = ρ at *
          clear h0
          go_simp <;> (intros; first | (exfalso; omega) | rfl)
        · intro vs p hI hp
          have e4 : (Roll.putD Dcl7 vs [] b0).eval (.tmp 4) = .int .i64 (k : Int) := (Roll.eval_old rfl).trans (hlv.at 1 (4, .int .i64 (k : Int)) rfl)
          clear hp hlv hN
          unfold Roll.Goes
          simp only [Lcl7, List.getD_cons_zero, List.getD_cons_succ]
          generalize Roll.putD Dcl7 vs [] b0 = a1 at *
          refine Roll.goes_val (w' := p) (.int .i64 (k : Int)) rfl ?_ ⟨hI, Kept.refl _ _, rfl⟩
          (have ec : ∀ x, a1.eval (.const x) = x := fun _ => rfl); (have ef : ∀ x, a1.eval (.func x) = .func (.func x) #[] #[] := fun _ => rfl); generalize a1.eval = ρ at *
          skip
          go_simp <;> (intros; first | (exfalso; omega) | rfl)
        · intro vs p hI hp
          have e5 : (Roll.putD Dcl7 vs [] b0).eval (.tmp 5) = .slice (some ⟨gk, 0, none⟩) m c := (Roll.eval_old rfl).trans (hlv.at 2 (5, .slice (some ⟨gk, 0, none⟩) m c) rfl)
          clear hp hlv hN
          unfold Roll.Goes
          simp only [Lcl7, List.getD_cons_zero, List.getD_cons_succ]
          generalize Roll.putD Dcl7 vs [] b0 = a1 at *
          refine Roll.goes_val (w' := p) (.slice (some ⟨gk, 0, none⟩) m c) rfl ?_ ⟨hI, Kept.refl _ _, rfl⟩
          (have ec : ∀ x, a1.eval (.const x) = x := fun _ => rfl); (have ef : ∀ x, a1.eval (.func x) = .func (.func x) #[] #[] := fun _ => rfl); generalize a1.eval = ρ at *
          skip
          go_simp <;> (intros; first | (exfalso; omega) | rfl)
        · intro vs p hI hp
          have h3 : (vs 3) = .slice (some ⟨gk, 0, none⟩) m c := hp 3 (by simp [Lcl7])
          have e35 : (Roll.putD Dcl7 vs [3] b0).eval (.tmp 35) = .slice (some ⟨gk, 0, none⟩) m c := (Roll.eval_new 3 rfl (by decide) (by decide) (by omega)).trans h3
          clear hp hlv hN
          unfold Roll.Goes
          simp only [Lcl7, List.getD_cons_zero, List.getD_cons_succ]
          generalize Roll.putD Dcl7 vs [3] b0 = a1 at *
          refine Roll.goes_call 49 #[.slice (some ⟨gk, 0, none⟩) m c] p rfl (by have ec : ∀ x, a1.eval (.const x) = x := fun _ => rfl; have ef : ∀ x, a1.eval (.func x) = .func (.func x) #[] #[] := fun _ => rfl; generalize a1.eval = ρ at *; go_simp) ?_
          refine (clone_sec p gk m c tl Htm.out.1 Htm.out.2.1 Htm.out.2.2.1 Htm.out.2.2.2 (fun j v hv => (hI.cell (p := ⟨gk, 0 + j, none⟩) Hgkq.out (fun h => h)).trans (PR.out j v hv))).mono ?_
          rintro y p2 ⟨k2, v2, rfl, ho2, hf2, hb⟩
          have hk2 := Kept.of_below (fun _ => False) hb
          exact ⟨_, rfl, hI.trans hk2 (fun _ _ h => h), hk2, k2, ho2, Nat.le_trans hI.size hf2⟩
      · intro vs p hI hR
        have h0 : (vs 0) = .pointer (some ⟨gc, 1, none⟩) := hR 0 (by omega)
        have h1 : (vs 1) = .map (some gmc) := hR 1 (by omega)
        have h2 : (vs 2) = .int .i64 (k : Int) := hR 2 (by omega)
        have h3 : (vs 3) = .slice (some ⟨gk, 0, none⟩) m c := hR 3 (by omega)
        have h4 : ∃ k2, Own p 93 64 (some k2) (vs 4) m (scells tl) ∧ q.heap.size ≤ k2 := hR 4 (by omega)
        clear hR
        simp only [List.range_succ, List.range_zero, List.nil_append, List.cons_append, Roll.putD, Act.put, List.getD_cons_zero, List.getD_cons_succ, List.setIfInBounds_toArray, List.set_cons_zero, List.set_cons_succ, List.drop_succ_cons, List.drop_zero, Dcl7]
        simp only [h0, h1, h2, h3]
        clear h0 h1 h2 h3
        obtain ⟨k2, hO2, hf2⟩ := h4
        have hKp : Kept (fun j => rowc k = some j) q p := hI.mono (fun _ _ h => h.elim)
        have hO3 : Own p 93 64 (some k2) (vs 4) tl.length (scells tl) := by rw [Htm.out.1]; exact hO2
        obtain ⟨p2, hrun, hd2, hk2, hs2⟩ := HDq.out.setTail hkC (T := tl) Htl.out.1 Htl.out.2.1 Htl.out.2.2 hKp hO3 (.inr hf2)
        generalize vs 4 = v4 at *
        have HI := Lib.hid hI
        have Hd2 := Lib.hid hd2
        have Hk2 := Lib.hid hk2
        have Hf2 := Lib.hid hf2
        clear hI hO2 hO3 hKp hd2 hk2 hs2 hf2
        go_wp2_with fail
        go_roundw
        case rel =>
          have KK : Kept (fun j => j = gmc) q p2 := Hk2.out.mono (fun j _ e => by rcases e with e | e; rw [HrN.out] at e; cases e; exact e)
          refine ⟨_, cnt', rowSet rowc k (some k2), HRg2.out.kept KK (fun e => Hne.out.1 e.symm) (fun e => Hne.out.2 e.symm), ?_, fun j hj => HLf.out j (by simp at hj; exact hj.1), fun i j hij => ?_, (HKr.out.trans (Hkn.out.mono (T := fun j => j = r) (fun _ _ e => e)) (fun j hj e => by have := Hr.out; omega)).trans KK (fun j hj e => by have := Hgmc.out; omega)⟩
          · rw [← Hset.out]; exact Hd2.out
          · by_cases e : i = k
            · rw [e, rowSet_same] at hij
              cases hij
              have h1 := Hrq.out
              have h2 := Hf2.out
              have h3 := Hr.out
              omega
            · rw [rowSet_other _ _ e] at hij; exact HRc.out i j hij
        case measure => 
          have KK : Kept (fun j => j = gmc) q p2 := Hk2.out.mono (fun j _ e => by rcases e with e | e; rw [HrN.out] at e; cases e; exact e)
          rw [(HRg2.out.kept KK (fun e => Hne.out.1 e.symm) (fun e => Hne.out.2 e.symm)).left_eq, HRg.out.left_eq]; exact Hlt.out
end
end Go.Proofs.Ythffegfcgmhppaa
namespace Go.Proofs.Ythffegfcgmhppaa
open Go.RowKit
set_option linter.unusedSimpArgs false
set_option linter.unusedVariables false
/-- a thing in memory, in some blocks -/
structure Obj where
  at' : (Nat → Prop) → World → Prop
  kept : ∀ {B S : Nat → Prop} {w w' : World}, at' B w → Kept S w w' → (∀ j, j < w.heap.size → B j → ¬ S j) → at' B w'
/-- these things lie apart from each other, in blocks that are newer than w0; nothing of w0 has changed -/
def Lv (w0 w : World) (L : List Obj) : Prop :=
  Below w0.heap.size w0 w ∧ ∃ Bs : List (Nat → Prop), Bs.length = L.length ∧ (∀ (i : Nat) (o : Obj) (B : Nat → Prop), L[i]? = some o → Bs[i]? = some B → o.at' B w ∧ ∀ j, B j → w0.heap.size ≤ j ∧ j < w.heap.size) ∧
    ∀ (i j : Nat) (A B : Nat → Prop), i ≠ j → Bs[i]? = some A → Bs[j]? = some B → ∀ x, A x → ¬ B x
theorem Lv.refl (w : World) : Lv w w [] := ⟨Below.refl _ _, [], rfl, fun _ _ _ h => (by cases h), fun _ _ _ _ _ h => (by cases h)⟩
theorem Lv.args {w0 w : World} {L : List Obj} (h : Lv w0 w L) : Below w0.heap.size w0 w := h.1
theorem Lv.size {w0 w : World} {L : List Obj} (h : Lv w0 w L) : w0.heap.size ≤ w.heap.size := h.1.size
theorem Lv.below {w0 w w' : World} {L : List Obj} (h : Lv w0 w L) (hb : Below w.heap.size w w') : Lv w0 w' L := by
  obtain ⟨h1, Bs, h2, h3, h4⟩ := h
  refine ⟨h1.trans (hb.mono h1.size), Bs, h2, fun i o B hi hB => ?_, h4⟩
  obtain ⟨e1, e2⟩ := h3 i o B hi hB
  exact ⟨o.kept e1 (Kept.of_below (fun _ => False) hb) (fun _ _ _ h => h), fun j hj => ⟨(e2 j hj).1, Nat.lt_of_lt_of_le (e2 j hj).2 hb.size⟩⟩
theorem Lv.cons {w0 w w' : World} {L : List Obj} (h : Lv w0 w L) (hb : Below w.heap.size w w') {o : Obj} {B : Nat → Prop} (ho : o.at' B w') (hB : ∀ j, B j → w.heap.size ≤ j ∧ j < w'.heap.size) : Lv w0 w' (o :: L) := by
  have hsz := h.size
  obtain ⟨k1, k2, k3, k4, k5⟩ := h
  have h' : Lv w0 w' L := Lv.below ⟨k1, k2, k3, k4, k5⟩ hb
  obtain ⟨h1, _⟩ := h'
  refine ⟨h1, B :: k2, by simp [k3], fun i o' B' hi hB' => ?_, fun i j A B' hij hA hB' x hx hx2 => ?_⟩
  · cases i with
    | zero => cases hi; cases hB'; exact ⟨ho, fun j hj => ⟨Nat.le_trans hsz (hB j hj).1, (hB j hj).2⟩⟩
    | succ i =>
      obtain ⟨e1, e2⟩ := k4 i o' B' hi hB'
      exact ⟨o'.kept e1 (Kept.of_below (fun _ => False) hb) (fun _ _ _ h => h), fun j hj => ⟨(e2 j hj).1, Nat.lt_of_lt_of_le (e2 j hj).2 hb.size⟩⟩
  · have old : ∀ (i : Nat) (C : Nat → Prop) (x : Nat), k2[i]? = some C → C x → x < w.heap.size := by
      intro i C x hC hx
      have hi : i < L.length := by rw [← k3]; exact (List.getElem?_eq_some_iff.1 hC).1
      exact ((k4 i L[i] C (List.getElem?_eq_getElem hi) hC).2 x hx).2
    cases i with
    | zero =>
      cases j with
      | zero => exact hij rfl
      | succ j => cases hA; have := old j B' x hB' hx2; have := (hB x hx).1; omega
    | succ i =>
      cases j with
      | zero => cases hB'; have := old i A x hA hx; have := (hB x hx2).1; omega
      | succ j => exact k5 i j A B' (by omega) hA hB' x hx hx2
theorem Lv.get {w0 w : World} {L : List Obj} (h : Lv w0 w L) {i : Nat} {o : Obj} (hi : L[i]? = some o) : ∃ B, o.at' B w ∧ (∀ j, B j → w0.heap.size ≤ j ∧ j < w.heap.size) ∧
    (∀ j o2, j ≠ i → L[j]? = some o2 → ∃ B2, o2.at' B2 w ∧ ∀ x, B2 x → ¬ B x) ∧
    ∀ (w' : World) (o' : Obj) (B' : Nat → Prop), o'.at' B' w' → Kept B w w' → (∀ j, B' j → B j ∨ w.heap.size ≤ j) → (∀ j, B' j → j < w'.heap.size) → Lv w0 w' (L.set i o') := by
  obtain ⟨h1, Bs, h2, h3, h4⟩ := h
  have hil : i < L.length := (List.getElem?_eq_some_iff.1 hi).1
  have hB : Bs[i]? = some Bs[i] := List.getElem?_eq_getElem (by omega)
  obtain ⟨e1, e2⟩ := h3 i o _ hi hB
  refine ⟨Bs[i], e1, e2, fun j o2 hj ho2 => ?_, fun w' o' B' ho' hk hf hs => ⟨?_, Bs.set i B', by simp [h2], fun j o2 B2 hj hB2 => ?_, fun j k A C hjk hA hC x hx hx2 => ?_⟩⟩
  · have hjl : j < L.length := (List.getElem?_eq_some_iff.1 ho2).1
    have hBj : Bs[j]? = some Bs[j] := List.getElem?_eq_getElem (by omega)
    exact ⟨_, (h3 j o2 _ ho2 hBj).1, fun x hx hx2 => h4 j i _ _ hj hBj hB x hx hx2⟩
  · refine h1.trans (hk.below h1.size (fun j hj hb => ?_))
    have := (e2 j hb).1
    omega
  · have hjl : j < L.length := by have := (List.getElem?_eq_some_iff.1 hj).1; simpa using this
    rw [List.getElem?_set] at hj hB2
    by_cases e : i = j
    · subst e
      rw [if_pos rfl, if_pos hil] at hj
      rw [if_pos rfl, if_pos (by omega)] at hB2
      cases hj; cases hB2
      refine ⟨ho', fun x hx => ⟨?_, hs x hx⟩⟩
      rcases hf x hx with hx | hx
      · exact (e2 x hx).1
      · exact Nat.le_trans h1.size hx
    · rw [if_neg e] at hj hB2
      obtain ⟨k1, k2⟩ := h3 j o2 B2 hj hB2
      exact ⟨o2.kept k1 hk (fun x _ hx hx2 => h4 j i _ _ (fun e2 => e e2.symm) hB2 hB x hx hx2), fun x hx => ⟨(k2 x hx).1, Nat.lt_of_lt_of_le (k2 x hx).2 hk.size⟩⟩
  · have old : ∀ (i : Nat) (C : Nat → Prop) (x : Nat), Bs[i]? = some C → C x → x < w.heap.size := by
      intro i C x hC hx
      have hi : i < L.length := by rw [← h2]; exact (List.getElem?_eq_some_iff.1 hC).1
      exact ((h3 i L[i] C (List.getElem?_eq_getElem hi) hC).2 x hx).2
    rw [List.getElem?_set] at hA hC
    by_cases e : i = j
    · subst e
      rw [if_pos rfl, if_pos (by omega)] at hA
      rw [if_neg hjk] at hC
      cases hA
      rcases hf x hx with hx | hx
      · exact h4 _ k _ _ hjk hB hC x hx hx2
      · have := old k C x hC hx2; omega
    · rw [if_neg e] at hA
      by_cases e2 : i = k
      · subst e2
        rw [if_pos rfl, if_pos (by omega)] at hC
        cases hC
        rcases hf x hx2 with hx2 | hx2
        · exact h4 _ j _ _ e hB hA x hx2 hx
        · have := old j A x hA hx; omega
      · rw [if_neg e2] at hC
        exact h4 j k A C hjk hA hC x hx hx2
theorem Lv.tail {w0 w : World} {o : Obj} {L : List Obj} (h : Lv w0 w (o :: L)) : Lv w0 w L := by
  obtain ⟨h1, Bs, h2, h3, h4⟩ := h
  cases Bs with
  | nil => simp at h2
  | cons B Bs => exact ⟨h1, Bs, by simpa using h2, fun i o B hi hB => h3 (i + 1) o B hi hB, fun i j A C hij hA hC => h4 (i + 1) (j + 1) A C (by omega) hA hC⟩
theorem Lv.drop {w0 w : World} : ∀ (n : Nat) {L : List Obj}, Lv w0 w L → Lv w0 w (L.drop n)
  | 0, _, h => h
  | n + 1, [], h => h
  | n + 1, o :: L, h => Lv.drop n h.tail
theorem Lv.weaken {w0 w : World} {L : List Obj} (h : Lv w0 w L) {i : Nat} {o o' : Obj} (hi : L[i]? = some o) (hw : ∀ B, o.at' B w → o'.at' B w) : Lv w0 w (L.set i o') := by
  obtain ⟨B, h1, h2, _, h3⟩ := h.get hi
  exact h3 w o' B (hw B h1) (Kept.refl _ _) (fun j hj => .inl hj) (fun j hj => (h2 j hj).2)
/-- a disk -/
def diskO (g : Nat) (d : DM) : Obj := ⟨fun B w => ∃ gd gm row N, Dk w g gd gm row N d ∧ ∀ j, Blk g gd gm row j → B j, fun {B S w w'} h hk hs => by
  obtain ⟨gd, gm, row, N, h1, h2⟩ := h
  exact ⟨gd, gm, row, N, h1.kept hk (fun j hj => hs j (h1.lt j hj) (h2 j hj)), h2⟩⟩
/-- a slice of bytes -/
def bytesO (v : Value) (l : List UInt8) : Obj := ⟨fun B w => ∃ a c, v = .slice a l.length c ∧ Bs B w a l.length c l, fun {B S w w'} h hk hs => by
  obtain ⟨a, c, h1, h2⟩ := h
  exact ⟨a, c, h1, h2.kept hk hs⟩⟩
/-- a slice of elements that say what survives -/
def tornO (v : Value) (ts : List TM) : Obj := ⟨fun B w => ∃ a c, v = .slice a ts.length c ∧ Ts B w a ts.length c ts, fun {B S w w'} h hk hs => by
  obtain ⟨a, c, h1, h2⟩ := h
  exact ⟨a, c, h1, h2.kept hk hs⟩⟩
theorem Dk.bound {w : World} {g gd gm : Nat} {row : Nat → Option Nat} {N M : Nat} {d : DM} (h : Dk w g gd gm row N d) (hM : d.Ok M) : Dk w g gd gm row M d := ⟨hM, h.self, h.map, h.dom, h.inj, h.apart⟩
section
variable {w0 w : World} {L : List Obj} {g i : Nat} {d : DM}
theorem new_lv (h : Lv w0 w L) (n : Nat) (h1 : 1 ≤ n) (h2 : n ≤ 4096) :
    Calls Try.prog 39 #[.int .i64 (n : Int)] w fun e w' => ∃ g, e = .returned (.tuple #[.pointer (some ⟨g, 0, none⟩), .int .i64 0]) ∧ Lv w0 w' (diskO g (DM.new n) :: L) := by
  refine (new_any n w h1 h2).mono ?_
  rintro e w' ⟨g, rfl, ⟨B, ⟨gd, gm, row, hd, hB, hlt⟩, hge⟩, hg, hb⟩
  exact ⟨g, rfl, h.cons hb (B := B) ⟨gd, gm, row, 0, hd, hB⟩ (fun j hj => ⟨hge j hj, hlt j hj⟩)⟩
theorem len_lv (h : Lv w0 w L) (hi : L[i]? = some (diskO g d)) :
    Calls Try.prog 55 #[.pointer (some ⟨g, 0, none⟩)] w fun e w' => e = .returned (.int .i64 (d.S.length : Int)) ∧ w = w' := by
  obtain ⟨B, ⟨gd, gm, row, N, hd, _⟩, _⟩ := h.get hi
  exact len_dk hd
theorem on_lv (h : Lv w0 w L) (hi : L[i]? = some (diskO g d)) :
    Calls Try.prog 35 #[.pointer (some ⟨g, 0, none⟩)] w fun e w' => e = .returned (.bool d.on) ∧ w = w' := by
  obtain ⟨B, ⟨gd, gm, row, N, hd, _⟩, _⟩ := h.get hi
  exact on_dk hd
theorem Lv.ok (h : Lv w0 w L) (hi : L[i]? = some (diskO g d)) : 1 ≤ d.S.length ∧ d.S.length ≤ 4096 ∧ d.fuse ≤ 9223372036854775807 ∧ ∀ s ∈ d.S, s ≠ [] ∧ ∀ b ∈ s, b.length = 64 := by
  obtain ⟨B, ⟨gd, gm, row, N, hd, _⟩, _⟩ := h.get hi
  exact ⟨hd.ok.1, hd.ok.2.1, hd.ok.2.2.1, fun s hs => ⟨(hd.ok.2.2.2 s hs).1, (hd.ok.2.2.2 s hs).2.2⟩⟩
theorem read_lv (h : Lv w0 w L) (hi : L[i]? = some (diskO g d)) (k : Nat) (hk : k < d.S.length) (ho : d.on = true) :
    Calls Try.prog 37 #[.pointer (some ⟨g, 0, none⟩), .int .i64 (k : Int)] w fun e w' => ∃ v, e = .returned (.tuple #[v, .int .i64 0]) ∧ Lv w0 w' (bytesO v (lastB d.S[k]) :: L) := by
  obtain ⟨B, ⟨gd, gm, row, N, hd, _⟩, _⟩ := h.get hi
  refine (read_ok hd k hk ho).mono ?_
  rintro e w' ⟨v, rfl, gb, rfl, hge, hbs, hb⟩
  refine ⟨_, rfl, h.cons hb (B := fun b => b = gb) ⟨_, _, rfl, hbs⟩ ?_⟩
  rintro j rfl
  refine ⟨hge, ?_⟩
  obtain ⟨hl, _, _, _, _, hp⟩ := hbs
  have h64 := (h.ok hi).2.2.2 _ (List.getElem_mem hk)
  have hl64 := h64.2 _ (lastB_mem h64.1)
  obtain ⟨b, off, rfl, _, hr⟩ := hp (by omega)
  exact range_lt hr (by rw [vals_len]; omega)
theorem read_lv_off (h : Lv w0 w L) (hi : L[i]? = some (diskO g d)) (k : Int) (hk : hasB d k = true) (ho : d.on = false) :
    Calls Try.prog 37 #[.pointer (some ⟨g, 0, none⟩), .int .i64 k] w fun e w' => e = .returned (.tuple #[.slice none 0 0, .int .i64 10]) ∧ w = w' := by
  obtain ⟨B, ⟨gd, gm, row, N, hd, _⟩, _⟩ := h.get hi
  exact read_off hd k hk ho
theorem read_lv_no (h : Lv w0 w L) (hi : L[i]? = some (diskO g d)) (k : Int) (hk : hasB d k = false) :
    Calls Try.prog 37 #[.pointer (some ⟨g, 0, none⟩), .int .i64 k] w fun e w' => e = .returned (.tuple #[.slice none 0 0, .int .i64 5]) ∧ w = w' := by
  obtain ⟨B, ⟨gd, gm, row, N, hd, _⟩, _⟩ := h.get hi
  exact read_no hd k hk
theorem write_lv_off (h : Lv w0 w L) (hi : L[i]? = some (diskO g d)) (a : Option Addr) (c : Nat) (k : Int) (hk : hasB d k = true) (ho : d.on = false) :
    Calls Try.prog 33 #[.pointer (some ⟨g, 0, none⟩), .int .i64 k, .slice a 64 c] w fun e w' => e = .returned (.int .i64 10) ∧ w = w' := by
  obtain ⟨B, ⟨gd, gm, row, N, hd, _⟩, _⟩ := h.get hi
  exact write_off hd a c k hk ho
theorem write_lv_no (h : Lv w0 w L) (hi : L[i]? = some (diskO g d)) (a : Option Addr) (c : Nat) (k : Int) (hk : hasB d k = false) :
    Calls Try.prog 33 #[.pointer (some ⟨g, 0, none⟩), .int .i64 k, .slice a 64 c] w fun e w' => e = .returned (.int .i64 5) ∧ w = w' := by
  obtain ⟨B, ⟨gd, gm, row, N, hd, _⟩, _⟩ := h.get hi
  exact write_no hd a c k hk
theorem write_lv (h : Lv w0 w L) (hi : L[i]? = some (diskO g d)) {Z : Nat → Prop} {a : Option Addr} {c : Nat} {l : List UInt8} (hB : Bs Z w a 64 c l) (k : Nat) (hk : k < d.S.length) (ho : d.on = true) (hN : d.Ok 100000) :
    Calls Try.prog 33 #[.pointer (some ⟨g, 0, none⟩), .int .i64 (k : Int), .slice a 64 c] w fun e w' => e = .returned (.int .i64 0) ∧ Lv w0 w' (L.set i (diskO g (d.write k l))) := by
  obtain ⟨B, ⟨gd, gm, row, N, hd, hBB⟩, hlt, _, hset⟩ := h.get hi
  refine (write_ok (hd.bound hN) hB k hk ho (Nat.le_refl _)).mono ?_
  rintro e w' ⟨rfl, row', hd', hk', hf⟩
  refine ⟨rfl, hset w' _ (fun j => Blk g gd gm row' j) ⟨gd, gm, row', _, hd', fun _ h => h⟩ (hk'.mono (fun j _ hj => hBB j hj)) (fun j hj => (hf j hj).imp (hBB j) id) (fun j hj => hd'.lt j hj)⟩
theorem flush_lv (h : Lv w0 w L) (hi : L[i]? = some (diskO g d)) (ho : d.on = true) :
    Calls Try.prog 34 #[.pointer (some ⟨g, 0, none⟩)] w fun e w' => e = .returned (.int .i64 0) ∧ Lv w0 w' (L.set i (diskO g d.flush)) := by
  obtain ⟨B, ⟨gd, gm, row, N, hd, hBB⟩, hlt, _, hset⟩ := h.get hi
  refine (flush_ok hd ho).mono ?_
  rintro e w' ⟨rfl, hd', hk'⟩
  refine ⟨rfl, hset w' _ (fun j => Blk g gd gm (fun _ => none) j) ⟨gd, gm, _, _, hd', fun _ h => h⟩ (hk'.mono (fun j _ hj => hBB j hj)) ?_ (fun j hj => hd'.lt j hj)⟩
  rintro j (e | e | e | ⟨_, e⟩)
  · exact .inl (hBB j (.inl e))
  · exact .inl (hBB j (.inr (.inl e)))
  · exact .inl (hBB j (.inr (.inr (.inl e))))
  · cases e
theorem flush_lv_off (h : Lv w0 w L) (hi : L[i]? = some (diskO g d)) (ho : d.on = false) :
    Calls Try.prog 34 #[.pointer (some ⟨g, 0, none⟩)] w fun e w' => e = .returned (.int .i64 10) ∧ w = w' := by
  obtain ⟨B, ⟨gd, gm, row, N, hd, hBB⟩, hlt, _, hset⟩ := h.get hi
  exact flush_off hd ho
theorem fuse_lv (h : Lv w0 w L) (hi : L[i]? = some (diskO g d)) (n : Int) (h1 : -9223372036854775808 ≤ n) (h2 : n ≤ 9223372036854775807) :
    Calls Try.prog 21 #[.pointer (some ⟨g, 0, none⟩), .int .i64 n] w fun e w' => e = .returned (.tuple #[]) ∧ Lv w0 w' (L.set i (diskO g (d.setFuse n))) := by
  obtain ⟨B, ⟨gd, gm, row, N, hd, hBB⟩, hlt, _, hset⟩ := h.get hi
  refine (fuse_dk hd n h1 h2).mono ?_
  rintro e w' ⟨rfl, hd', hk'⟩
  exact ⟨rfl, hset w' _ (fun j => Blk g gd gm row j) ⟨gd, gm, row, _, hd', fun _ h => h⟩ (hk'.mono (fun j _ hj => hBB j (.inl hj))) (fun j hj => .inl (hBB j hj)) (fun j hj => hd'.lt j hj)⟩
theorem restart_lv (h : Lv w0 w L) (hi : L[i]? = some (diskO g d)) {Z : Nat → Prop} {a : Option Addr} {n c : Nat} {ts : List TM} (hT : Ts Z w a n c ts) (hZ : (∀ x, Z x → x < w0.heap.size) ∨ ∃ j v, j ≠ i ∧ L[j]? = some (tornO v ts) ∧ v = .slice a n c) :
    Calls Try.prog 28 #[.pointer (some ⟨g, 0, none⟩), .slice a n c] w fun e w' => e = .returned (.tuple #[]) ∧ Lv w0 w' (L.set i (diskO g (d.restart ts))) := by
  obtain ⟨B, ⟨gd, gm, row, N, hd, hBB⟩, hlt, hoth, hset⟩ := h.get hi
  have key : ∃ Z', Ts Z' w a n c ts ∧ ∀ j, Z' j → ¬ Blk g gd gm row j := by
    rcases hZ with hZ | ⟨j, v, hj, hv, rfl⟩
    · exact ⟨Z, hT, fun j hz hb => by have := hZ j hz; have := (hlt j (hBB j hb)).1; omega⟩
    · obtain ⟨B2, ⟨a2, c2, e, hT2⟩, hne⟩ := hoth j _ hj hv
      have e2 := e
      injection e2 with e3 e4 e5
      subst e3 e5
      rw [hT.1] at hT2
      exact ⟨B2, hT2, fun x hx hb => hne x hx (hBB x hb)⟩
  obtain ⟨Z', hT', hsep⟩ := key
  refine (restart_dk hd hT' hsep).mono ?_
  rintro e w' ⟨rfl, hd', hk'⟩
  refine ⟨rfl, hset w' _ (fun j => Blk g gd gm (fun _ => none) j) ⟨gd, gm, _, _, hd', fun _ h => h⟩ (hk'.mono (fun j _ hj => hBB j hj)) ?_ (fun j hj => hd'.lt j hj)⟩
  rintro j (e | e | e | ⟨_, e⟩)
  · exact .inl (hBB j (.inl e))
  · exact .inl (hBB j (.inr (.inl e)))
  · exact .inl (hBB j (.inr (.inr (.inl e))))
  · cases e
theorem Ts.nil (w : World) : Ts (fun _ => False) w none 0 0 [] := ⟨rfl, Sl.empty _ _ _ _ _ (Nat.zero_le _) (fun _ => rfl), fun _ h => (by cases h)⟩
theorem restart_nil_lv (h : Lv w0 w L) (hi : L[i]? = some (diskO g d)) :
    Calls Try.prog 28 #[.pointer (some ⟨g, 0, none⟩), .slice none 0 0] w fun e w' => e = .returned (.tuple #[]) ∧ Lv w0 w' (L.set i (diskO g (d.restart []))) :=
  restart_lv h hi (Ts.nil w) (.inl (fun _ h => h.elim))
theorem clone_lv (h : Lv w0 w L) (hi : L[i]? = some (diskO g d)) (hN : d.Ok 100000) :
    Calls Try.prog 20 #[.pointer (some ⟨g, 0, none⟩)] w fun e w' => ∃ gc, e = .returned (.pointer (some ⟨gc, 0, none⟩)) ∧ Lv w0 w' (diskO gc d :: L) := by
  obtain ⟨B, ⟨gd, gm, row, N, hd, hBB⟩, hlt, _, hset⟩ := h.get hi
  refine (clone_dk (hd.bound hN) (Nat.le_refl _)).mono ?_
  rintro e w' ⟨gc, rfl, ⟨gdc, gmc, rowc, hdc, hge⟩, hb⟩
  exact ⟨gc, rfl, h.cons hb (B := Blk gc gdc gmc rowc) ⟨gdc, gmc, rowc, _, hdc, fun _ h => h⟩ (fun j hj => ⟨hge j hj, hdc.lt j hj⟩)⟩
/-- bytes of a thing -/
theorem Lv.bytes (h : Lv w0 w L) {v : Value} {l : List UInt8} (hi : L[i]? = some (bytesO v l)) : ∃ Z a c, v = .slice a l.length c ∧ Bs Z w a l.length c l := by
  obtain ⟨B, ⟨a, c, h1, h2⟩, _⟩ := h.get hi
  exact ⟨B, a, c, h1, h2⟩
end
end Go.Proofs.Ythffegfcgmhppaa
namespace Go.Proofs.Ythffegfcgmhppaa
open Go.RowKit
set_option linter.unusedSimpArgs false
set_option linter.unusedVariables false
theorem Bs.cells {D : Nat → Prop} {w : World} {a : Option Addr} {n c : Nat} {l : List UInt8} (h : Bs D w a n c l) (hn : 0 < n) : ∃ b off, D b ∧ b < w.heap.size ∧ a = some ⟨b, off, none⟩ ∧ ∀ i (hi : i < l.length), w.cell? ⟨b, off + i, none⟩ = some (.int .u8 (l[i].toNat : Int)) := by
  obtain ⟨h1, h2, h3, h4, h5, h6⟩ := h
  obtain ⟨b, off, hD, ha, hr⟩ := h6 hn
  exact ⟨b, off, hD, range_lt hr (by rw [vals_len]; omega), ha, fun i hi => hr i _ (by simp [vals, hi])⟩
theorem u8_under : Try.prog.underlying 5 = some (.int .u8) := Try.underlying5
theorem str_under : Try.prog.underlying 9 = some .string := Try.underlying9
/-- a slice of bytes as a string -/
theorem run_str {D : Nat → Prop} {w : World} {a : Option Addr} {n c : Nat} {l : List UInt8} (h : Bs D w a n c l) :
    (convert 32 9 (.slice a n c)).run Try.prog w = .ok (.string ⟨l.toArray⟩) w := by
  obtain ⟨h1, h2, h3, h4, h5, h6⟩ := h
  subst h1
  cases a with
  | none =>
    have := h5 rfl
    have hl : l = [] := List.eq_nil_of_length_eq_zero (by omega)
    subst hl
    exact run_convert_bytes_nil w 32 5 Try.underlying32 u8_under _ _ _ str_under
  | some ad =>
    refine run_convert_bytes_back w 32 9 5 ad c l Try.underlying32 u8_under str_under (fun j hj => ?_)
    obtain ⟨b, off, _, ha, hc⟩ := h6 (by omega)
    obtain rfl : ad = ⟨b, off, none⟩ := Option.some.inj ha
    rw [Addr.add_mid, hc j (.int .u8 (l[j].toNat : Int)) (by simp [vals, hj])]
/-- new bytes: nobody else's -/
def Made (w : World) (v : Value) (l : List UInt8) (w' : World) : Prop :=
  ∃ k, Own w' 5 1 k v l.length (vals l) ∧ (∀ j, k = some j → w.heap.size ≤ j) ∧ Below w.heap.size w w'
theorem Own.bs {w : World} {k : Option Nat} {v : Value} {l : List UInt8} (h : Own w 5 1 k v l.length (vals l)) : ∃ a c, v = .slice a l.length c ∧ Bs (fun b => k = some b) w a l.length c l := by
  obtain ⟨a, c, hv, hs⟩ := h.sl
  exact ⟨a, c, hv, rfl, hs⟩
theorem Bs.src {P : Program} {D : Nat → Prop} {w : World} {a : Option Addr} {n c : Nat} {l : List UInt8} {tx e' : TypeId} (h : Bs D w a n c l) (hk : P.underlying tx = some (.slice e')) : Src P 1 tx (.slice a n c) n (vals l) w := h.2.src hk (vals_one l)
theorem Made.bs {w w' : World} {v : Value} {l : List UInt8} (h : Made w v l w') : ∃ a c, v = .slice a l.length c ∧ Bs (fun b => w.heap.size ≤ b) w' a l.length c l := by
  obtain ⟨k, ho, hf, hb⟩ := h
  obtain ⟨a, c, hv, hs⟩ := ho.bs
  exact ⟨a, c, hv, hs.dom hf⟩
theorem Is.cells {D : Nat → Prop} {w : World} {a : Option Addr} {n c : Nat} {l : List Int} (h : Is D w a n c l) (hn : 0 < n) : ∃ b off, D b ∧ b < w.heap.size ∧ a = some ⟨b, off, none⟩ ∧ ∀ i (hi : i < l.length), w.cell? ⟨b, off + i, none⟩ = some (.int .i64 l[i]) := by
  obtain ⟨h1, h2, h3, h4, h5, h6⟩ := h
  obtain ⟨b, off, hD, ha, hr⟩ := h6 hn
  exact ⟨b, off, hD, range_lt hr (by rw [ivals_len]; omega), ha, fun i hi => hr i _ (by simp [ivals, hi])⟩
theorem ret_int {k : IntKind} {a b : Int} (h : a = b) : Ending.returned (.int k a) = .returned (.int k b) := by rw [h]
theorem vals_take (l : List UInt8) (n : Nat) : vals (l.take n) = (vals l).take n := by simp [vals, List.map_take]
theorem Bs.upto {D : Nat → Prop} {w : World} {a : Option Addr} {n c : Nat} {l : List UInt8} (h : Bs D w a n c l) (F : Nat) (hF : F ≤ n) : Bs D w a F c (l.take F) := by
  obtain ⟨h1, h2, h3, h4, h5, h6⟩ := h
  refine ⟨by rw [List.length_take]; omega, ?_, by omega, h4, h5, fun hp => ?_⟩
  · rw [vals_len, List.length_take]; omega
  · obtain ⟨b, off, hD, ha, hr⟩ := h6 (by omega)
    refine ⟨b, off, hD, ha, fun j v hv => hr j v ?_⟩
    rw [vals_take, List.getElem?_take] at hv
    split at hv
    · exact hv
    · cases hv
def FreshI (w : World) (v : Value) (l : List Int) (w' : World) : Prop := ∃ kk, Own w' 3 1 kk v l.length (ivals l) ∧ ∀ j, kk = some j → w.heap.size ≤ j
/-- n modulo most, as the laws reckon it -/
def around (n most : Int) : Int := if n < 0 then -(n + 1) % most else n % most
theorem around_bd (n most : Int) (h : 0 < most) : 0 ≤ around n most ∧ around n most < most := by
  unfold around
  split
  · exact ⟨Int.emod_nonneg _ (by omega), Int.emod_lt_of_pos _ h⟩
  · exact ⟨Int.emod_nonneg _ (by omega), Int.emod_lt_of_pos _ h⟩
theorem around_any (n most : Int) (w : World) (h1 : -9223372036854775808 ≤ n) (h2 : n ≤ 9223372036854775807) (h3 : 0 < most) (h4 : most ≤ 9223372036854775807) :
    Calls Try.prog 9 #[.int .i64 n, .int .i64 most] w fun e w' => e = .returned (.int .i64 (around n most)) ∧ w = w' := by
  by_cases hn : n < 0
  · have hw1 : IntKind.i64.wrap (n + 1) = n + 1 := i64_id _ (by omega) (by omega)
    have hw2 : IntKind.i64.wrap (-(n + 1)) = -(n + 1) := i64_id _ (by omega) (by omega)
    have HA : Hid (around n most = -(n + 1) % most) := Lib.hid (by unfold around; rw [if_pos hn])
    go_enter Try.func9, Try.ntmps9
    go_wp2
    go_ret
    have e : -(n + 1).tmod most = -(n + 1) % most := by rw [← Int.neg_tmod, Int.tmod_eq_emod_of_nonneg (by omega)]
    refine ⟨ret_int ?_, rfl⟩
    rw [HA.out, ← e]
  · have HA : Hid (around n most = n % most) := Lib.hid (by unfold around; rw [if_neg hn])
    go_enter Try.func9, Try.ntmps9
    go_wp2
    go_ret
    exact ⟨ret_int (by rw [HA.out]), rfl⟩
theorem sameBytes_any (D1 D2 : Nat → Prop) (a1 : Option Addr) (n1 c1 : Nat) (l1 : List UInt8) (a2 : Option Addr) (n2 c2 : Nat) (l2 : List UInt8) (w : World) (h1 : Bs D1 w a1 n1 c1 l1) (h2 : Bs D2 w a2 n2 c2 l2) :
    Calls Try.prog 38 #[.slice a1 n1 c1, .slice a2 n2 c2] w fun e w' => e = .returned (.bool (l1 == l2)) ∧ w = w' := by
  have r1 := run_str h1
  have r2 := run_str h2
  clear h1 h2
  go_enter Try.func38, Try.ntmps38
  go_wp2
  go_ret
  exact ⟨rfl, rfl⟩
theorem ivals_take (l : List Int) (n : Nat) : ivals (l.take n) = (ivals l).take n := by simp [ivals, List.map_take]
theorem Is.upto {D : Nat → Prop} {w : World} {a : Option Addr} {n c : Nat} {l : List Int} (h : Is D w a n c l) (F : Nat) (hF : F ≤ n) : Is D w a F c (l.take F) := by
  obtain ⟨h1, h2, h3, h4, h5, h6⟩ := h
  refine ⟨by rw [List.length_take]; omega, ?_, by omega, h4, h5, fun hp => ?_⟩
  · rw [ivals_len, List.length_take]; omega
  · obtain ⟨b, off, hD, ha, hr⟩ := h6 (by omega)
    refine ⟨b, off, hD, ha, fun j v hv => hr j v ?_⟩
    rw [ivals_take, List.getElem?_take] at hv
    split at hv
    · exact hv
    · cases hv
theorem Is.src {P : Program} {D : Nat → Prop} {w : World} {a : Option Addr} {n c : Nat} {l : List Int} {tx e' : TypeId} (h : Is D w a n c l) (hk : P.underlying tx = some (.slice e')) : Src P 1 tx (.slice a n c) n (ivals l) w := h.2.src hk (ivals_one l)
/-- new numbers, nothing else changed -/
def MadeI (w : World) (v : Value) (l : List Int) (w' : World) : Prop := FreshI w v l w' ∧ Below w.heap.size w w'
end Go.Proofs.Ythffegfcgmhppaa
namespace Go.Proofs.Ythffegfcgmhppaa
open Go.RowKit
set_option linter.unusedSimpArgs false
set_option linter.unusedVariables false
theorem Lv.made {w0 w w' : World} {L : List Obj} (h : Lv w0 w L) {v : Value} {l : List UInt8} (hm : Made w v l w') : Lv w0 w' (bytesO v l :: L) := by
  obtain ⟨k, ho, hf, hb⟩ := hm
  obtain ⟨a, c, hv, hs⟩ := ho.bs
  exact h.cons hb (B := fun b => k = some b) ⟨a, c, hv, hs⟩ (fun j hj => ⟨hf j hj, ho.lt j hj⟩)
theorem u8_of (z : Int) (h0 : 0 ≤ z) (h1 : z < 256) : ∃ x : UInt8, z = (x.toNat : Int) := ⟨UInt8.ofNat z.toNat, by rw [UInt8.toNat_ofNat']; omega⟩
theorem u8_wrap (z : Int) : ∃ x : UInt8, IntKind.u8.wrap z = (x.toNat : Int) := by
  refine u8_of _ ?_ ?_
  · rw [IntKind.wrap_u8]; omega
  · rw [IntKind.wrap_u8]; omega
end Go.Proofs.Ythffegfcgmhppaa
namespace Go.Proofs.Ythffegfcgmhppaa
open Go.RowKit
set_option linter.unusedSimpArgs false
set_option linter.unusedVariables false
theorem around_nat (n most : Int) (h : 0 < most) : ∃ r : Nat, around n most = (r : Int) ∧ (r : Int) < most := by
  have := around_bd n most h
  exact ⟨(around n most).toNat, by omega, by omega⟩
/-- 64 equal bytes -/
def rep (c : UInt8) : List UInt8 := List.replicate 64 c
section
variable {w0 w : World} {L : List Obj} {g i : Nat} {d : DM}
/-- how many sectors a disk is made with -/
def secs (n : Int) : Nat := 1 + (around n 16).toNat
theorem secs_bd (n : Int) : 1 ≤ secs n ∧ secs n ≤ 16 := by
  have := around_bd n 16 (by omega)
  unfold secs
  omega
theorem read_w (h : Lv w0 w L) (hi : L[i]? = some (diskO g d)) (k : Nat) (hk : k < d.S.length) (ho : d.on = true) :
    Calls Try.prog 37 #[.pointer (some ⟨g, 0, none⟩), .int .i64 (k : Int)] w fun e w' => ∃ a c, e = .returned (.tuple #[.slice a 64 c, .int .i64 0]) ∧ Lv w0 w' (bytesO (.slice a 64 c) (lastB d.S[k]) :: L) := by
  have h64 := (h.ok hi).2.2.2 _ (List.getElem_mem hk)
  have hl := h64.2 _ (lastB_mem h64.1)
  refine (read_lv h hi k hk ho).mono ?_
  rintro e w' ⟨v, rfl, hl2⟩
  obtain ⟨Z, a, c, rfl, hb⟩ := hl2.bytes (i := 0) rfl
  rw [hl] at hl2 ⊢
  exact ⟨a, c, rfl, hl2⟩
theorem Lv.bs {a : Option Addr} {n c : Nat} {l : List UInt8} (h : Lv w0 w L) (hi : L[i]? = some (bytesO (.slice a n c) l)) : ∃ Z, Bs Z w a n c l := by
  obtain ⟨Z, a', c', e, hb⟩ := h.bytes hi
  injection e with e1 e2 e3
  subst e1 e2 e3
  exact ⟨Z, hb⟩
end
def q0 : DM := DM.new 2
def q1 : DM := q0.write 1 (rep 7)
def q2 : DM := q1.flush
def q3 : DM := q2.write 1 (rep 8)
def q4 : DM := q3.write 1 (rep 9)
def q5 : DM := q4.restart [⟨1, 1, 10⟩]
def c1 : DM := q4.restart []
def c2 : DM := c1.setFuse 1
def c3 : DM := c2.write 0 (rep 1)
theorem rep_len (c : UInt8) : (rep c).length = 64 := List.length_replicate
theorem okq0 : q0.Ok 0 := DM.new_ok (by omega) (by omega)
theorem okq1 : q1.Ok 1 := DM.write_ok okq0 (rep_len 7)
theorem okq2 : q2.Ok 0 := DM.flush_ok okq1
theorem okq3 : q3.Ok 1 := DM.write_ok okq2 (rep_len 8)
theorem okq4 : q4.Ok 2 := DM.write_ok okq3 (rep_len 9)
theorem okc1 : c1.Ok 0 := DM.restart_ok okq4 []
theorem c2_fuse : c2.fuse = 1 := by kernel_rfl
theorem okc2 : c2.Ok 100000 := DM.Ok.mono (N := 0) ⟨okc1.1, okc1.2.1, by rw [c2_fuse]; omega, okc1.2.2.2⟩ (by omega)
theorem lenq0 : q0.S.length = 2 := by kernel_rfl
theorem lenq1 : q1.S.length = 2 := by kernel_rfl
theorem lenq2 : q2.S.length = 2 := by kernel_rfl
theorem lenq3 : q3.S.length = 2 := by kernel_rfl
theorem lenq4 : q4.S.length = 2 := by kernel_rfl
theorem lenq5 : q5.S.length = 2 := by kernel_rfl
theorem lenc1 : c1.S.length = 2 := by kernel_rfl
theorem lenc2 : c2.S.length = 2 := by kernel_rfl

theorem q4_last (h : 1 < q4.S.length) : lastB (q4.S[1]'h) = rep 9 := by kernel_rfl
theorem c1_last (h : 1 < c1.S.length) : lastB (c1.S[1]'h) = rep 7 := by kernel_rfl
def bl5 : List UInt8 := (rep 9).take 10 ++ (rep 8).drop 10
theorem q5_last (h : 1 < q5.S.length) : lastB (q5.S[1]'h) = bl5 := by kernel_rfl
theorem bl5_len : bl5.length = 64 := by kernel_rfl
theorem bl5_9 (h : 9 < bl5.length) : bl5[9] = 9 := by kernel_rfl
theorem bl5_10 (h : 10 < bl5.length) : bl5[10] = 8 := by kernel_rfl
def tn1 : Value := .slice none 0 0
theorem run_torn1 (W : World) : (Instr.build 96 #[(0, .int .i64 1), (1, .int .i64 1), (2, .int .i64 10)]).run Try.prog W = .ok (.agg #[.int .i64 1, .int .i64 1, .int .i64 10]) W := by kernel_rfl
theorem run_torn2 (W : World) : (Instr.buildSlice 51 1 #[(0, .agg #[.int .i64 1, .int .i64 1, .int .i64 10])]).run Try.prog W = .ok (.slice (some ⟨W.heap.size, 0, none⟩) 1 1) (W.alloc (.cells #[.int .i64 1, .int .i64 1, .int .i64 10] 96)) := by kernel_rfl
theorem torn1_lv {w0 w : World} {L : List Obj} (h : Lv w0 w L) : Lv w0 (w.alloc (.cells #[.int .i64 1, .int .i64 1, .int .i64 10] 96)) (tornO (.slice (some ⟨w.heap.size, 0, none⟩) 1 1) [⟨1, 1, 10⟩] :: L) := by
  refine h.cons ((Below.refl _ _).alloc (Nat.le_refl _) _) (B := fun b => b = w.heap.size) ⟨some ⟨w.heap.size, 0, none⟩, 1, rfl, rfl, ⟨rfl, Nat.le_refl _, by unfold maxLen; decide, (fun h => by cases h), fun _ => ⟨_, 0, rfl, rfl, ?_⟩⟩, ?_⟩ ?_
  · exact range_row (l := [.int .i64 1, .int .i64 1, .int .i64 10]) (heap_new rfl)
  · intro t ht
    rw [List.mem_singleton.1 ht]
    unfold TOk; decide
  · rintro j rfl
    exact ⟨Nat.le_refl _, by simp⟩
theorem Lv.ts {w0 w : World} {L : List Obj} {i : Nat} {a : Option Addr} {n c : Nat} {ts : List TM} (h : Lv w0 w L) (hi : L[i]? = some (tornO (.slice a n c) ts)) : ∃ Z, Ts Z w a n c ts := by
  obtain ⟨B, ⟨a', c', e, hb⟩, _⟩ := h.get hi
  injection e with e1 e2 e3
  subst e1 e2 e3
  exact ⟨B, hb⟩
end Go.Proofs.Ythffegfcgmhppaa

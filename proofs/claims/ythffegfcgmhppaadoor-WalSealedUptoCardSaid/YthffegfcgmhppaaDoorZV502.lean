/-
  Texts T0, T1, T3, T4, T5, T6, U1, U2, U5, W0, W1, W2, W3, W4, one behind the other.
-/
import Derived.WalkKit
import Derived.WalkSpells
import Derived.WalkLawsBesides
import Derived.Laws.AppendOwn
import Derived.Laws.OwnMore
import Derived.Deep.AppendSrc
import Derived.Deep.MidRow
import Derived.Lib.Hide
import GoSem.Claim
import Derived.Orders
import Derived.Tactics
import Derived.Maps.RangeRun
import Derived.Maps.Range
import Derived.Maps.OwnOps
import Derived.Maps.RangeWalk
import Derived.Deep.Cut
import Derived.Deep.RegionWith
import Derived.Deep.DrawnRows
import Derived.StillTailTactics
import Derived.Carry
import Derived.Laws.CopyOwn
import Derived.Lib.AppendZerosOnto
import Derived.Deep.QuietTactic
import Derived.BigQuiet
import Derived.Laws.BytesString
import Derived.Laws.AppendOwnNone
import Derived.ProofKit
import Derived.OpenShut
import Derived.Deep.Slices
import Derived.Deep.Fields
import Derived.JoinedCond
import Derived.Test.YthffegfcgmhppaaDoorRows
import Derived.Test.YthffegfcgmhppaaDoorZV501
namespace Go.Proofs.YthffegfcgmhppaaDoor
open Go.RowKit
set_option linter.unusedSimpArgs false
set_option linter.unusedVariables false
def Drs6 : List (Option Tmp) := [some 44, some 45, some 46, some 47, some 48, some 49, none]
def Lrs6 : List (List Nat) := [[], [0], [1], [2], [], [4], [3, 5]]
def Drs5 : List (Option Tmp) := [some 26, some 27, some 28, some 29, some 30, some 31, some 32, some 33, some 34, some 35, some 36, some 37, some 38, some 39, some 40, some 41, some 42, some 43, none]
def Lrs5 : List (List Nat) := [[], [0], [1], [2], [], [4], [], [6], [7], [8], [], [10], [9, 11], [12], [], [], [13, 14, 15], [3, 5], [17, 16]]
def Drsn : List (Option Tmp) := [some 15, some 16, some 17, some 18, some 19, some 20, some 21, some 14, some 22, some 23, some 6, some 7]
def Lrsn : List (List Nat) := [[], [0], [1], [2], [], [4], [3, 5], [6], [7], [7], [8], [9]]
def Drsy : List (Option Tmp) := [some 15, some 16, some 17, some 18, some 19, some 20, some 21, some 14, some 22, some 23, some 6, some 7]
def Lrsy : List (List Nat) := [[], [0], [1], [2], [], [4], [3, 5], [6], [7], [7], [8], [9]]
theorem run_alloc67 (W : World) : (Instr.alloc 73 true (.tuple #[])).run Tryd.prog W = .ok (.pointer (some ⟨W.heap.size, 0, none⟩)) (W.alloc (.cells #[.int .i64 0, .int .i64 0, .int .i64 0] 73)) := by kernel_rfl
section
variable {w : World} {g gd gm : Nat} {row : Nat → Option Nat} {N : Nat} {d : DM}
theorem Dk.durThere (h : Dk w g gd gm row N d) (k : Nat) (hk : k < d.S.length) {p : World} (hK : Kept (fun _ => False) w p) : p.there gd (k * 64) 64 := by
  obtain ⟨cap, cur, h1, h2, h3, h4, h5, h6⟩ := h.self
  have h2 := hK.heap h2 (fun h => h)
  intro j hj
  have hlt : k * 64 + j < cur.size := by rw [h5]; have := Nat.mul_le_mul_right 64 (show k + 1 ≤ cap by omega); omega
  refine ⟨?_, frozen_of_row p gd _ _ _ h2⟩
  rw [cell_of_row p gd _ _ _ _ h2, Array.getElem?_eq_getElem hlt]
  rfl
set_option maxRecDepth 100000 in
set_option maxHeartbeats 4000000 in
theorem restart_dk (h : Dk w g gd gm row N d) {D : Nat → Prop} {a : Option Addr} {n c : Nat} {ts : List TM} (hT : Ts D w a n c ts) (hD : ∀ j, D j → ¬ Blk g gd gm row j) :
    Calls Tryd.prog 13 #[.pointer (some ⟨g, 0, none⟩), .slice a n c] w fun e w' => e = .returned (.tuple #[]) ∧ Dk w' g gd gm (fun _ => none) 0 (d.restart ts) ∧ Kept (Blk g gd gm row) w w' := by
  have hnm : n ≤ 9223372036854775807 := by have := hT.2.1.2.1; have := hT.2.1.2.2.1; unfold maxLen at this; omega
  have HOK := Lib.hid h.ok
  have H := Lib.hid h
  have HT := Lib.hid hT
  have HSep := Lib.hid hD
  clear h hT hD
  go_enter Tryd.func13, Tryd.ntmps13
  go_wp2_with fail
  go_loopw [10] (fun t wr => ∃ i : Nat, i ≤ n ∧ t = .int .i64 (i : Int) ∧ ∃ rowi, Dk wr g gd gm rowi N ⟨DM.torn d.S (ts.take i), d.on, d.fuse⟩ ∧ Kept (Blk g gd gm row) w wr ∧ ∀ j x, rowi j = some x → row j = some x) (fun t _ => n - (intOf t).toNat)
  case atStart => exact ⟨0, Nat.zero_le _, rfl, row, by rw [List.take_zero, torn_nil]; exact H.out, Kept.refl _ _, fun _ _ h => h⟩
  case round =>
    obtain ⟨i, hi, rfl, rowi, hDi, hKi, hRi⟩ := hrel
    have HDi := Lib.hid hDi
    have HKi := Lib.hid hKi
    have HRi := Lib.hid hRi
    clear hDi hKi hRi
    by_cases hlt : i < n
    · have hDi := HDi.out
      obtain ⟨n1, n2, n3, n4⟩ := hDi.g_ne
      have hlti := hDi.lt
      obtain ⟨b, off, hDb, hbw, rfl, hrb⟩ := (HT.out.kept HKi.out (fun b hb hd => HSep.out b hd)).at (by omega)
      have hil : i < ts.length := by have := HT.out.1; omega
      have hr3 := hrb i hil
      obtain ⟨tm, htm⟩ : ∃ tm, tm = ts[i] := ⟨_, rfl⟩
      have htok : TOk tm := by rw [htm]; exact HT.out.2.2 _ (List.getElem_mem hil)
      rw [← htm] at hr3
      have htk : ts.take (i + 1) = ts.take i ++ [tm] := by rw [List.take_succ_eq_append_getElem hil, htm]
      obtain ⟨g5, hg5⟩ : ∃ g5, g5 = wr.heap.size := ⟨_, rfl⟩
      obtain ⟨q, hq⟩ : ∃ q, q = (wr.alloc (.cells #[.int .i64 0, .int .i64 0, .int .i64 0] 73)).setRow wr.heap.size #[.int .i64 tm.sector, .int .i64 tm.writes, .int .i64 tm.bytes] := ⟨_, rfl⟩
      have hKq : Kept (fun _ => False) wr q := by rw [hq]; exact Kept.of_below _ (below_setRow ((Below.refl _ _).alloc (Nat.le_refl _) _) (Nat.le_refl _) _)
      have hq5r : q.heap[g5]? = some (.cells #[.int .i64 tm.sector, .int .i64 tm.writes, .int .i64 tm.bytes] 73 (0, 0)) := by rw [hq, hg5]; exact setRow_heap _ _ _ _ _ _ (heap_new rfl)
      have hq5 : q.cell? ⟨g5, 0, none⟩ = some (.int .i64 tm.sector) := by rw [cell_of_row _ _ _ _ _ _ hq5r]; rfl
      obtain ⟨cap, hc1, hc2, c0, c1, _, _, _⟩ := hDi.facts
      have HgQ : Hid (g < q.heap.size) := Lib.hid (Nat.lt_of_lt_of_le (hlti g (.inl rfl)) hKq.size)
      have H5Q : Hid (g5 < q.heap.size) := Lib.hid (heap_lt hq5r)
      have Q1 : Hid (q.cell? ⟨g, 1, none⟩ = some (.map (some gm))) := Lib.hid ((hKq.cell (hlti g (.inl rfl)) (fun h => h)).trans c1)
      have Hr3 := Lib.hid hr3
      have Hq := Lib.hid hq
      have HKq := Lib.hid hKq
      have Hg5 := Lib.hid hg5
      have hi2 : (i : Int) < (n : Int) := by omega

      by_cases hx : ∃ (k : Nat) (hk : k < (DM.torn d.S (ts.take i)).length), tm.sector = (k : Int) ∧ (DM.torn d.S (ts.take i))[k].tail ≠ []
      · obtain ⟨k, hkx, hsx, htx⟩ := hx
        obtain ⟨sc, wri, byt⟩ := tm
        simp only at hsx hq5 hq5r hq Hq Hr3
        subst hsx
        obtain ⟨tm, htm2⟩ : ∃ tm : TM, tm = ⟨(k : Int), wri, byt⟩ := ⟨_, rfl⟩
        have ew : wri = tm.writes := by rw [htm2]
        have eb : byt = tm.bytes := by rw [htm2]
        obtain ⟨gk, c, hrk, hown, htc, hc22, hlk⟩ := hDi.lookYes k hkx htx
        obtain ⟨hsne, hsN, hs64⟩ := hDi.ok.2.2.2 _ (List.getElem_mem hkx)
        obtain ⟨tl, htl⟩ : ∃ tl, tl = (DM.torn d.S (ts.take i))[k].tail := ⟨_, rfl⟩
        obtain ⟨old, hold⟩ : ∃ old, old = dur (DM.torn d.S (ts.take i))[k] := ⟨_, rfl⟩
        have hcons : (DM.torn d.S (ts.take i))[k] = old :: tl := by
          rw [hold, htl]
          cases hS : (DM.torn d.S (ts.take i))[k] with
          | nil => exact absurd hS hsne
          | cons x r => rfl
        obtain ⟨SV, hSV⟩ : ∃ SV, SV = surv (old :: tl) wri byt := ⟨_, rfl⟩
        have HTS : Hid (DM.torn d.S (ts.take (i + 1)) = (DM.torn d.S (ts.take i)).set k [SV]) := Lib.hid (by rw [htk, torn_set _ _ k hkx rfl htx, hcons, hSV])
        obtain ⟨hdk, hd64⟩ := hDi.durAt k hkx
        rw [← hold] at hdk hd64
        have HSV64 : Hid (SV.length = 64) := Lib.hid (by rw [hSV, ← hcons]; exact surv_len hsne hs64 _ _)
        have Hold := Lib.hid hd64
        have Htl : Hid (tl ≠ []) := Lib.hid (by rw [htl]; exact htx)
        have Ht64 : Hid (∀ b ∈ tl, b.length = 64) := Lib.hid (fun b hb => hs64 b (by rw [hcons]; exact List.mem_cons_of_mem _ hb))
        rw [← htl] at htc hown
        simp only at hlk
        have Htc := Lib.hid htc
        have Hc2 := Lib.hid hc22
        obtain ⟨c', hsl, _, _, hrr⟩ := hown.secs Ht64.out rfl
        obtain rfl : c = c' := by injection hsl
        have hgkl : gk < wr.heap.size := hlti gk (.inr (.inr (.inr ⟨k, hrk⟩)))
        have HSV : Hid (SV = surv (old :: tl) tm.writes tm.bytes) := Lib.hid (by rw [hSV, ew, eb])
        obtain ⟨L, hL⟩ : ∃ L, L = (DM.torn d.S (ts.take i)).length := ⟨_, rfl⟩
        have hkL0 : k < L := by rw [hL]; exact hkx
        have HkL : Hid ((k : Int) < (L : Int)) := Lib.hid (by omega)
        have HLc : Hid (L ≤ cap ∧ cap ≤ 9223372036854775807 ∧ L ≤ 4096) := Lib.hid ⟨by rw [hL]; exact hc1, hc2, by rw [hL]; exact hDi.ok.2.1⟩
        have HkS := Lib.hid hkx
        simp only at c0
        rw [← hL] at c0
        have Q0 : Hid (q.cell? ⟨g, 0, none⟩ = some (.slice (some ⟨gd, 0, none⟩) L cap)) := Lib.hid ((hKq.cell (hlti g (.inl rfl)) (fun h => h)).trans c0)
        have HgdQ : Hid (gd < q.heap.size) := Lib.hid (Nat.lt_of_lt_of_le (hlti gd (.inr (.inl rfl))) hKq.size)
        have HgkQ : Hid (gk < q.heap.size) := Lib.hid (Nat.lt_of_lt_of_le hgkl hKq.size)
        have QD : Hid (q.rangeAt gd (k * 64) (vals old)) := Lib.hid (fun j v hv => (hKq.cell (p := ⟨gd, k * 64 + j, none⟩) (hlti gd (.inr (.inl rfl))) (fun h => h)).trans (hdk j v hv))
        have QR : Hid (∀ (i : Nat) (hi : i < tl.length), q.rangeAt gk (i * 64) (vals tl[i])) := Lib.hid (fun i hi j v hv => (hKq.cell (p := ⟨gk, i * 64 + j, none⟩) hgkl (fun h => h)).trans (hrr i hi j v hv))
        have QT : Hid (q.there gd (k * 64) 64) := Lib.hid (hDi.durThere k hkx hKq)
        have Q5 : Hid (q.cell? ⟨g5, 0, none⟩ = some (.int .i64 (k : Int))) := Lib.hid hq5
        have Q5r : Hid (q.heap[g5]? = some (.cells #[.int .i64 (k : Int), .int .i64 tm.writes, .int .i64 tm.bytes] 73 (0, 0))) := Lib.hid (by rw [← ew, ← eb]; exact hq5r)
        have Hne : Hid (¬ g = gd ∧ ¬ g = gm) := Lib.hid ⟨n1, n2⟩
        have Hne5 : Hid (¬ g5 = gd) := Lib.hid (fun e => by have := hlti gd (.inr (.inl rfl)); omega)
        have Hne5m : Hid (¬ g5 = gm) := Lib.hid (fun e => by have := hlti gm (.inr (.inr (.inl rfl))); omega)
        have HLK : Hid (∀ p, Kept (fun _ => False) q p → (Instr.lookup 56 (.map (some gm)) (.int .i64 (k : Int)) true).run Tryd.prog p = .ok (.tuple #[.slice (some ⟨gk, 0, none⟩) tl.length c, .bool true]) p) := Lib.hid (fun p hp => by rw [htl]; exact hlk (fun _ => False) p (fun h => h) (hKq.trans hp (fun _ _ h => h)))
        rw [ew, eb] at Hq Hr3
        clear hDi n1 n2 n3 n4 hlti hDb hbw hrb hr3 htok htk hg5 hq hKq hq5r hq5 hc1 hc2 c0 c1 hcons hSV hdk hd64 hown hlk htc hc22 hsl hrr hgkl hL hkL0 hrk hsne hsN hs64 htx hold htl htm2 ew eb
        go_upto_region 3 with (first
          | (refine wpList_load_mid rfl 73 (.tmp 12) rfl b (off + i * 3) rfl _ _ Hr3.out Tryd.underlying73 rfl (by kernel_rfl) ?_)
          | (refine wpList_alloc_z rfl 73 rfl _ 73 run_alloc67 ?_)
          | (refine wpList_store_row rfl 73 (.tmp 5) (.tmp 13) rfl wr.heap.size _ rfl rfl 73 _ (heap_new rfl) (by kernel_rfl) rfl (by simp [Value.oneCell']) ?_))
        rw [← Hq.out, ← Hg5.out]
        refine Roll.region_f 12 61 Drsy Lrsy [(0, .pointer (some ⟨g, 0, none⟩)), (5, .pointer (some ⟨g5, 0, none⟩))] (fun p => Kept (fun _ => False) q p) (fun p p2 => Kept (fun _ => False) p p2) [fun vv p => vv = .pointer (some ⟨g, 0, none⟩), fun vv p => vv = .pointer (some ⟨g, 0, none⟩), fun vv p => vv = .pointer (some ⟨g, 1, none⟩), fun vv p => vv = .map (some gm), fun vv p => vv = .pointer (some ⟨g5, 0, none⟩), fun vv p => vv = .int .i64 (k : Int), fun vv p => vv = .tuple #[.slice (some ⟨gk, 0, none⟩) tl.length c, .bool true], fun vv p => vv = .tuple #[.slice (some ⟨gk, 0, none⟩) tl.length c, .bool true], fun vv p => vv = .slice (some ⟨gk, 0, none⟩) tl.length c, fun vv p => vv = .bool true, fun vv p => vv = .slice (some ⟨gk, 0, none⟩) tl.length c, fun vv p => vv = .bool true] (by kernel_rfl) (by kernel_rfl) rfl ⟨rfl, rfl, trivial⟩ ((Kept.refl _ _).drew) ?_ ?_ ?_
        · exact ⟨fun _ _ _ _ h => h, fun _ _ _ _ h => h, fun _ _ _ _ h => h, fun _ _ _ _ h => h, fun _ _ _ _ h => h, fun _ _ _ _ h => h, fun _ _ _ _ h => h, fun _ _ _ _ h => h, fun _ _ _ _ h => h, fun _ _ _ _ h => h, fun _ _ _ _ h => h, fun _ _ _ _ h => h, trivial⟩
        · intro b0 hN hlv
          refine ⟨?_, ?_, ?_, ?_, ?_, ?_, ?_, ?_, ?_, ?_, ?_, ?_, trivial⟩
          · intro vs p hI hp
            have e0 : (Roll.putD Drsy vs [] b0).eval (.tmp 0) = .pointer (some ⟨g, 0, none⟩) := (Roll.eval_old rfl).trans (hlv.at 0 (0, .pointer (some ⟨g, 0, none⟩)) rfl)
            clear hp hlv hN
            unfold Roll.Goes
            simp only [Lrsy, List.getD_cons_zero, List.getD_cons_succ]
            generalize Roll.putD Drsy vs [] b0 = a1 at *
            refine Roll.goes_val (w' := p) (.pointer (some ⟨g, 0, none⟩)) rfl ?_ ⟨hI, Kept.refl _ _, rfl⟩
            (have ec : ∀ x, a1.eval (.const x) = x := fun _ => rfl); (have ef : ∀ x, a1.eval (.func x) = .func (.func x) #[] #[] := fun _ => rfl); generalize a1.eval = ρ at *
            skip
            go_simp <;> (intros; first | (exfalso; omega) | rfl)
          · intro vs p hI hp
            have h0 : (vs 0) = .pointer (some ⟨g, 0, none⟩) := hp 0 (by simp [Lrsy])
            have e15 : (Roll.putD Drsy vs [0] b0).eval (.tmp 15) = .pointer (some ⟨g, 0, none⟩) := (Roll.eval_new 0 rfl (by decide) (by decide) (by omega)).trans h0
            clear hp hlv hN
            unfold Roll.Goes
            simp only [Lrsy, List.getD_cons_zero, List.getD_cons_succ]
            generalize Roll.putD Drsy vs [0] b0 = a1 at *
            refine Roll.goes_val (w' := p) (.pointer (some ⟨g, 0, none⟩)) rfl ?_ ⟨hI, Kept.refl _ _, rfl⟩
            (have ec : ∀ x, a1.eval (.const x) = x := fun _ => rfl); (have ef : ∀ x, a1.eval (.func x) = .func (.func x) #[] #[] := fun _ => rfl); generalize a1.eval = ρ at *
            clear h0
            go_simp <;> (intros; first | (exfalso; omega) | rfl)
          · intro vs p hI hp
            have h1 : (vs 1) = .pointer (some ⟨g, 0, none⟩) := hp 1 (by simp [Lrsy])
            have e16 : (Roll.putD Drsy vs [1] b0).eval (.tmp 16) = .pointer (some ⟨g, 0, none⟩) := (Roll.eval_new 1 rfl (by decide) (by decide) (by omega)).trans h1
            clear hp hlv hN
            unfold Roll.Goes
            simp only [Lrsy, List.getD_cons_zero, List.getD_cons_succ]
            generalize Roll.putD Drsy vs [1] b0 = a1 at *
            refine Roll.goes_val (w' := p) (.pointer (some ⟨g, 1, none⟩)) rfl ?_ ⟨hI, Kept.refl _ _, rfl⟩
            (have ec : ∀ x, a1.eval (.const x) = x := fun _ => rfl); (have ef : ∀ x, a1.eval (.func x) = .func (.func x) #[] #[] := fun _ => rfl); generalize a1.eval = ρ at *
            clear h1
            go_simp <;> (intros; first | (exfalso; omega) | rfl)
          · intro vs p hI hp
            have h2 : (vs 2) = .pointer (some ⟨g, 1, none⟩) := hp 2 (by simp [Lrsy])
            have e17 : (Roll.putD Drsy vs [2] b0).eval (.tmp 17) = .pointer (some ⟨g, 1, none⟩) := (Roll.eval_new 2 rfl (by decide) (by decide) (by omega)).trans h2
            clear hp hlv hN
            unfold Roll.Goes
            simp only [Lrsy, List.getD_cons_zero, List.getD_cons_succ]
            generalize Roll.putD Drsy vs [2] b0 = a1 at *
            have c1p : p.cell? ⟨g, 1, none⟩ = some (.map (some gm)) := (hI.cell HgQ.out (fun h => h)).trans Q1.out
            refine Roll.goes_val (w' := p) (.map (some gm)) rfl ?_ ⟨hI, Kept.refl _ _, rfl⟩
            (have ec : ∀ x, a1.eval (.const x) = x := fun _ => rfl); (have ef : ∀ x, a1.eval (.func x) = .func (.func x) #[] #[] := fun _ => rfl); generalize a1.eval = ρ at *
            clear h2
            go_simp <;> (intros; first | (exfalso; omega) | rfl)
          · intro vs p hI hp
            have e5 : (Roll.putD Drsy vs [] b0).eval (.tmp 5) = .pointer (some ⟨g5, 0, none⟩) := (Roll.eval_old rfl).trans (hlv.at 1 (5, .pointer (some ⟨g5, 0, none⟩)) rfl)
            clear hp hlv hN
            unfold Roll.Goes
            simp only [Lrsy, List.getD_cons_zero, List.getD_cons_succ]
            generalize Roll.putD Drsy vs [] b0 = a1 at *
            refine Roll.goes_val (w' := p) (.pointer (some ⟨g5, 0, none⟩)) rfl ?_ ⟨hI, Kept.refl _ _, rfl⟩
            (have ec : ∀ x, a1.eval (.const x) = x := fun _ => rfl); (have ef : ∀ x, a1.eval (.func x) = .func (.func x) #[] #[] := fun _ => rfl); generalize a1.eval = ρ at *
            skip
            go_simp <;> (intros; first | (exfalso; omega) | rfl)
          · intro vs p hI hp
            have h4 : (vs 4) = .pointer (some ⟨g5, 0, none⟩) := hp 4 (by simp [Lrsy])
            have e19 : (Roll.putD Drsy vs [4] b0).eval (.tmp 19) = .pointer (some ⟨g5, 0, none⟩) := (Roll.eval_new 4 rfl (by decide) (by decide) (by omega)).trans h4
            clear hp hlv hN
            unfold Roll.Goes
            simp only [Lrsy, List.getD_cons_zero, List.getD_cons_succ]
            generalize Roll.putD Drsy vs [4] b0 = a1 at *
            have c5p : p.cell? ⟨g5, 0, none⟩ = some (.int .i64 (k : Int)) := (hI.cell H5Q.out (fun h => h)).trans Q5.out
            refine Roll.goes_val (w' := p) (.int .i64 (k : Int)) rfl ?_ ⟨hI, Kept.refl _ _, rfl⟩
            (have ec : ∀ x, a1.eval (.const x) = x := fun _ => rfl); (have ef : ∀ x, a1.eval (.func x) = .func (.func x) #[] #[] := fun _ => rfl); generalize a1.eval = ρ at *
            clear h4
            go_simp <;> (intros; first | (exfalso; omega) | rfl)
          · intro vs p hI hp
            have h3 : (vs 3) = .map (some gm) := hp 3 (by simp [Lrsy])
            have h5 : (vs 5) = .int .i64 (k : Int) := hp 5 (by simp [Lrsy])
            have e18 : (Roll.putD Drsy vs [3, 5] b0).eval (.tmp 18) = .map (some gm) := (Roll.eval_new 3 rfl (by decide) (by decide) (by omega)).trans h3
            have e20 : (Roll.putD Drsy vs [3, 5] b0).eval (.tmp 20) = .int .i64 (k : Int) := (Roll.eval_new 5 rfl (by decide) (by decide) (by omega)).trans h5
            clear hp hlv hN
            unfold Roll.Goes
            simp only [Lrsy, List.getD_cons_zero, List.getD_cons_succ]
            generalize Roll.putD Drsy vs [3, 5] b0 = a1 at *
            have hlk := HLK.out p hI
            refine Roll.goes_val (w' := p) (.tuple #[.slice (some ⟨gk, 0, none⟩) tl.length c, .bool true]) rfl ?_ ⟨hI, Kept.refl _ _, rfl⟩
            (have ec : ∀ x, a1.eval (.const x) = x := fun _ => rfl); (have ef : ∀ x, a1.eval (.func x) = .func (.func x) #[] #[] := fun _ => rfl); generalize a1.eval = ρ at *
            clear h3 h5
            go_simp <;> (intros; first | (exfalso; omega) | rfl)
          · intro vs p hI hp
            have h6 : (vs 6) = .tuple #[.slice (some ⟨gk, 0, none⟩) tl.length c, .bool true] := hp 6 (by simp [Lrsy])
            have e21 : (Roll.putD Drsy vs [6] b0).eval (.tmp 21) = .tuple #[.slice (some ⟨gk, 0, none⟩) tl.length c, .bool true] := (Roll.eval_new 6 rfl (by decide) (by decide) (by omega)).trans h6
            clear hp hlv hN
            unfold Roll.Goes
            simp only [Lrsy, List.getD_cons_zero, List.getD_cons_succ]
            generalize Roll.putD Drsy vs [6] b0 = a1 at *
            refine Roll.goes_val (w' := p) (.tuple #[.slice (some ⟨gk, 0, none⟩) tl.length c, .bool true]) rfl ?_ ⟨hI, Kept.refl _ _, rfl⟩
            (have ec : ∀ x, a1.eval (.const x) = x := fun _ => rfl); (have ef : ∀ x, a1.eval (.func x) = .func (.func x) #[] #[] := fun _ => rfl); generalize a1.eval = ρ at *
            clear h6
            go_simp <;> (intros; first | (exfalso; omega) | rfl)
          · intro vs p hI hp
            have h7 : (vs 7) = .tuple #[.slice (some ⟨gk, 0, none⟩) tl.length c, .bool true] := hp 7 (by simp [Lrsy])
            have e14 : (Roll.putD Drsy vs [7] b0).eval (.tmp 14) = .tuple #[.slice (some ⟨gk, 0, none⟩) tl.length c, .bool true] := (Roll.eval_new 7 rfl (by decide) (by decide) (by omega)).trans h7
            clear hp hlv hN
            unfold Roll.Goes
            simp only [Lrsy, List.getD_cons_zero, List.getD_cons_succ]
            generalize Roll.putD Drsy vs [7] b0 = a1 at *
            refine Roll.goes_val (w' := p) (.slice (some ⟨gk, 0, none⟩) tl.length c) rfl ?_ ⟨hI, Kept.refl _ _, rfl⟩
            (have ec : ∀ x, a1.eval (.const x) = x := fun _ => rfl); (have ef : ∀ x, a1.eval (.func x) = .func (.func x) #[] #[] := fun _ => rfl); generalize a1.eval = ρ at *
            clear h7
            go_simp <;> (intros; first | (exfalso; omega) | rfl)
          · intro vs p hI hp
            have h7 : (vs 7) = .tuple #[.slice (some ⟨gk, 0, none⟩) tl.length c, .bool true] := hp 7 (by simp [Lrsy])
            have e14 : (Roll.putD Drsy vs [7] b0).eval (.tmp 14) = .tuple #[.slice (some ⟨gk, 0, none⟩) tl.length c, .bool true] := (Roll.eval_new 7 rfl (by decide) (by decide) (by omega)).trans h7
            clear hp hlv hN
            unfold Roll.Goes
            simp only [Lrsy, List.getD_cons_zero, List.getD_cons_succ]
            generalize Roll.putD Drsy vs [7] b0 = a1 at *
            refine Roll.goes_val (w' := p) (.bool true) rfl ?_ ⟨hI, Kept.refl _ _, rfl⟩
            (have ec : ∀ x, a1.eval (.const x) = x := fun _ => rfl); (have ef : ∀ x, a1.eval (.func x) = .func (.func x) #[] #[] := fun _ => rfl); generalize a1.eval = ρ at *
            clear h7
            go_simp <;> (intros; first | (exfalso; omega) | rfl)
          · intro vs p hI hp
            have h8 : (vs 8) = .slice (some ⟨gk, 0, none⟩) tl.length c := hp 8 (by simp [Lrsy])
            have e22 : (Roll.putD Drsy vs [8] b0).eval (.tmp 22) = .slice (some ⟨gk, 0, none⟩) tl.length c := (Roll.eval_new 8 rfl (by decide) (by decide) (by omega)).trans h8
            clear hp hlv hN
            unfold Roll.Goes
            simp only [Lrsy, List.getD_cons_zero, List.getD_cons_succ]
            generalize Roll.putD Drsy vs [8] b0 = a1 at *
            refine Roll.goes_val (w' := p) (.slice (some ⟨gk, 0, none⟩) tl.length c) rfl ?_ ⟨hI, Kept.refl _ _, rfl⟩
            (have ec : ∀ x, a1.eval (.const x) = x := fun _ => rfl); (have ef : ∀ x, a1.eval (.func x) = .func (.func x) #[] #[] := fun _ => rfl); generalize a1.eval = ρ at *
            clear h8
            go_simp <;> (intros; first | (exfalso; omega) | rfl)
          · intro vs p hI hp
            have h9 : (vs 9) = .bool true := hp 9 (by simp [Lrsy])
            have e23 : (Roll.putD Drsy vs [9] b0).eval (.tmp 23) = .bool true := (Roll.eval_new 9 rfl (by decide) (by decide) (by omega)).trans h9
            clear hp hlv hN
            unfold Roll.Goes
            simp only [Lrsy, List.getD_cons_zero, List.getD_cons_succ]
            generalize Roll.putD Drsy vs [9] b0 = a1 at *
            refine Roll.goes_val (w' := p) (.bool true) rfl ?_ ⟨hI, Kept.refl _ _, rfl⟩
            (have ec : ∀ x, a1.eval (.const x) = x := fun _ => rfl); (have ef : ∀ x, a1.eval (.func x) = .func (.func x) #[] #[] := fun _ => rfl); generalize a1.eval = ρ at *
            clear h9
            go_simp <;> (intros; first | (exfalso; omega) | rfl)
        · intro vs p hI hR
          have h0 : (vs 0) = .pointer (some ⟨g, 0, none⟩) := hR 0 (by omega)
          have h1 : (vs 1) = .pointer (some ⟨g, 0, none⟩) := hR 1 (by omega)
          have h2 : (vs 2) = .pointer (some ⟨g, 1, none⟩) := hR 2 (by omega)
          have h3 : (vs 3) = .map (some gm) := hR 3 (by omega)
          have h4 : (vs 4) = .pointer (some ⟨g5, 0, none⟩) := hR 4 (by omega)
          have h5 : (vs 5) = .int .i64 (k : Int) := hR 5 (by omega)
          have h6 : (vs 6) = .tuple #[.slice (some ⟨gk, 0, none⟩) tl.length c, .bool true] := hR 6 (by omega)
          have h7 : (vs 7) = .tuple #[.slice (some ⟨gk, 0, none⟩) tl.length c, .bool true] := hR 7 (by omega)
          have h8 : (vs 8) = .slice (some ⟨gk, 0, none⟩) tl.length c := hR 8 (by omega)
          have h9 : (vs 9) = .bool true := hR 9 (by omega)
          have h10 : (vs 10) = .slice (some ⟨gk, 0, none⟩) tl.length c := hR 10 (by omega)
          have h11 : (vs 11) = .bool true := hR 11 (by omega)
          clear hR
          simp only [List.range_succ, List.range_zero, List.nil_append, List.cons_append, Roll.putD, Act.put, List.getD_cons_zero, List.getD_cons_succ, List.setIfInBounds_toArray, List.set_cons_zero, List.set_cons_succ, List.drop_succ_cons, List.drop_zero, Drsy]
          simp only [h0, h1, h2, h3, h4, h5, h6, h7, h8, h9, h10, h11]
          clear h0 h1 h2 h3 h4 h5 h6 h7 h8 h9 h10 h11
          have HI3 := Lib.hid hI
          clear hI
          go_upto_region 5 with fail
          have Hg5 : Hid (g < p.heap.size) := Lib.hid (Nat.lt_of_lt_of_le HgQ.out HI3.out.size)
          have H55 : Hid (g5 < p.heap.size) := Lib.hid (Nat.lt_of_lt_of_le H5Q.out HI3.out.size)
          have Hgd5 : Hid (gd < p.heap.size) := Lib.hid (Nat.lt_of_lt_of_le HgdQ.out HI3.out.size)
          have Hgk5 : Hid (gk < p.heap.size) := Lib.hid (Nat.lt_of_lt_of_le HgkQ.out HI3.out.size)
          have P0 : Hid (p.cell? ⟨g, 0, none⟩ = some (.slice (some ⟨gd, 0, none⟩) L cap)) := Lib.hid ((HI3.out.cell HgQ.out (fun h => h)).trans Q0.out)
          have P5 : Hid (p.cell? ⟨g5, 0, none⟩ = some (.int .i64 (k : Int))) := Lib.hid ((HI3.out.cell H5Q.out (fun h => h)).trans Q5.out)
          have P5r : Hid (p.heap[g5]? = some (.cells #[.int .i64 (k : Int), .int .i64 tm.writes, .int .i64 tm.bytes] 73 (0, 0))) := Lib.hid (HI3.out.heap Q5r.out (fun h => h))
          have PD : Hid (p.rangeAt gd (k * 64) (vals old)) := Lib.hid (fun j v hv => (HI3.out.cell (p := ⟨gd, k * 64 + j, none⟩) HgdQ.out (fun h => h)).trans (QD.out j v hv))
          have PR : Hid (∀ (i : Nat) (hi : i < tl.length), p.rangeAt gk (i * 64) (vals tl[i])) := Lib.hid (fun i hi j v hv => (HI3.out.cell (p := ⟨gk, i * 64 + j, none⟩) HgkQ.out (fun h => h)).trans (QR.out i hi j v hv))
          have PT : Hid (p.there gd (k * 64) 64) := Lib.hid (fun j hj => by
            obtain ⟨h1, h2⟩ := QT.out j hj
            exact ⟨by rw [HI3.out.cell (p := ⟨gd, k * 64 + j, none⟩) HgdQ.out (fun h => h)]; exact h1, by rw [HI3.out.frozen (p := ⟨gd, k * 64 + j, none⟩) HgdQ.out (fun h => h)]; exact h2⟩)
          have HKq0 := HKq
          replace HKq : Hid (Kept (fun _ => False) wr p) := Lib.hid (HKq0.out.trans HI3.out (fun _ _ h => h))
          replace Q1 : Hid (p.cell? ⟨g, 1, none⟩ = some (.map (some gm))) := Lib.hid ((HI3.out.cell HgQ.out (fun h => h)).trans Q1.out)
          clear HgQ H5Q HKq0
          have HgQ := Hg5
          have H5Q := H55
          clear HI3
          rename World => q5
          refine Roll.region_f 17 61 Drs5 Lrs5 [(0, .pointer (some ⟨g, 0, none⟩)), (5, .pointer (some ⟨g5, 0, none⟩)), (6, .slice (some ⟨gk, 0, none⟩) tl.length c)] (fun p => Kept (fun _ => False) q5 p) (fun p p2 => Kept (fun _ => False) p p2) [fun vv p => vv = .pointer (some ⟨g, 0, none⟩), fun vv p => vv = .pointer (some ⟨g, 0, none⟩), fun vv p => vv = .pointer (some ⟨g, 0, none⟩), fun vv p => vv = .slice (some ⟨gd, 0, none⟩) L cap, fun vv p => vv = .pointer (some ⟨g5, 0, none⟩), fun vv p => vv = .int .i64 (k : Int), fun vv p => vv = .pointer (some ⟨g, 0, none⟩), fun vv p => vv = .pointer (some ⟨g, 0, none⟩), fun vv p => vv = .pointer (some ⟨g, 0, none⟩), fun vv p => vv = .slice (some ⟨gd, 0, none⟩) L cap, fun vv p => vv = .pointer (some ⟨g5, 0, none⟩), fun vv p => vv = .int .i64 (k : Int), fun vv p => vv = .pointer (some ⟨gd, k * 64, none⟩), fun vv p => vv = .agg (vals old).toArray, fun vv p => vv = .slice (some ⟨gk, 0, none⟩) tl.length c, fun vv p => vv = .agg #[.int .i64 (k : Int), .int .i64 tm.writes, .int .i64 tm.bytes], fun vv p => vv = .agg (vals SV).toArray] (by kernel_rfl) (by kernel_rfl) rfl ⟨rfl, rfl, rfl, trivial⟩ ((Kept.refl _ _).drew) ?_ ?_ ?_
          · exact ⟨fun _ _ _ _ h => h, fun _ _ _ _ h => h, fun _ _ _ _ h => h, fun _ _ _ _ h => h, fun _ _ _ _ h => h, fun _ _ _ _ h => h, fun _ _ _ _ h => h, fun _ _ _ _ h => h, fun _ _ _ _ h => h, fun _ _ _ _ h => h, fun _ _ _ _ h => h, fun _ _ _ _ h => h, fun _ _ _ _ h => h, fun _ _ _ _ h => h, fun _ _ _ _ h => h, fun _ _ _ _ h => h, fun _ _ _ _ h => h, trivial⟩
          · intro b0 hN hlv
            refine ⟨?_, ?_, ?_, ?_, ?_, ?_, ?_, ?_, ?_, ?_, ?_, ?_, ?_, ?_, ?_, ?_, ?_, trivial⟩
            · intro vs p hI hp
              have e0 : (Roll.putD Drs5 vs [] b0).eval (.tmp 0) = .pointer (some ⟨g, 0, none⟩) := (Roll.eval_old rfl).trans (hlv.at 0 (0, .pointer (some ⟨g, 0, none⟩)) rfl)
              clear hp hlv hN
              unfold Roll.Goes
              simp only [Lrs5, List.getD_cons_zero, List.getD_cons_succ]
              generalize Roll.putD Drs5 vs [] b0 = a1 at *
              refine Roll.goes_val (w' := p) (.pointer (some ⟨g, 0, none⟩)) rfl ?_ ⟨hI, Kept.refl _ _, rfl⟩
              (have ec : ∀ x, a1.eval (.const x) = x := fun _ => rfl); (have ef : ∀ x, a1.eval (.func x) = .func (.func x) #[] #[] := fun _ => rfl); generalize a1.eval = ρ at *
              skip
              go_simp <;> (intros; first | (exfalso; omega) | rfl)
            · intro vs p hI hp
              have h0 : (vs 0) = .pointer (some ⟨g, 0, none⟩) := hp 0 (by simp [Lrs5])
              have e26 : (Roll.putD Drs5 vs [0] b0).eval (.tmp 26) = .pointer (some ⟨g, 0, none⟩) := (Roll.eval_new 0 rfl (by decide) (by decide) (by omega)).trans h0
              clear hp hlv hN
              unfold Roll.Goes
              simp only [Lrs5, List.getD_cons_zero, List.getD_cons_succ]
              generalize Roll.putD Drs5 vs [0] b0 = a1 at *
              refine Roll.goes_val (w' := p) (.pointer (some ⟨g, 0, none⟩)) rfl ?_ ⟨hI, Kept.refl _ _, rfl⟩
              (have ec : ∀ x, a1.eval (.const x) = x := fun _ => rfl); (have ef : ∀ x, a1.eval (.func x) = .func (.func x) #[] #[] := fun _ => rfl); generalize a1.eval = ρ at *
              clear h0
              go_simp <;> (intros; first | (exfalso; omega) | rfl)
            · intro vs p hI hp
              have h1 : (vs 1) = .pointer (some ⟨g, 0, none⟩) := hp 1 (by simp [Lrs5])
              have e27 : (Roll.putD Drs5 vs [1] b0).eval (.tmp 27) = .pointer (some ⟨g, 0, none⟩) := (Roll.eval_new 1 rfl (by decide) (by decide) (by omega)).trans h1
              clear hp hlv hN
              unfold Roll.Goes
              simp only [Lrs5, List.getD_cons_zero, List.getD_cons_succ]
              generalize Roll.putD Drs5 vs [1] b0 = a1 at *
              refine Roll.goes_val (w' := p) (.pointer (some ⟨g, 0, none⟩)) rfl ?_ ⟨hI, Kept.refl _ _, rfl⟩
              (have ec : ∀ x, a1.eval (.const x) = x := fun _ => rfl); (have ef : ∀ x, a1.eval (.func x) = .func (.func x) #[] #[] := fun _ => rfl); generalize a1.eval = ρ at *
              clear h1
              go_simp <;> (intros; first | (exfalso; omega) | rfl)
            · intro vs p hI hp
              have h2 : (vs 2) = .pointer (some ⟨g, 0, none⟩) := hp 2 (by simp [Lrs5])
              have e28 : (Roll.putD Drs5 vs [2] b0).eval (.tmp 28) = .pointer (some ⟨g, 0, none⟩) := (Roll.eval_new 2 rfl (by decide) (by decide) (by omega)).trans h2
              clear hp hlv hN
              unfold Roll.Goes
              simp only [Lrs5, List.getD_cons_zero, List.getD_cons_succ]
              generalize Roll.putD Drs5 vs [2] b0 = a1 at *
              have c0p : p.cell? ⟨g, 0, none⟩ = some (.slice (some ⟨gd, 0, none⟩) L cap) := (hI.cell Hg5.out (fun h => h)).trans P0.out
              refine Roll.goes_val (w' := p) (.slice (some ⟨gd, 0, none⟩) L cap) rfl ?_ ⟨hI, Kept.refl _ _, rfl⟩
              (have ec : ∀ x, a1.eval (.const x) = x := fun _ => rfl); (have ef : ∀ x, a1.eval (.func x) = .func (.func x) #[] #[] := fun _ => rfl); generalize a1.eval = ρ at *
              clear h2
              go_simp <;> (intros; first | (exfalso; omega) | rfl)
            · intro vs p hI hp
              have e5 : (Roll.putD Drs5 vs [] b0).eval (.tmp 5) = .pointer (some ⟨g5, 0, none⟩) := (Roll.eval_old rfl).trans (hlv.at 1 (5, .pointer (some ⟨g5, 0, none⟩)) rfl)
              clear hp hlv hN
              unfold Roll.Goes
              simp only [Lrs5, List.getD_cons_zero, List.getD_cons_succ]
              generalize Roll.putD Drs5 vs [] b0 = a1 at *
              refine Roll.goes_val (w' := p) (.pointer (some ⟨g5, 0, none⟩)) rfl ?_ ⟨hI, Kept.refl _ _, rfl⟩
              (have ec : ∀ x, a1.eval (.const x) = x := fun _ => rfl); (have ef : ∀ x, a1.eval (.func x) = .func (.func x) #[] #[] := fun _ => rfl); generalize a1.eval = ρ at *
              skip
              go_simp <;> (intros; first | (exfalso; omega) | rfl)
            · intro vs p hI hp
              have h4 : (vs 4) = .pointer (some ⟨g5, 0, none⟩) := hp 4 (by simp [Lrs5])
              have e30 : (Roll.putD Drs5 vs [4] b0).eval (.tmp 30) = .pointer (some ⟨g5, 0, none⟩) := (Roll.eval_new 4 rfl (by decide) (by decide) (by omega)).trans h4
              clear hp hlv hN
              unfold Roll.Goes
              simp only [Lrs5, List.getD_cons_zero, List.getD_cons_succ]
              generalize Roll.putD Drs5 vs [4] b0 = a1 at *
              have c5p : p.cell? ⟨g5, 0, none⟩ = some (.int .i64 (k : Int)) := (hI.cell H55.out (fun h => h)).trans P5.out
              refine Roll.goes_val (w' := p) (.int .i64 (k : Int)) rfl ?_ ⟨hI, Kept.refl _ _, rfl⟩
              (have ec : ∀ x, a1.eval (.const x) = x := fun _ => rfl); (have ef : ∀ x, a1.eval (.func x) = .func (.func x) #[] #[] := fun _ => rfl); generalize a1.eval = ρ at *
              clear h4
              go_simp <;> (intros; first | (exfalso; omega) | rfl)
            · intro vs p hI hp
              have e0 : (Roll.putD Drs5 vs [] b0).eval (.tmp 0) = .pointer (some ⟨g, 0, none⟩) := (Roll.eval_old rfl).trans (hlv.at 0 (0, .pointer (some ⟨g, 0, none⟩)) rfl)
              clear hp hlv hN
              unfold Roll.Goes
              simp only [Lrs5, List.getD_cons_zero, List.getD_cons_succ]
              generalize Roll.putD Drs5 vs [] b0 = a1 at *
              refine Roll.goes_val (w' := p) (.pointer (some ⟨g, 0, none⟩)) rfl ?_ ⟨hI, Kept.refl _ _, rfl⟩
              (have ec : ∀ x, a1.eval (.const x) = x := fun _ => rfl); (have ef : ∀ x, a1.eval (.func x) = .func (.func x) #[] #[] := fun _ => rfl); generalize a1.eval = ρ at *
              skip
              go_simp <;> (intros; first | (exfalso; omega) | rfl)
            · intro vs p hI hp
              have h6 : (vs 6) = .pointer (some ⟨g, 0, none⟩) := hp 6 (by simp [Lrs5])
              have e32 : (Roll.putD Drs5 vs [6] b0).eval (.tmp 32) = .pointer (some ⟨g, 0, none⟩) := (Roll.eval_new 6 rfl (by decide) (by decide) (by omega)).trans h6
              clear hp hlv hN
              unfold Roll.Goes
              simp only [Lrs5, List.getD_cons_zero, List.getD_cons_succ]
              generalize Roll.putD Drs5 vs [6] b0 = a1 at *
              refine Roll.goes_val (w' := p) (.pointer (some ⟨g, 0, none⟩)) rfl ?_ ⟨hI, Kept.refl _ _, rfl⟩
              (have ec : ∀ x, a1.eval (.const x) = x := fun _ => rfl); (have ef : ∀ x, a1.eval (.func x) = .func (.func x) #[] #[] := fun _ => rfl); generalize a1.eval = ρ at *
              clear h6
              go_simp <;> (intros; first | (exfalso; omega) | rfl)
            · intro vs p hI hp
              have h7 : (vs 7) = .pointer (some ⟨g, 0, none⟩) := hp 7 (by simp [Lrs5])
              have e33 : (Roll.putD Drs5 vs [7] b0).eval (.tmp 33) = .pointer (some ⟨g, 0, none⟩) := (Roll.eval_new 7 rfl (by decide) (by decide) (by omega)).trans h7
              clear hp hlv hN
              unfold Roll.Goes
              simp only [Lrs5, List.getD_cons_zero, List.getD_cons_succ]
              generalize Roll.putD Drs5 vs [7] b0 = a1 at *
              refine Roll.goes_val (w' := p) (.pointer (some ⟨g, 0, none⟩)) rfl ?_ ⟨hI, Kept.refl _ _, rfl⟩
              (have ec : ∀ x, a1.eval (.const x) = x := fun _ => rfl); (have ef : ∀ x, a1.eval (.func x) = .func (.func x) #[] #[] := fun _ => rfl); generalize a1.eval = ρ at *
              clear h7
              go_simp <;> (intros; first | (exfalso; omega) | rfl)
            · intro vs p hI hp
              have h8 : (vs 8) = .pointer (some ⟨g, 0, none⟩) := hp 8 (by simp [Lrs5])
              have e34 : (Roll.putD Drs5 vs [8] b0).eval (.tmp 34) = .pointer (some ⟨g, 0, none⟩) := (Roll.eval_new 8 rfl (by decide) (by decide) (by omega)).trans h8
              clear hp hlv hN
              unfold Roll.Goes
              simp only [Lrs5, List.getD_cons_zero, List.getD_cons_succ]
              generalize Roll.putD Drs5 vs [8] b0 = a1 at *
              have c0p : p.cell? ⟨g, 0, none⟩ = some (.slice (some ⟨gd, 0, none⟩) L cap) := (hI.cell Hg5.out (fun h => h)).trans P0.out
              refine Roll.goes_val (w' := p) (.slice (some ⟨gd, 0, none⟩) L cap) rfl ?_ ⟨hI, Kept.refl _ _, rfl⟩
              (have ec : ∀ x, a1.eval (.const x) = x := fun _ => rfl); (have ef : ∀ x, a1.eval (.func x) = .func (.func x) #[] #[] := fun _ => rfl); generalize a1.eval = ρ at *
              clear h8
              go_simp <;> (intros; first | (exfalso; omega) | rfl)
            · intro vs p hI hp
              have e5 : (Roll.putD Drs5 vs [] b0).eval (.tmp 5) = .pointer (some ⟨g5, 0, none⟩) := (Roll.eval_old rfl).trans (hlv.at 1 (5, .pointer (some ⟨g5, 0, none⟩)) rfl)
              clear hp hlv hN
              unfold Roll.Goes
              simp only [Lrs5, List.getD_cons_zero, List.getD_cons_succ]
              generalize Roll.putD Drs5 vs [] b0 = a1 at *
              refine Roll.goes_val (w' := p) (.pointer (some ⟨g5, 0, none⟩)) rfl ?_ ⟨hI, Kept.refl _ _, rfl⟩
              (have ec : ∀ x, a1.eval (.const x) = x := fun _ => rfl); (have ef : ∀ x, a1.eval (.func x) = .func (.func x) #[] #[] := fun _ => rfl); generalize a1.eval = ρ at *
              skip
              go_simp <;> (intros; first | (exfalso; omega) | rfl)
            · intro vs p hI hp
              have h10 : (vs 10) = .pointer (some ⟨g5, 0, none⟩) := hp 10 (by simp [Lrs5])
              have e36 : (Roll.putD Drs5 vs [10] b0).eval (.tmp 36) = .pointer (some ⟨g5, 0, none⟩) := (Roll.eval_new 10 rfl (by decide) (by decide) (by omega)).trans h10
              clear hp hlv hN
              unfold Roll.Goes
              simp only [Lrs5, List.getD_cons_zero, List.getD_cons_succ]
              generalize Roll.putD Drs5 vs [10] b0 = a1 at *
              have c5p : p.cell? ⟨g5, 0, none⟩ = some (.int .i64 (k : Int)) := (hI.cell H55.out (fun h => h)).trans P5.out
              refine Roll.goes_val (w' := p) (.int .i64 (k : Int)) rfl ?_ ⟨hI, Kept.refl _ _, rfl⟩
              (have ec : ∀ x, a1.eval (.const x) = x := fun _ => rfl); (have ef : ∀ x, a1.eval (.func x) = .func (.func x) #[] #[] := fun _ => rfl); generalize a1.eval = ρ at *
              clear h10
              go_simp <;> (intros; first | (exfalso; omega) | rfl)
            · intro vs p hI hp
              have h9 : (vs 9) = .slice (some ⟨gd, 0, none⟩) L cap := hp 9 (by simp [Lrs5])
              have h11 : (vs 11) = .int .i64 (k : Int) := hp 11 (by simp [Lrs5])
              have e35 : (Roll.putD Drs5 vs [9, 11] b0).eval (.tmp 35) = .slice (some ⟨gd, 0, none⟩) L cap := (Roll.eval_new 9 rfl (by decide) (by decide) (by omega)).trans h9
              have e37 : (Roll.putD Drs5 vs [9, 11] b0).eval (.tmp 37) = .int .i64 (k : Int) := (Roll.eval_new 11 rfl (by decide) (by decide) (by omega)).trans h11
              clear hp hlv hN
              unfold Roll.Goes
              simp only [Lrs5, List.getD_cons_zero, List.getD_cons_succ]
              generalize Roll.putD Drs5 vs [9, 11] b0 = a1 at *
              have hkL := HkL.out
              have hLc := HLc.out
              refine Roll.goes_val (w' := p) (.pointer (some ⟨gd, k * 64, none⟩)) rfl ?_ ⟨hI, Kept.refl _ _, rfl⟩
              (have ec : ∀ x, a1.eval (.const x) = x := fun _ => rfl); (have ef : ∀ x, a1.eval (.func x) = .func (.func x) #[] #[] := fun _ => rfl); generalize a1.eval = ρ at *
              clear h9 h11
              go_simp <;> (intros; first | (exfalso; omega) | rfl)
            · intro vs p hI hp
              have h12 : (vs 12) = .pointer (some ⟨gd, k * 64, none⟩) := hp 12 (by simp [Lrs5])
              have e38 : (Roll.putD Drs5 vs [12] b0).eval (.tmp 38) = .pointer (some ⟨gd, k * 64, none⟩) := (Roll.eval_new 12 rfl (by decide) (by decide) (by omega)).trans h12
              clear hp hlv hN
              unfold Roll.Goes
              simp only [Lrs5, List.getD_cons_zero, List.getD_cons_succ]
              generalize Roll.putD Drs5 vs [12] b0 = a1 at *
              exact Roll.goes_load_mid rfl 76 (.tmp 38) rfl gd (k * 64) e38 (vals old) _ (fun j v hv => (hI.cell (p := ⟨gd, k * 64 + j, none⟩) Hgd5.out (fun h => h)).trans (PD.out j v hv)) Tryd.underlying76 rfl (size64v Hold.out) ⟨hI, Kept.refl _ _, rfl⟩
            · intro vs p hI hp
              have e6 : (Roll.putD Drs5 vs [] b0).eval (.tmp 6) = .slice (some ⟨gk, 0, none⟩) tl.length c := (Roll.eval_old rfl).trans (hlv.at 2 (6, .slice (some ⟨gk, 0, none⟩) tl.length c) rfl)
              clear hp hlv hN
              unfold Roll.Goes
              simp only [Lrs5, List.getD_cons_zero, List.getD_cons_succ]
              generalize Roll.putD Drs5 vs [] b0 = a1 at *
              refine Roll.goes_val (w' := p) (.slice (some ⟨gk, 0, none⟩) tl.length c) rfl ?_ ⟨hI, Kept.refl _ _, rfl⟩
              (have ec : ∀ x, a1.eval (.const x) = x := fun _ => rfl); (have ef : ∀ x, a1.eval (.func x) = .func (.func x) #[] #[] := fun _ => rfl); generalize a1.eval = ρ at *
              skip
              go_simp <;> (intros; first | (exfalso; omega) | rfl)
            · intro vs p hI hp
              have e5 : (Roll.putD Drs5 vs [] b0).eval (.tmp 5) = .pointer (some ⟨g5, 0, none⟩) := (Roll.eval_old rfl).trans (hlv.at 1 (5, .pointer (some ⟨g5, 0, none⟩)) rfl)
              clear hp hlv hN
              unfold Roll.Goes
              simp only [Lrs5, List.getD_cons_zero, List.getD_cons_succ]
              generalize Roll.putD Drs5 vs [] b0 = a1 at *
              exact Roll.goes_load_row rfl 73 (.tmp 5) rfl g5 e5 73 #[.int .i64 (k : Int), .int .i64 tm.writes, .int .i64 tm.bytes] (0, 0) _ (hI.heap P5r.out (fun h => h)) Tryd.underlying73 rfl (by kernel_rfl) ⟨hI, Kept.refl _ _, rfl⟩
            · intro vs p hI hp
              have h13 : (vs 13) = .agg (vals old).toArray := hp 13 (by simp [Lrs5])
              have h14 : (vs 14) = .slice (some ⟨gk, 0, none⟩) tl.length c := hp 14 (by simp [Lrs5])
              have h15 : (vs 15) = .agg #[.int .i64 (k : Int), .int .i64 tm.writes, .int .i64 tm.bytes] := hp 15 (by simp [Lrs5])
              have e39 : (Roll.putD Drs5 vs [13, 14, 15] b0).eval (.tmp 39) = .agg (vals old).toArray := (Roll.eval_new 13 rfl (by decide) (by decide) (by omega)).trans h13
              have e40 : (Roll.putD Drs5 vs [13, 14, 15] b0).eval (.tmp 40) = .slice (some ⟨gk, 0, none⟩) tl.length c := (Roll.eval_new 14 rfl (by decide) (by decide) (by omega)).trans h14
              have e41 : (Roll.putD Drs5 vs [13, 14, 15] b0).eval (.tmp 41) = .agg #[.int .i64 (k : Int), .int .i64 tm.writes, .int .i64 tm.bytes] := (Roll.eval_new 15 rfl (by decide) (by decide) (by omega)).trans h15
              clear hp hlv hN
              unfold Roll.Goes
              simp only [Lrs5, List.getD_cons_zero, List.getD_cons_succ]
              generalize Roll.putD Drs5 vs [13, 14, 15] b0 = a1 at *
              refine Roll.goes_call 31 #[.agg (vals old).toArray, .slice (some ⟨gk, 0, none⟩) tl.length c, .agg #[.int .i64 (k : Int), .int .i64 tm.writes, .int .i64 tm.bytes]] p rfl (by have ec : ∀ x, a1.eval (.const x) = x := fun _ => rfl; have ef : ∀ x, a1.eval (.func x) = .func (.func x) #[] #[] := fun _ => rfl; generalize a1.eval = ρ at *; go_simp) ?_
              have hs := survivor_any p old Hold.out tl Htl.out Ht64.out gk c ⟨(k : Int), tm.writes, tm.bytes⟩ Htc.out Hc2.out (Nat.lt_of_lt_of_le Hgk5.out hI.size) (fun i hi j v hv => (hI.cell (p := ⟨gk, i * 64 + j, none⟩) Hgk5.out (fun h => h)).trans (PR.out i hi j v hv))
              rw [show surv (old :: tl) (⟨(k : Int), tm.writes, tm.bytes⟩ : TM).writes (⟨(k : Int), tm.writes, tm.bytes⟩ : TM).bytes = SV from HSV.out.symm] at hs
              refine hs.mono ?_
              rintro y p2 ⟨rfl, hb⟩
              have hk2 := Kept.of_below (fun _ => False) hb
              exact ⟨_, rfl, hI.trans hk2 (fun _ _ h => h), hk2, rfl⟩
          · intro vs p hI hR
            have h0 : (vs 0) = .pointer (some ⟨g, 0, none⟩) := hR 0 (by omega)
            have h1 : (vs 1) = .pointer (some ⟨g, 0, none⟩) := hR 1 (by omega)
            have h2 : (vs 2) = .pointer (some ⟨g, 0, none⟩) := hR 2 (by omega)
            have h3 : (vs 3) = .slice (some ⟨gd, 0, none⟩) L cap := hR 3 (by omega)
            have h4 : (vs 4) = .pointer (some ⟨g5, 0, none⟩) := hR 4 (by omega)
            have h5 : (vs 5) = .int .i64 (k : Int) := hR 5 (by omega)
            have h6 : (vs 6) = .pointer (some ⟨g, 0, none⟩) := hR 6 (by omega)
            have h7 : (vs 7) = .pointer (some ⟨g, 0, none⟩) := hR 7 (by omega)
            have h8 : (vs 8) = .pointer (some ⟨g, 0, none⟩) := hR 8 (by omega)
            have h9 : (vs 9) = .slice (some ⟨gd, 0, none⟩) L cap := hR 9 (by omega)
            have h10 : (vs 10) = .pointer (some ⟨g5, 0, none⟩) := hR 10 (by omega)
            have h11 : (vs 11) = .int .i64 (k : Int) := hR 11 (by omega)
            have h12 : (vs 12) = .pointer (some ⟨gd, k * 64, none⟩) := hR 12 (by omega)
            have h13 : (vs 13) = .agg (vals old).toArray := hR 13 (by omega)
            have h14 : (vs 14) = .slice (some ⟨gk, 0, none⟩) tl.length c := hR 14 (by omega)
            have h15 : (vs 15) = .agg #[.int .i64 (k : Int), .int .i64 tm.writes, .int .i64 tm.bytes] := hR 15 (by omega)
            have h16 : (vs 16) = .agg (vals SV).toArray := hR 16 (by omega)
            clear hR
            simp only [List.range_succ, List.range_zero, List.nil_append, List.cons_append, Roll.putD, Act.put, List.getD_cons_zero, List.getD_cons_succ, List.setIfInBounds_toArray, List.set_cons_zero, List.set_cons_succ, List.drop_succ_cons, List.drop_zero, Drs5]
            simp only [h0, h1, h2, h3, h4, h5, h6, h7, h8, h9, h10, h11, h12, h13, h14, h15, h16]
            clear h0 h1 h2 h3 h4 h5 h6 h7 h8 h9 h10 h11 h12 h13 h14 h15 h16
            have P5K := Lib.hid hI
            have PTH : Hid (p.there gd (k * 64) 64) := Lib.hid (fun j hj => by
              obtain ⟨h1, h2⟩ := PT.out j hj
              exact ⟨by rw [hI.cell (p := ⟨gd, k * 64 + j, none⟩) Hgd5.out (fun h => h)]; exact h1, by rw [hI.frozen (p := ⟨gd, k * 64 + j, none⟩) Hgd5.out (fun h => h)]; exact h2⟩)
            clear hI
            have hkL := HkL.out
            have hLc := HLc.out
            go_upto_region 6 with (refine wpList_store_mid rfl 76 (.tmp 43) (.tmp 42) rfl gd (k * 64) _ rfl rfl (by rw [List.size_toArray, vals_len, HSV64.out]; exact PTH.out) (size64a HSV64.out) (one64 _) ?_)
            obtain ⟨w6, hw6⟩ : ∃ w6, w6 = p.setCells gd (k * 64) (vals SV) := ⟨_, rfl⟩
            rw [← hw6]
            have D5 := HDi.out.kept (HKq.out.trans P5K.out (fun _ _ h => h)) (fun _ _ h => h)
            have hcut : ∀ p3, Kept (fun _ => False) w6 p3 → _ := fun p3 h3 => D5.cut HkS.out HSV64.out (p := p3) (by rw [← hw6]; exact h3)
            have HCut := Lib.hid hcut
            have K6 : Kept (fun j => j = gd) p w6 := by rw [hw6]; exact Kept.setCells _ _ (Kept.refl _ _) (fun _ => rfl)
            have W1 : Hid (w6.cell? ⟨g, 1, none⟩ = some (.map (some gm))) := Lib.hid ((K6.cell (Nat.lt_of_lt_of_le HgQ.out P5K.out.size) Hne.out.1).trans ((P5K.out.cell HgQ.out (fun h => h)).trans Q1.out))
            have W5 : Hid (w6.cell? ⟨g5, 0, none⟩ = some (.int .i64 (k : Int))) := Lib.hid ((K6.cell (Nat.lt_of_lt_of_le H5Q.out P5K.out.size) Hne5.out).trans ((P5K.out.cell H5Q.out (fun h => h)).trans P5.out))
            have HgW : Hid (g < w6.heap.size) := Lib.hid (Nat.lt_of_lt_of_le (Nat.lt_of_lt_of_le HgQ.out P5K.out.size) K6.size)
            have H5W : Hid (g5 < w6.heap.size) := Lib.hid (Nat.lt_of_lt_of_le (Nat.lt_of_lt_of_le H5Q.out P5K.out.size) K6.size)
            have HK6 := Lib.hid K6
            clear hcut K6 hw6 D5
            obtain ⟨p5, hp5⟩ : ∃ p5, p5 = p := ⟨_, rfl⟩
            rw [← hp5] at HCut P5K HK6
            clear hp5
            refine Roll.region_w 7 61 Drs6 Lrs6 [(0, .pointer (some ⟨g, 0, none⟩)), (5, .pointer (some ⟨g5, 0, none⟩))] 6 [true, true, true, true, true, true, false] (fun p => Kept (fun _ => False) w6 p) (fun vv p => (Dk p g gd gm (rowSet rowi k none) N ⟨(DM.torn d.S (ts.take i)).set k [SV], d.on, d.fuse⟩ ∧ Kept (fun j => j = gd ∨ j = gm) p5 p) ∧ Kept (fun j => j = gm) w6 p) (fun p => Kept (fun j => j = gm) w6 p) (fun p p2 => Kept (fun j => j = gm) p p2) [fun vv p => (vv 0) = .pointer (some ⟨g, 0, none⟩), fun vv p => (vv 1) = .pointer (some ⟨g, 0, none⟩), fun vv p => (vv 2) = .pointer (some ⟨g, 1, none⟩), fun vv p => (vv 3) = .map (some gm), fun vv p => (vv 4) = .pointer (some ⟨g5, 0, none⟩), fun vv p => (vv 5) = .int .i64 (k : Int), fun vv p => True] (by kernel_rfl) (by kernel_rfl) rfl ⟨rfl, rfl, trivial⟩ ((Kept.refl _ _).drew) (by decide) (by kernel_rfl) (fun _ h => h.mono (fun _ _ h => h.elim)) (fun _ _ h => h.2) (fun _ => Kept.refl _ _) ?_ ?_ ?_
            · exact ⟨fun _ _ _ _ h => h, fun _ _ _ _ h => h, fun _ _ _ _ h => h, fun _ _ _ _ h => h, fun _ _ _ _ h => h, fun _ _ _ _ h => h, fun _ _ _ _ h => h, trivial⟩
            · intro b0 hN hlv
              refine ⟨?_, ?_, ?_, ?_, ?_, ?_, ?_, trivial⟩
              · intro vs p hI0 hp
                have hI := Roll.inw_pure (by decide) rfl hI0
                clear hI0
                have e0 : (Roll.putD Drs6 vs [] b0).eval (.tmp 0) = .pointer (some ⟨g, 0, none⟩) := (Roll.eval_old rfl).trans (hlv.at 0 (0, .pointer (some ⟨g, 0, none⟩)) rfl)
                clear hp hlv hN
                unfold Roll.Goes
                simp only [Lrs6, List.getD_cons_zero, List.getD_cons_succ]
                generalize Roll.putD Drs6 vs [] b0 = a1 at *
                refine Roll.goes_val (w' := p) (.pointer (some ⟨g, 0, none⟩)) rfl ?_ ⟨(Roll.outw_pure (by decide) rfl), rfl⟩
                (have ec : ∀ x, a1.eval (.const x) = x := fun _ => rfl); (have ef : ∀ x, a1.eval (.func x) = .func (.func x) #[] #[] := fun _ => rfl); generalize a1.eval = ρ at *
                skip
                go_simp <;> (intros; first | (exfalso; omega) | rfl)
              · intro vs p hI0 hp
                have hI := Roll.inw_pure (by decide) rfl hI0
                clear hI0
                have h0 : (vs 0) = .pointer (some ⟨g, 0, none⟩) := hp 0 (by simp [Lrs6])
                have e44 : (Roll.putD Drs6 vs [0] b0).eval (.tmp 44) = .pointer (some ⟨g, 0, none⟩) := (Roll.eval_new 0 rfl (by decide) (by decide) (by omega)).trans h0
                clear hp hlv hN
                unfold Roll.Goes
                simp only [Lrs6, List.getD_cons_zero, List.getD_cons_succ]
                generalize Roll.putD Drs6 vs [0] b0 = a1 at *
                refine Roll.goes_val (w' := p) (.pointer (some ⟨g, 0, none⟩)) rfl ?_ ⟨(Roll.outw_pure (by decide) rfl), rfl⟩
                (have ec : ∀ x, a1.eval (.const x) = x := fun _ => rfl); (have ef : ∀ x, a1.eval (.func x) = .func (.func x) #[] #[] := fun _ => rfl); generalize a1.eval = ρ at *
                clear h0
                go_simp <;> (intros; first | (exfalso; omega) | rfl)
              · intro vs p hI0 hp
                have hI := Roll.inw_pure (by decide) rfl hI0
                clear hI0
                have h1 : (vs 1) = .pointer (some ⟨g, 0, none⟩) := hp 1 (by simp [Lrs6])
                have e45 : (Roll.putD Drs6 vs [1] b0).eval (.tmp 45) = .pointer (some ⟨g, 0, none⟩) := (Roll.eval_new 1 rfl (by decide) (by decide) (by omega)).trans h1
                clear hp hlv hN
                unfold Roll.Goes
                simp only [Lrs6, List.getD_cons_zero, List.getD_cons_succ]
                generalize Roll.putD Drs6 vs [1] b0 = a1 at *
                refine Roll.goes_val (w' := p) (.pointer (some ⟨g, 1, none⟩)) rfl ?_ ⟨(Roll.outw_pure (by decide) rfl), rfl⟩
                (have ec : ∀ x, a1.eval (.const x) = x := fun _ => rfl); (have ef : ∀ x, a1.eval (.func x) = .func (.func x) #[] #[] := fun _ => rfl); generalize a1.eval = ρ at *
                clear h1
                go_simp <;> (intros; first | (exfalso; omega) | rfl)
              · intro vs p hI0 hp
                have hI := Roll.inw_pure (by decide) rfl hI0
                clear hI0
                have h2 : (vs 2) = .pointer (some ⟨g, 1, none⟩) := hp 2 (by simp [Lrs6])
                have e46 : (Roll.putD Drs6 vs [2] b0).eval (.tmp 46) = .pointer (some ⟨g, 1, none⟩) := (Roll.eval_new 2 rfl (by decide) (by decide) (by omega)).trans h2
                clear hp hlv hN
                unfold Roll.Goes
                simp only [Lrs6, List.getD_cons_zero, List.getD_cons_succ]
                generalize Roll.putD Drs6 vs [2] b0 = a1 at *
                have c1p : p.cell? ⟨g, 1, none⟩ = some (.map (some gm)) := (hI.cell HgW.out Hne.out.2).trans W1.out
                refine Roll.goes_val (w' := p) (.map (some gm)) rfl ?_ ⟨(Roll.outw_pure (by decide) rfl), rfl⟩
                (have ec : ∀ x, a1.eval (.const x) = x := fun _ => rfl); (have ef : ∀ x, a1.eval (.func x) = .func (.func x) #[] #[] := fun _ => rfl); generalize a1.eval = ρ at *
                clear h2
                go_simp <;> (intros; first | (exfalso; omega) | rfl)
              · intro vs p hI0 hp
                have hI := Roll.inw_pure (by decide) rfl hI0
                clear hI0
                have e5 : (Roll.putD Drs6 vs [] b0).eval (.tmp 5) = .pointer (some ⟨g5, 0, none⟩) := (Roll.eval_old rfl).trans (hlv.at 1 (5, .pointer (some ⟨g5, 0, none⟩)) rfl)
                clear hp hlv hN
                unfold Roll.Goes
                simp only [Lrs6, List.getD_cons_zero, List.getD_cons_succ]
                generalize Roll.putD Drs6 vs [] b0 = a1 at *
                refine Roll.goes_val (w' := p) (.pointer (some ⟨g5, 0, none⟩)) rfl ?_ ⟨(Roll.outw_pure (by decide) rfl), rfl⟩
                (have ec : ∀ x, a1.eval (.const x) = x := fun _ => rfl); (have ef : ∀ x, a1.eval (.func x) = .func (.func x) #[] #[] := fun _ => rfl); generalize a1.eval = ρ at *
                skip
                go_simp <;> (intros; first | (exfalso; omega) | rfl)
              · intro vs p hI0 hp
                have hI := Roll.inw_pure (by decide) rfl hI0
                clear hI0
                have h4 : (vs 4) = .pointer (some ⟨g5, 0, none⟩) := hp 4 (by simp [Lrs6])
                have e48 : (Roll.putD Drs6 vs [4] b0).eval (.tmp 48) = .pointer (some ⟨g5, 0, none⟩) := (Roll.eval_new 4 rfl (by decide) (by decide) (by omega)).trans h4
                clear hp hlv hN
                unfold Roll.Goes
                simp only [Lrs6, List.getD_cons_zero, List.getD_cons_succ]
                generalize Roll.putD Drs6 vs [4] b0 = a1 at *
                have c5p : p.cell? ⟨g5, 0, none⟩ = some (.int .i64 (k : Int)) := (hI.cell H5W.out Hne5m.out).trans W5.out
                refine Roll.goes_val (w' := p) (.int .i64 (k : Int)) rfl ?_ ⟨(Roll.outw_pure (by decide) rfl), rfl⟩
                (have ec : ∀ x, a1.eval (.const x) = x := fun _ => rfl); (have ef : ∀ x, a1.eval (.func x) = .func (.func x) #[] #[] := fun _ => rfl); generalize a1.eval = ρ at *
                clear h4
                go_simp <;> (intros; first | (exfalso; omega) | rfl)
              · intro vs p hI0 hp
                have hI := Roll.inw_k0 rfl hI0
                clear hI0
                have h3 : (vs 3) = .map (some gm) := hp 3 (by simp [Lrs6])
                have h5 : (vs 5) = .int .i64 (k : Int) := hp 5 (by simp [Lrs6])
                have e47 : (Roll.putD Drs6 vs [3, 5] b0).eval (.tmp 47) = .map (some gm) := (Roll.eval_new 3 rfl (by decide) (by decide) (by omega)).trans h3
                have e49 : (Roll.putD Drs6 vs [3, 5] b0).eval (.tmp 49) = .int .i64 (k : Int) := (Roll.eval_new 5 rfl (by decide) (by decide) (by omega)).trans h5
                clear hp hlv hN
                unfold Roll.Goes
                simp only [Lrs6, List.getD_cons_zero, List.getD_cons_succ]
                generalize Roll.putD Drs6 vs [3, 5] b0 = a1 at *
                obtain ⟨p2, hrun, hd2, hk2, hk3⟩ := HCut.out p hI
                refine Roll.goes_val (w' := p2) (.tuple #[]) rfl ?_ ⟨Roll.outw_k0 rfl ⟨⟨hd2, hk2⟩, (hI.mono (fun _ _ h => h.elim)).trans hk3 (fun _ _ h => h)⟩ hk3, trivial⟩
                unfold execOp
                simp only [resolve, invoke, builtin, Sem.run_bind, Sem.run_pure, Result.andThen_ok, List.map_toArray, List.map_cons, List.map_nil, e47, e49, hrun]
            · intro vs p hI hR
              have h0 : (vs 0) = .pointer (some ⟨g, 0, none⟩) := hR 0 (by omega)
              have h1 : (vs 1) = .pointer (some ⟨g, 0, none⟩) := hR 1 (by omega)
              have h2 : (vs 2) = .pointer (some ⟨g, 1, none⟩) := hR 2 (by omega)
              have h3 : (vs 3) = .map (some gm) := hR 3 (by omega)
              have h4 : (vs 4) = .pointer (some ⟨g5, 0, none⟩) := hR 4 (by omega)
              have h5 : (vs 5) = .int .i64 (k : Int) := hR 5 (by omega)
              have h6 : True := hR 6 (by omega)
              clear hR
              simp only [List.range_succ, List.range_zero, List.nil_append, List.cons_append, Roll.putD, Act.put, List.getD_cons_zero, List.getD_cons_succ, List.setIfInBounds_toArray, List.set_cons_zero, List.set_cons_succ, List.drop_succ_cons, List.drop_zero, Drs6]
              simp only [h0, h1, h2, h3, h4, h5]
              clear h0 h1 h2 h3 h4 h5
              obtain ⟨⟨hd2, hk2⟩, hk3⟩ := hI
              have Hd2 := Lib.hid hd2
              have Hk2 := Lib.hid hk2
              clear hd2 hk2 hk3 h6
              go_wp2_with fail
              go_roundw
              case rel =>
                refine ⟨i + 1, by omega, by go_num, rowSet rowi k none, by rw [HTS.out]; exact Hd2.out, HKi.out.trans (((HKq.out.mono (fun _ _ h => h.elim)).trans (P5K.out.mono (fun _ _ h => h.elim)) (fun _ _ h => h)).trans Hk2.out (fun _ _ h => h)) (fun j hj e => by rcases e with e | e; exact .inr (.inl e); exact .inr (.inr (.inl e))), fun j x hx => ?_⟩
                by_cases e : j = k
                · rw [e, rowSet_same] at hx; cases hx
                · rw [rowSet_other _ _ e] at hx; exact HRi.out j x hx
              case measure => simp [intOf]; omega
      · have hx : ∀ (k : Nat) (hk : k < (DM.torn d.S (ts.take i)).length), tm.sector = (k : Int) → (DM.torn d.S (ts.take i))[k].tail = [] := fun k hk hs => Classical.byContradiction fun hn => hx ⟨k, hk, hs, hn⟩
        have hTS : DM.torn d.S (ts.take (i + 1)) = DM.torn d.S (ts.take i) := by rw [htk]; exact torn_skip (fun s hs => (HOK.out.2.2.2 s hs).1) _ _ hx
        have HTS := Lib.hid hTS
        have Q5 := Lib.hid hq5
        have HLK := Lib.hid (fun p hp => hDi.lookNo tm.sector htok.1 htok.2 hx (fun _ => False) p (fun h => h) (hKq.trans hp (fun _ _ h => h)))
        clear hDi n1 n2 n3 n4 hlti hDb hbw hrb hil hr3 htm htok htk hg5 hq hKq hq5r hq5 hc1 hc2 c0 c1 hx hTS
        go_upto_region 3 with (first
          | (refine wpList_load_mid rfl 73 (.tmp 12) rfl b (off + i * 3) rfl _ _ Hr3.out Tryd.underlying73 rfl (by kernel_rfl) ?_)
          | (refine wpList_alloc_z rfl 73 rfl _ 73 run_alloc67 ?_)
          | (refine wpList_store_row rfl 73 (.tmp 5) (.tmp 13) rfl wr.heap.size _ rfl rfl 73 _ (heap_new rfl) (by kernel_rfl) rfl (by simp [Value.oneCell']) ?_))
        rw [← Hq.out, ← Hg5.out]
        refine Roll.region_f 12 61 Drsn Lrsn [(0, .pointer (some ⟨g, 0, none⟩)), (5, .pointer (some ⟨g5, 0, none⟩))] (fun p => Kept (fun _ => False) q p) (fun p p2 => Kept (fun _ => False) p p2) [fun vv p => vv = .pointer (some ⟨g, 0, none⟩), fun vv p => vv = .pointer (some ⟨g, 0, none⟩), fun vv p => vv = .pointer (some ⟨g, 1, none⟩), fun vv p => vv = .map (some gm), fun vv p => vv = .pointer (some ⟨g5, 0, none⟩), fun vv p => vv = .int .i64 tm.sector, fun vv p => vv = .tuple #[.slice none 0 0, .bool false], fun vv p => vv = .tuple #[.slice none 0 0, .bool false], fun vv p => vv = .slice none 0 0, fun vv p => vv = .bool false, fun vv p => vv = .slice none 0 0, fun vv p => vv = .bool false] (by kernel_rfl) (by kernel_rfl) rfl ⟨rfl, rfl, trivial⟩ ((Kept.refl _ _).drew) ?_ ?_ ?_
        · exact ⟨fun _ _ _ _ h => h, fun _ _ _ _ h => h, fun _ _ _ _ h => h, fun _ _ _ _ h => h, fun _ _ _ _ h => h, fun _ _ _ _ h => h, fun _ _ _ _ h => h, fun _ _ _ _ h => h, fun _ _ _ _ h => h, fun _ _ _ _ h => h, fun _ _ _ _ h => h, fun _ _ _ _ h => h, trivial⟩
        · intro b0 hN hlv
          refine ⟨?_, ?_, ?_, ?_, ?_, ?_, ?_, ?_, ?_, ?_, ?_, ?_, trivial⟩
          · intro vs p hI hp
            have e0 : (Roll.putD Drsn vs [] b0).eval (.tmp 0) = .pointer (some ⟨g, 0, none⟩) := (Roll.eval_old rfl).trans (hlv.at 0 (0, .pointer (some ⟨g, 0, none⟩)) rfl)
            clear hp hlv hN
            unfold Roll.Goes
            simp only [Lrsn, List.getD_cons_zero, List.getD_cons_succ]
            generalize Roll.putD Drsn vs [] b0 = a1 at *
            refine Roll.goes_val (w' := p) (.pointer (some ⟨g, 0, none⟩)) rfl ?_ ⟨hI, Kept.refl _ _, rfl⟩
            (have ec : ∀ x, a1.eval (.const x) = x := fun _ => rfl); (have ef : ∀ x, a1.eval (.func x) = .func (.func x) #[] #[] := fun _ => rfl); generalize a1.eval = ρ at *
            skip
            go_simp <;> (intros; first | (exfalso; omega) | rfl)
          · intro vs p hI hp
            have h0 : (vs 0) = .pointer (some ⟨g, 0, none⟩) := hp 0 (by simp [Lrsn])
            have e15 : (Roll.putD Drsn vs [0] b0).eval (.tmp 15) = .pointer (some ⟨g, 0, none⟩) := (Roll.eval_new 0 rfl (by decide) (by decide) (by omega)).trans h0
            clear hp hlv hN
            unfold Roll.Goes
            simp only [Lrsn, List.getD_cons_zero, List.getD_cons_succ]
            generalize Roll.putD Drsn vs [0] b0 = a1 at *
            refine Roll.goes_val (w' := p) (.pointer (some ⟨g, 0, none⟩)) rfl ?_ ⟨hI, Kept.refl _ _, rfl⟩
            (have ec : ∀ x, a1.eval (.const x) = x := fun _ => rfl); (have ef : ∀ x, a1.eval (.func x) = .func (.func x) #[] #[] := fun _ => rfl); generalize a1.eval = ρ at *
            clear h0
            go_simp <;> (intros; first | (exfalso; omega) | rfl)
          · intro vs p hI hp
            have h1 : (vs 1) = .pointer (some ⟨g, 0, none⟩) := hp 1 (by simp [Lrsn])
            have e16 : (Roll.putD Drsn vs [1] b0).eval (.tmp 16) = .pointer (some ⟨g, 0, none⟩) := (Roll.eval_new 1 rfl (by decide) (by decide) (by omega)).trans h1
            clear hp hlv hN
            unfold Roll.Goes
            simp only [Lrsn, List.getD_cons_zero, List.getD_cons_succ]
            generalize Roll.putD Drsn vs [1] b0 = a1 at *
            refine Roll.goes_val (w' := p) (.pointer (some ⟨g, 1, none⟩)) rfl ?_ ⟨hI, Kept.refl _ _, rfl⟩
            (have ec : ∀ x, a1.eval (.const x) = x := fun _ => rfl); (have ef : ∀ x, a1.eval (.func x) = .func (.func x) #[] #[] := fun _ => rfl); generalize a1.eval = ρ at *
            clear h1
            go_simp <;> (intros; first | (exfalso; omega) | rfl)
          · intro vs p hI hp
            have h2 : (vs 2) = .pointer (some ⟨g, 1, none⟩) := hp 2 (by simp [Lrsn])
            have e17 : (Roll.putD Drsn vs [2] b0).eval (.tmp 17) = .pointer (some ⟨g, 1, none⟩) := (Roll.eval_new 2 rfl (by decide) (by decide) (by omega)).trans h2
            clear hp hlv hN
            unfold Roll.Goes
            simp only [Lrsn, List.getD_cons_zero, List.getD_cons_succ]
            generalize Roll.putD Drsn vs [2] b0 = a1 at *
            have c1p : p.cell? ⟨g, 1, none⟩ = some (.map (some gm)) := (hI.cell HgQ.out (fun h => h)).trans Q1.out
            refine Roll.goes_val (w' := p) (.map (some gm)) rfl ?_ ⟨hI, Kept.refl _ _, rfl⟩
            (have ec : ∀ x, a1.eval (.const x) = x := fun _ => rfl); (have ef : ∀ x, a1.eval (.func x) = .func (.func x) #[] #[] := fun _ => rfl); generalize a1.eval = ρ at *
            clear h2
            go_simp <;> (intros; first | (exfalso; omega) | rfl)
          · intro vs p hI hp
            have e5 : (Roll.putD Drsn vs [] b0).eval (.tmp 5) = .pointer (some ⟨g5, 0, none⟩) := (Roll.eval_old rfl).trans (hlv.at 1 (5, .pointer (some ⟨g5, 0, none⟩)) rfl)
            clear hp hlv hN
            unfold Roll.Goes
            simp only [Lrsn, List.getD_cons_zero, List.getD_cons_succ]
            generalize Roll.putD Drsn vs [] b0 = a1 at *
            refine Roll.goes_val (w' := p) (.pointer (some ⟨g5, 0, none⟩)) rfl ?_ ⟨hI, Kept.refl _ _, rfl⟩
            (have ec : ∀ x, a1.eval (.const x) = x := fun _ => rfl); (have ef : ∀ x, a1.eval (.func x) = .func (.func x) #[] #[] := fun _ => rfl); generalize a1.eval = ρ at *
            skip
            go_simp <;> (intros; first | (exfalso; omega) | rfl)
          · intro vs p hI hp
            have h4 : (vs 4) = .pointer (some ⟨g5, 0, none⟩) := hp 4 (by simp [Lrsn])
            have e19 : (Roll.putD Drsn vs [4] b0).eval (.tmp 19) = .pointer (some ⟨g5, 0, none⟩) := (Roll.eval_new 4 rfl (by decide) (by decide) (by omega)).trans h4
            clear hp hlv hN
            unfold Roll.Goes
            simp only [Lrsn, List.getD_cons_zero, List.getD_cons_succ]
            generalize Roll.putD Drsn vs [4] b0 = a1 at *
            have c5p : p.cell? ⟨g5, 0, none⟩ = some (.int .i64 tm.sector) := (hI.cell H5Q.out (fun h => h)).trans Q5.out
            refine Roll.goes_val (w' := p) (.int .i64 tm.sector) rfl ?_ ⟨hI, Kept.refl _ _, rfl⟩
            (have ec : ∀ x, a1.eval (.const x) = x := fun _ => rfl); (have ef : ∀ x, a1.eval (.func x) = .func (.func x) #[] #[] := fun _ => rfl); generalize a1.eval = ρ at *
            clear h4
            go_simp <;> (intros; first | (exfalso; omega) | rfl)
          · intro vs p hI hp
            have h3 : (vs 3) = .map (some gm) := hp 3 (by simp [Lrsn])
            have h5 : (vs 5) = .int .i64 tm.sector := hp 5 (by simp [Lrsn])
            have e18 : (Roll.putD Drsn vs [3, 5] b0).eval (.tmp 18) = .map (some gm) := (Roll.eval_new 3 rfl (by decide) (by decide) (by omega)).trans h3
            have e20 : (Roll.putD Drsn vs [3, 5] b0).eval (.tmp 20) = .int .i64 tm.sector := (Roll.eval_new 5 rfl (by decide) (by decide) (by omega)).trans h5
            clear hp hlv hN
            unfold Roll.Goes
            simp only [Lrsn, List.getD_cons_zero, List.getD_cons_succ]
            generalize Roll.putD Drsn vs [3, 5] b0 = a1 at *
            have hlk := HLK.out p hI
            refine Roll.goes_val (w' := p) (.tuple #[.slice none 0 0, .bool false]) rfl ?_ ⟨hI, Kept.refl _ _, rfl⟩
            (have ec : ∀ x, a1.eval (.const x) = x := fun _ => rfl); (have ef : ∀ x, a1.eval (.func x) = .func (.func x) #[] #[] := fun _ => rfl); generalize a1.eval = ρ at *
            clear h3 h5
            go_simp <;> (intros; first | (exfalso; omega) | rfl)
          · intro vs p hI hp
            have h6 : (vs 6) = .tuple #[.slice none 0 0, .bool false] := hp 6 (by simp [Lrsn])
            have e21 : (Roll.putD Drsn vs [6] b0).eval (.tmp 21) = .tuple #[.slice none 0 0, .bool false] := (Roll.eval_new 6 rfl (by decide) (by decide) (by omega)).trans h6
            clear hp hlv hN
            unfold Roll.Goes
            simp only [Lrsn, List.getD_cons_zero, List.getD_cons_succ]
            generalize Roll.putD Drsn vs [6] b0 = a1 at *
            refine Roll.goes_val (w' := p) (.tuple #[.slice none 0 0, .bool false]) rfl ?_ ⟨hI, Kept.refl _ _, rfl⟩
            (have ec : ∀ x, a1.eval (.const x) = x := fun _ => rfl); (have ef : ∀ x, a1.eval (.func x) = .func (.func x) #[] #[] := fun _ => rfl); generalize a1.eval = ρ at *
            clear h6
            go_simp <;> (intros; first | (exfalso; omega) | rfl)
          · intro vs p hI hp
            have h7 : (vs 7) = .tuple #[.slice none 0 0, .bool false] := hp 7 (by simp [Lrsn])
            have e14 : (Roll.putD Drsn vs [7] b0).eval (.tmp 14) = .tuple #[.slice none 0 0, .bool false] := (Roll.eval_new 7 rfl (by decide) (by decide) (by omega)).trans h7
            clear hp hlv hN
            unfold Roll.Goes
            simp only [Lrsn, List.getD_cons_zero, List.getD_cons_succ]
            generalize Roll.putD Drsn vs [7] b0 = a1 at *
            refine Roll.goes_val (w' := p) (.slice none 0 0) rfl ?_ ⟨hI, Kept.refl _ _, rfl⟩
            (have ec : ∀ x, a1.eval (.const x) = x := fun _ => rfl); (have ef : ∀ x, a1.eval (.func x) = .func (.func x) #[] #[] := fun _ => rfl); generalize a1.eval = ρ at *
            clear h7
            go_simp <;> (intros; first | (exfalso; omega) | rfl)
          · intro vs p hI hp
            have h7 : (vs 7) = .tuple #[.slice none 0 0, .bool false] := hp 7 (by simp [Lrsn])
            have e14 : (Roll.putD Drsn vs [7] b0).eval (.tmp 14) = .tuple #[.slice none 0 0, .bool false] := (Roll.eval_new 7 rfl (by decide) (by decide) (by omega)).trans h7
            clear hp hlv hN
            unfold Roll.Goes
            simp only [Lrsn, List.getD_cons_zero, List.getD_cons_succ]
            generalize Roll.putD Drsn vs [7] b0 = a1 at *
            refine Roll.goes_val (w' := p) (.bool false) rfl ?_ ⟨hI, Kept.refl _ _, rfl⟩
            (have ec : ∀ x, a1.eval (.const x) = x := fun _ => rfl); (have ef : ∀ x, a1.eval (.func x) = .func (.func x) #[] #[] := fun _ => rfl); generalize a1.eval = ρ at *
            clear h7
            go_simp <;> (intros; first | (exfalso; omega) | rfl)
          · intro vs p hI hp
            have h8 : (vs 8) = .slice none 0 0 := hp 8 (by simp [Lrsn])
            have e22 : (Roll.putD Drsn vs [8] b0).eval (.tmp 22) = .slice none 0 0 := (Roll.eval_new 8 rfl (by decide) (by decide) (by omega)).trans h8
            clear hp hlv hN
            unfold Roll.Goes
            simp only [Lrsn, List.getD_cons_zero, List.getD_cons_succ]
            generalize Roll.putD Drsn vs [8] b0 = a1 at *
            refine Roll.goes_val (w' := p) (.slice none 0 0) rfl ?_ ⟨hI, Kept.refl _ _, rfl⟩
            (have ec : ∀ x, a1.eval (.const x) = x := fun _ => rfl); (have ef : ∀ x, a1.eval (.func x) = .func (.func x) #[] #[] := fun _ => rfl); generalize a1.eval = ρ at *
            clear h8
            go_simp <;> (intros; first | (exfalso; omega) | rfl)
          · intro vs p hI hp
            have h9 : (vs 9) = .bool false := hp 9 (by simp [Lrsn])
            have e23 : (Roll.putD Drsn vs [9] b0).eval (.tmp 23) = .bool false := (Roll.eval_new 9 rfl (by decide) (by decide) (by omega)).trans h9
            clear hp hlv hN
            unfold Roll.Goes
            simp only [Lrsn, List.getD_cons_zero, List.getD_cons_succ]
            generalize Roll.putD Drsn vs [9] b0 = a1 at *
            refine Roll.goes_val (w' := p) (.bool false) rfl ?_ ⟨hI, Kept.refl _ _, rfl⟩
            (have ec : ∀ x, a1.eval (.const x) = x := fun _ => rfl); (have ef : ∀ x, a1.eval (.func x) = .func (.func x) #[] #[] := fun _ => rfl); generalize a1.eval = ρ at *
            clear h9
            go_simp <;> (intros; first | (exfalso; omega) | rfl)
        · intro vs p hI hR
          have h0 : (vs 0) = .pointer (some ⟨g, 0, none⟩) := hR 0 (by omega)
          have h1 : (vs 1) = .pointer (some ⟨g, 0, none⟩) := hR 1 (by omega)
          have h2 : (vs 2) = .pointer (some ⟨g, 1, none⟩) := hR 2 (by omega)
          have h3 : (vs 3) = .map (some gm) := hR 3 (by omega)
          have h4 : (vs 4) = .pointer (some ⟨g5, 0, none⟩) := hR 4 (by omega)
          have h5 : (vs 5) = .int .i64 tm.sector := hR 5 (by omega)
          have h6 : (vs 6) = .tuple #[.slice none 0 0, .bool false] := hR 6 (by omega)
          have h7 : (vs 7) = .tuple #[.slice none 0 0, .bool false] := hR 7 (by omega)
          have h8 : (vs 8) = .slice none 0 0 := hR 8 (by omega)
          have h9 : (vs 9) = .bool false := hR 9 (by omega)
          have h10 : (vs 10) = .slice none 0 0 := hR 10 (by omega)
          have h11 : (vs 11) = .bool false := hR 11 (by omega)
          clear hR
          simp only [List.range_succ, List.range_zero, List.nil_append, List.cons_append, Roll.putD, Act.put, List.getD_cons_zero, List.getD_cons_succ, List.setIfInBounds_toArray, List.set_cons_zero, List.set_cons_succ, List.drop_succ_cons, List.drop_zero, Drsn]
          simp only [h0, h1, h2, h3, h4, h5, h6, h7, h8, h9, h10, h11]
          clear h0 h1 h2 h3 h4 h5 h6 h7 h8 h9 h10 h11
          have HI3 := Lib.hid hI
          clear hI
          go_wp2_with fail
          go_roundw
          case rel => exact ⟨i + 1, by omega, by go_num, rowi, by rw [HTS.out]; exact HDi.out.kept (HKq.out.trans HI3.out (fun _ _ h => h)) (fun _ _ h => h), HKi.out.trans (HKq.out.trans HI3.out (fun _ _ h => h)) (fun _ _ h => h.elim), HRi.out⟩
          case measure => simp [intOf]; omega
    · obtain rfl : i = n := by omega
      have hDi := HDi.out
      rw [List.take_of_length_le (by have := HT.out.1; omega)] at hDi
      obtain ⟨cap, _, _, _, c1, _, _, f0⟩ := hDi.facts
      obtain ⟨p2, hrun, hd2, hk2, hs2⟩ := hDi.clear
      have hd3 := (hd2.setOnC true).setFuseC 0 (by omega)
      obtain ⟨cap2, _, _, _, _, e2, e3, f02⟩ := hd2.facts
      have f2 := f02 2
      have f3 := f02 3
      simp only at e2 e3
      have Hd3 := Lib.hid hd3
      have Hk2 := Lib.hid hk2
      clear hDi hd2 hd3 hk2 hs2 f0 f02
      go_wp2_with fail
      go_end0
      refine ⟨rfl, Hd3.out, ?_⟩
      refine HKi.out.trans ((Hk2.out.mono (fun j _ e => (.inr (.inr (.inl e)) : Blk g gd gm row j))).trans (kept_two _ _) (fun j _ e => (.inl e : Blk g gd gm row j))) (fun _ _ h => h)
end
end Go.Proofs.YthffegfcgmhppaaDoor
namespace Go.Proofs.YthffegfcgmhppaaDoor
open Go.RowKit
set_option linter.unusedSimpArgs false
set_option linter.unusedVariables false
def Dfl6 : List (Option Tmp) := [some 20, some 21, some 22, some 23, some 24, some 25, some 26, some 27, some 28, some 29, some 30, some 31, none]
def Lfl6 : List (List Nat) := [[], [0], [1], [2], [], [], [], [6], [7], [5, 8], [9], [3, 4], [11, 10]]
theorem flush_list (S : List (List (List UInt8))) (k : Nat) (left : Int → Bool) (bl : List UInt8) (hl : left (k : Int) = true) (hb : ∀ (hk : k < S.length), lastB S[k] = bl) :
    (S.mapIdx fun j s => if left (j : Int) then dur s else lastB s).set k bl = S.mapIdx fun j s => if (left (j : Int) && !decide ((j : Int) = (k : Int))) then dur s else lastB s := by
  apply List.ext_getElem (by simp)
  intro j h1 h2
  have hj : j < S.length := by simpa using h2
  rw [List.getElem_set, List.getElem_mapIdx, List.getElem_mapIdx]
  by_cases e : k = j
  · subst e
    rw [if_pos rfl]
    simp [hb hj]
  · rw [if_neg e]
    have : ((j : Int) = (k : Int)) = False := by rw [eq_iff_iff, iff_false]; omega
    simp [this]
section
variable {w p : World} {g gd gm : Nat} {row : Nat → Option Nat} {N : Nat} {d : DM}
theorem Dk.flushed (h : Dk w g gd gm row N d) (hK : Kept (fun j => j = gd) w p) (cap : Nat) (hg : w.heap[g]? = some (.cells #[.slice (some ⟨gd, 0, none⟩) d.S.length cap, .map (some gm), .bool d.on, .int .i64 (d.fuse : Int)] 58 (0, 0))) (hcap : d.S.length ≤ cap) (hcap2 : cap ≤ maxLen)
    {M : Nat} {f : Int → Option Value} (hM : Mp p gm M f) (cur : Array Value) (hc : p.heap[gd]? = some (.cells cur 76 (0, 0))) (hs : cur.size = cap * 64) (ht : cur.toList.take (d.S.length * 64) = scells (d.S.map lastB)) :
    ∃ p2, (Builtin.clear_ #[56] 0 #[.map (some gm)]).run Tryd.prog p = .ok (.tuple #[]) p2 ∧ Dk p2 g gd gm (fun _ => none) 0 ⟨d.S.map fun s => [lastB s], d.on, d.fuse⟩ ∧ Kept (fun j => j = gm) p p2 := by
  obtain ⟨n1, n2, n3, n4⟩ := h.g_ne
  have hok := h.ok
  obtain ⟨p2, hrun, hm2, hk2, hs2⟩ := hM.clear (P := Tryd.prog) Tryd.underlying56 0
  have hset : (d.S.map fun s => [lastB s]).map dur = d.S.map lastB := by rw [List.map_map]; rfl
  refine ⟨p2, hrun, ⟨⟨by simpa using hok.1, by simpa using hok.2.1, hok.2.2.1, ?_⟩, ⟨cap, cur, ?_, hk2.heap hc n3, ?_, hcap2, hs, ?_⟩, ⟨_, _, hm2, fun k h => absurd rfl h, fun j hj => .inl ⟨by simp, rfl, rfl⟩⟩, fun _ _ h => (by cases h), fun _ _ _ h => (by cases h), fun _ _ h => (by cases h)⟩, hk2⟩
  · intro s hs
    obtain ⟨s', hs', rfl⟩ := List.mem_map.1 hs
    obtain ⟨e1, _, e3⟩ := hok.2.2.2 s' hs'
    exact ⟨by simp, by simp, fun x hx => by rw [List.mem_singleton.1 hx]; exact e3 _ (lastB_mem e1)⟩
  · rw [List.length_map]; exact hk2.heap (hK.heap hg n1) n2
  · rw [List.length_map]; exact hcap
  · rw [List.length_map, hset]; exact ht
theorem flush_off (h : Dk w g gd gm row N d) (ho : d.on = false) :
    Calls Tryd.prog 29 #[.pointer (some ⟨g, 0, none⟩)] w fun e w' => e = .returned (.int .i64 10) ∧ w = w' := by
  obtain ⟨cap, h1, h2, c0, c1, c2, c3, f0⟩ := h.facts
  rw [ho] at c2
  clear h ho
  go_enter Tryd.func29, Tryd.ntmps29
  go_wp2
  go_ret
  exact ⟨rfl, rfl⟩
set_option maxRecDepth 100000 in
set_option maxHeartbeats 2000000 in
theorem flush_ok (h : Dk w g gd gm row N d) (ho : d.on = true) :
    Calls Tryd.prog 29 #[.pointer (some ⟨g, 0, none⟩)] w fun e w' => e = .returned (.int .i64 0) ∧ Dk w' g gd gm (fun _ => none) 0 d.flush ∧ Kept (Blk g gd gm row) w w' := by
  obtain ⟨cap, cur0, s1, s2, s3, s4, s5, s6⟩ := h.self
  obtain ⟨M, f, hm, hfd, hr⟩ := h.map
  obtain ⟨w1, hrg, ⟨cnt0, hRg0⟩, hk1, hsz1⟩ := hm.range (P := Tryd.prog) (t := 56) Tryd.underlying56
  obtain ⟨n1, n2, n3, n4⟩ := h.g_ne
  have hlt := h.lt
  have hgl := hlt g (.inl rfl)
  have hgdl := hlt gd (.inr (.inl rfl))
  have hgml := hlt gm (.inr (.inr (.inl rfl)))
  have c0 : w.cell? ⟨g, 0, none⟩ = some (.slice (some ⟨gd, 0, none⟩) d.S.length cap) := by rw [cell_of_row w g _ _ _ _ s1]; rfl
  have c1 : w.cell? ⟨g, 1, none⟩ = some (.map (some gm)) := by rw [cell_of_row w g _ _ _ _ s1]; rfl
  have c2 : w.cell? ⟨g, 2, none⟩ = some (.bool true) := by rw [cell_of_row w g _ _ _ _ s1, ← ho]; rfl
  have hne4 := h.ok.2.1
  have h64 : ∀ left : Int → Bool, ∀ b ∈ d.S.mapIdx fun k s => if left (k : Int) then dur s else lastB s, b.length = 64 := by
    intro left b hb
    obtain ⟨j, hj, rfl⟩ := List.mem_iff_getElem.1 hb
    rw [List.getElem_mapIdx]
    have hj' : j < d.S.length := by simpa using hj
    obtain ⟨e1, _, e3⟩ := h.ok.2.2.2 _ (List.getElem_mem hj')
    split
    · exact e3 _ (dur_mem e1)
    · exact e3 _ (lastB_mem e1)
  have hstart : Rg w1 w.heap.size gm M f (fun k => (f k).isSome) cnt0 ∧ (∀ k, (f k).isSome = true → (f k).isSome = true) ∧ Kept (fun j => j = gd) w w1 ∧ ∃ cur, w1.heap[gd]? = some (.cells cur 76 (0, 0)) ∧ cur.size = cap * 64 ∧ cur.toList.take (d.S.length * 64) = scells (d.S.mapIdx fun k s => if (f (k : Int)).isSome then dur s else lastB s) := by
    refine ⟨hRg0, fun _ h => h, hk1.mono (fun _ _ h => h.elim), cur0, hk1.heap s2 (fun h => h), s5, ?_⟩
    rw [s6]
    congr 1
    apply List.ext_getElem (by simp)
    intro j h1 h2
    rw [List.getElem_map, List.getElem_mapIdx]
    have hj : j < d.S.length := by simpa using h1
    rcases hr j hj with ⟨e1, e2, _⟩ | ⟨_, _, v, _, e2, _⟩
    · rw [e2]
      have hne := (h.ok.2.2.2 _ (List.getElem_mem hj)).1
      match hS : d.S[j], e1, hne with
      | [x], _, _ => rfl
    · rw [e2]; rfl
  have HS := Lib.hid hstart
  have H := Lib.hid h
  have H64 := Lib.hid h64
  have S1 := Lib.hid s1
  have Hr := Lib.hid hr
  have Hfd := Lib.hid hfd
  have Hne : Hid (gm ≠ gd ∧ g ≠ gd ∧ g ≠ gm) := Lib.hid ⟨fun e => n3 e.symm, n1, n2⟩
  have Hgd := Lib.hid hgdl
  have Hgl := Lib.hid hgl
  have Hgm := Lib.hid hgml
  have Hcap : Hid (d.S.length ≤ cap ∧ cap ≤ maxLen) := Lib.hid ⟨s3, s4⟩
  have Hr2 : Hid (∀ k j, row k = some j → j < w.heap.size ∧ j ≠ gd) := Lib.hid (fun k j hj => ⟨hlt j (.inr (.inr (.inr ⟨k, hj⟩))), h.apart k j hj⟩)
  have Hn4 := Lib.hid hne4
  have HW1 := Lib.hid hk1
  obtain ⟨L, hL⟩ : ∃ L, L = d.S.length := ⟨_, rfl⟩
  rw [← hL] at c0
  have HLe := Lib.hid hL
  clear hstart h64 s1 s2 s3 s4 s5 s6 hr hfd hRg0 n1 n2 n3 n4 hlt hgl hgdl hgml hm h ho hne4 hk1 hL
  go_enter Tryd.func29, Tryd.ntmps29
  go_wp2_with fail
  go_loopw [] (fun wr => ∃ left cnt, Rg wr w.heap.size gm M f left cnt ∧ (∀ k, left k = true → (f k).isSome = true) ∧ Kept (fun j => j = gd) w wr ∧ ∃ cur, wr.heap[gd]? = some (.cells cur 76 (0, 0)) ∧ cur.size = cap * 64 ∧ cur.toList.take (d.S.length * 64) = scells (d.S.mapIdx fun k s => if left (k : Int) then dur s else lastB s)) (fun wr => wr.rangeLeft gm w.heap.size)
  case atStart => exact ⟨_, cnt0, HS.out⟩
  case round =>
    obtain ⟨left, cnt, hRg, hLf, hKr, cur, hcur⟩ := hrel
    have HRg := Lib.hid hRg
    have HLf := Lib.hid hLf
    have HKr := Lib.hid hKr
    have Hcur := Lib.hid hcur
    have d0 := (hKr.cell (p := ⟨g, 0, none⟩) Hgl.out Hne.out.2.1).trans c0
    have d1 := (hKr.cell (p := ⟨g, 1, none⟩) Hgl.out Hne.out.2.1).trans c1
    rcases hRg.next (P := Tryd.prog) 0 with ⟨hall, hrun⟩ | ⟨k', v, w2, cnt', hlk, hfk, hrun, hRg2, hlt, hk2, hsz2, hen⟩
    · have hfin : cur.toList.take (d.S.length * 64) = scells (d.S.map lastB) := by
        rw [hcur.2.2]
        congr 1
        apply List.ext_getElem (by simp)
        intro j h1 h2
        rw [List.getElem_map, List.getElem_mapIdx, hall]
        rfl
      obtain ⟨p2, hclr, hd2, hk2⟩ := H.out.flushed hKr cap S1.out Hcap.out.1 Hcap.out.2 hRg.mp cur hcur.1 hcur.2.1 hfin
      have HB := Lib.hid (burn_dk hd2)
      have Hk2 := Lib.hid hk2
      clear hRg hLf hKr hcur hall hfin hd2 hk2
      go_wp2_with (go_at_call 50; refine HB.out.mono ?_; rintro e w9 ⟨rfl, hd9, hk9⟩; have Hd9 := Lib.hid hd9; have Hk9 := Lib.hid hk9; clear hd9 hk9)
      go_ret
      exact ⟨rfl, Hd9.out, ((HKr.out.mono (T := Blk g gd gm row) (fun j _ e => .inr (.inl e))).trans Hk2.out (fun j _ e => .inr (.inr (.inl e)))).trans Hk9.out (fun j _ e => .inl e)⟩
    · obtain ⟨hk0, hkl⟩ := Hfd.out k' (by rw [hfk]; simp)
      obtain ⟨k, rfl⟩ : ∃ k : Nat, k' = (k : Int) := ⟨k'.toNat, by omega⟩
      have hkL0 : k < d.S.length := by omega
      rcases Hr.out k hkL0 with ⟨_, e0, _⟩ | ⟨htl, gk, v', hrow, e0, hown⟩
      · rw [e0] at hfk; cases hfk
      rw [e0] at hfk
      obtain rfl : v' = v := by cases hfk; rfl
      obtain ⟨hsne, _, hs64⟩ := H.out.ok.2.2.2 _ (List.getElem_mem hkL0)
      have ht64 : ∀ b ∈ d.S[k].tail, b.length = 64 := fun b hb => hs64 b (List.mem_of_mem_tail hb)
      have hgk := Hr2.out k gk hrow
      obtain ⟨c, rfl, hmc, hc2, hrr⟩ := hown.secs ht64 rfl
      obtain ⟨bl, hbl⟩ : ∃ bl, bl = lastB d.S[k] := ⟨_, rfl⟩
      have Hbl : Hid (bl.length = 64) := Lib.hid (by rw [hbl]; exact hs64 _ (lastB_mem hsne))
      have Hbs : Hid (∀ (hk : k < d.S.length), lastB d.S[k] = bl) := Lib.hid (fun _ => hbl.symm)
      have hpl : 0 < d.S[k].tail.length := List.length_pos_iff.2 htl
      have hlast := hrr (d.S[k].tail.length - 1) (by omega)
      rw [tail_last _ htl (by omega), ← hbl] at hlast
      obtain ⟨m, hmm⟩ : ∃ m, m = d.S[k].tail.length := ⟨_, rfl⟩
      rw [← hmm] at hlast hmc hpl hrun hen
      have Hm : Hid (0 < m ∧ m ≤ 9223372036854775807 ∧ m ≤ c) := Lib.hid ⟨hpl, by omega, hmc⟩
      have hKq : Kept (fun j => j = gd ∨ j = w.heap.size) w w2 := (hKr.mono (fun _ _ e => .inl e)).trans hk2 (fun _ _ e => .inr e)
      obtain ⟨q, hq⟩ : ∃ q, q = w2 := ⟨_, rfl⟩
      have Hgq : Hid (g < q.heap.size) := Lib.hid (by rw [hq]; exact Nat.lt_of_lt_of_le Hgl.out hKq.size)
      have Hgdq : Hid (gd < q.heap.size) := Lib.hid (by rw [hq]; exact Nat.lt_of_lt_of_le Hgd.out hKq.size)
      have Hgkq : Hid (gk < q.heap.size) := Lib.hid (by rw [hq]; exact Nat.lt_of_lt_of_le hgk.1 hKq.size)
      have P0 : Hid (q.cell? ⟨g, 0, none⟩ = some (.slice (some ⟨gd, 0, none⟩) L cap)) := Lib.hid (by rw [hq]; exact (hKq.cell (p := ⟨g, 0, none⟩) Hgl.out (fun e => by rcases e with e | e; exact Hne.out.2.1 e; have := Hgl.out; simp only at e; omega)).trans c0)
      obtain ⟨m1, hm1⟩ : ∃ m1, m1 = m - 1 := ⟨_, rfl⟩
      have Hm1 := Lib.hid hm1
      have Hm1b : Hid ((m1 : Int) < (m : Int)) := Lib.hid (by omega)
      rw [← hm1] at hlast
      have PR : Hid (q.rangeAt gk (m1 * 64) (vals bl)) := Lib.hid (fun j v hv => by rw [hq]; exact (hKq.cell (p := ⟨gk, m1 * 64 + j, none⟩) hgk.1 (fun e => by rcases e with e | e; exact hgk.2 e; have := hgk.1; simp only at e; omega)).trans (hlast j v hv))
      have PT : Hid (q.there gd (k * 64) 64) := Lib.hid (fun j hj => by
        have hh : q.heap[gd]? = some (.cells cur 76 (0, 0)) := by rw [hq]; exact hk2.heap hcur.1 (fun e => by have := Hgd.out; omega)
        have hlt : k * 64 + j < cur.size := by rw [hcur.2.1]; have := Hcap.out.1; have := Nat.mul_le_mul_right 64 (show k + 1 ≤ cap by omega); omega
        refine ⟨?_, frozen_of_row q gd _ _ _ hh⟩
        rw [cell_of_row q gd _ _ _ _ hh, Array.getElem?_eq_getElem hlt]
        rfl)
      have HkL : Hid ((k : Int) < (L : Int)) := Lib.hid (by have := HLe.out; omega)
      have HLc : Hid (L ≤ cap ∧ cap ≤ 9223372036854775807 ∧ L ≤ 4096) := Lib.hid ⟨by have := HLe.out; have := Hcap.out; omega, by have := Hcap.out.2; unfold maxLen at this; omega, by have := HLe.out; have := Hn4.out; omega⟩
      have Hlk := Lib.hid hlk
      have HRg2 : Hid (Rg q w.heap.size gm M f (fun j => left j && !decide (j = (k : Int))) cnt') := Lib.hid (by rw [hq]; exact hRg2)
      have Hlt := Lib.hid hlt
      have Hk2 : Hid (Kept (fun j => j = w.heap.size) wr q) := Lib.hid (by rw [hq]; exact hk2)
      rw [← hq] at hrun hen
      have hkL2 := HkL.out
      clear hRg hLf hKr hcur hlk hfk hRg2 hlt hk2 hsz2 hk0 hkl e0 hown hsne hs64 ht64 hgk hmc hc2 hrr hbl hpl hlast hmm hm1 hKq hq htl hrow
      go_upto_region 6 with fail
      refine Roll.region_f 11 38 Dfl6 Lfl6 [(0, .pointer (some ⟨g, 0, none⟩)), (3, .int .i64 (k : Int)), (4, .slice (some ⟨gk, 0, none⟩) m c)] (fun p => Kept (fun _ => False) q p) (fun p p2 => Kept (fun _ => False) p p2) [fun vv p => vv = .pointer (some ⟨g, 0, none⟩), fun vv p => vv = .pointer (some ⟨g, 0, none⟩), fun vv p => vv = .pointer (some ⟨g, 0, none⟩), fun vv p => vv = .slice (some ⟨gd, 0, none⟩) L cap, fun vv p => vv = .int .i64 (k : Int), fun vv p => vv = .slice (some ⟨gk, 0, none⟩) m c, fun vv p => vv = .slice (some ⟨gk, 0, none⟩) m c, fun vv p => vv = .int .i64 (m : Int), fun vv p => vv = .int .i64 (m1 : Int), fun vv p => vv = .pointer (some ⟨gk, m1 * 64, none⟩), fun vv p => vv = .agg (vals bl).toArray] (by kernel_rfl) (by kernel_rfl) rfl ⟨rfl, rfl, rfl, trivial⟩ ((Kept.refl _ _).drew) ?_ ?_ ?_
      · exact ⟨fun _ _ _ _ h => h, fun _ _ _ _ h => h, fun _ _ _ _ h => h, fun _ _ _ _ h => h, fun _ _ _ _ h => h, fun _ _ _ _ h => h, fun _ _ _ _ h => h, fun _ _ _ _ h => h, fun _ _ _ _ h => h, fun _ _ _ _ h => h, fun _ _ _ _ h => h, trivial⟩
      · intro b0 hN hlv
        refine ⟨?_, ?_, ?_, ?_, ?_, ?_, ?_, ?_, ?_, ?_, ?_, trivial⟩
        · intro vs p hI hp
          have e0 : (Roll.putD Dfl6 vs [] b0).eval (.tmp 0) = .pointer (some ⟨g, 0, none⟩) := (Roll.eval_old rfl).trans (hlv.at 0 (0, .pointer (some ⟨g, 0, none⟩)) rfl)
          clear hp hlv hN
          unfold Roll.Goes
          simp only [Lfl6, List.getD_cons_zero, List.getD_cons_succ]
          generalize Roll.putD Dfl6 vs [] b0 = a1 at *
          refine Roll.goes_val (w' := p) (.pointer (some ⟨g, 0, none⟩)) rfl ?_ ⟨hI, Kept.refl _ _, rfl⟩
          (have ec : ∀ x, a1.eval (.const x) = x := fun _ => rfl); (have ef : ∀ x, a1.eval (.func x) = .func (.func x) #[] #[] := fun _ => rfl); generalize a1.eval = ρ at *
          skip
          go_simp <;> (intros; first | (exfalso; omega) | rfl)
        · intro vs p hI hp
          have h0 : (vs 0) = .pointer (some ⟨g, 0, none⟩) := hp 0 (by simp [Lfl6])
          have e20 : (Roll.putD Dfl6 vs [0] b0).eval (.tmp 20) = .pointer (some ⟨g, 0, none⟩) := (Roll.eval_new 0 rfl (by decide) (by decide) (by omega)).trans h0
          clear hp hlv hN
          unfold Roll.Goes
          simp only [Lfl6, List.getD_cons_zero, List.getD_cons_succ]
          generalize Roll.putD Dfl6 vs [0] b0 = a1 at *
          refine Roll.goes_val (w' := p) (.pointer (some ⟨g, 0, none⟩)) rfl ?_ ⟨hI, Kept.refl _ _, rfl⟩
          (have ec : ∀ x, a1.eval (.const x) = x := fun _ => rfl); (have ef : ∀ x, a1.eval (.func x) = .func (.func x) #[] #[] := fun _ => rfl); generalize a1.eval = ρ at *
          clear h0
          go_simp <;> (intros; first | (exfalso; omega) | rfl)
        · intro vs p hI hp
          have h1 : (vs 1) = .pointer (some ⟨g, 0, none⟩) := hp 1 (by simp [Lfl6])
          have e21 : (Roll.putD Dfl6 vs [1] b0).eval (.tmp 21) = .pointer (some ⟨g, 0, none⟩) := (Roll.eval_new 1 rfl (by decide) (by decide) (by omega)).trans h1
          clear hp hlv hN
          unfold Roll.Goes
          simp only [Lfl6, List.getD_cons_zero, List.getD_cons_succ]
          generalize Roll.putD Dfl6 vs [1] b0 = a1 at *
          refine Roll.goes_val (w' := p) (.pointer (some ⟨g, 0, none⟩)) rfl ?_ ⟨hI, Kept.refl _ _, rfl⟩
          (have ec : ∀ x, a1.eval (.const x) = x := fun _ => rfl); (have ef : ∀ x, a1.eval (.func x) = .func (.func x) #[] #[] := fun _ => rfl); generalize a1.eval = ρ at *
          clear h1
          go_simp <;> (intros; first | (exfalso; omega) | rfl)
        · intro vs p hI hp
          have h2 : (vs 2) = .pointer (some ⟨g, 0, none⟩) := hp 2 (by simp [Lfl6])
          have e22 : (Roll.putD Dfl6 vs [2] b0).eval (.tmp 22) = .pointer (some ⟨g, 0, none⟩) := (Roll.eval_new 2 rfl (by decide) (by decide) (by omega)).trans h2
          clear hp hlv hN
          unfold Roll.Goes
          simp only [Lfl6, List.getD_cons_zero, List.getD_cons_succ]
          generalize Roll.putD Dfl6 vs [2] b0 = a1 at *
          have c0p : p.cell? ⟨g, 0, none⟩ = some (.slice (some ⟨gd, 0, none⟩) L cap) := (hI.cell Hgq.out (fun h => h)).trans P0.out
          refine Roll.goes_val (w' := p) (.slice (some ⟨gd, 0, none⟩) L cap) rfl ?_ ⟨hI, Kept.refl _ _, rfl⟩
          (have ec : ∀ x, a1.eval (.const x) = x := fun _ => rfl); (have ef : ∀ x, a1.eval (.func x) = .func (.func x) #[] #[] := fun _ => rfl); generalize a1.eval = ρ at *
          clear h2
          go_simp <;> (intros; first | (exfalso; omega) | rfl)
        · intro vs p hI hp
          have e3 : (Roll.putD Dfl6 vs [] b0).eval (.tmp 3) = .int .i64 (k : Int) := (Roll.eval_old rfl).trans (hlv.at 1 (3, .int .i64 (k : Int)) rfl)
          clear hp hlv hN
          unfold Roll.Goes
          simp only [Lfl6, List.getD_cons_zero, List.getD_cons_succ]
          generalize Roll.putD Dfl6 vs [] b0 = a1 at *
          refine Roll.goes_val (w' := p) (.int .i64 (k : Int)) rfl ?_ ⟨hI, Kept.refl _ _, rfl⟩
          (have ec : ∀ x, a1.eval (.const x) = x := fun _ => rfl); (have ef : ∀ x, a1.eval (.func x) = .func (.func x) #[] #[] := fun _ => rfl); generalize a1.eval = ρ at *
          skip
          go_simp <;> (intros; first | (exfalso; omega) | rfl)
        · intro vs p hI hp
          have e4 : (Roll.putD Dfl6 vs [] b0).eval (.tmp 4) = .slice (some ⟨gk, 0, none⟩) m c := (Roll.eval_old rfl).trans (hlv.at 2 (4, .slice (some ⟨gk, 0, none⟩) m c) rfl)
          clear hp hlv hN
          unfold Roll.Goes
          simp only [Lfl6, List.getD_cons_zero, List.getD_cons_succ]
          generalize Roll.putD Dfl6 vs [] b0 = a1 at *
          refine Roll.goes_val (w' := p) (.slice (some ⟨gk, 0, none⟩) m c) rfl ?_ ⟨hI, Kept.refl _ _, rfl⟩
          (have ec : ∀ x, a1.eval (.const x) = x := fun _ => rfl); (have ef : ∀ x, a1.eval (.func x) = .func (.func x) #[] #[] := fun _ => rfl); generalize a1.eval = ρ at *
          skip
          go_simp <;> (intros; first | (exfalso; omega) | rfl)
        · intro vs p hI hp
          have e4 : (Roll.putD Dfl6 vs [] b0).eval (.tmp 4) = .slice (some ⟨gk, 0, none⟩) m c := (Roll.eval_old rfl).trans (hlv.at 2 (4, .slice (some ⟨gk, 0, none⟩) m c) rfl)
          clear hp hlv hN
          unfold Roll.Goes
          simp only [Lfl6, List.getD_cons_zero, List.getD_cons_succ]
          generalize Roll.putD Dfl6 vs [] b0 = a1 at *
          refine Roll.goes_val (w' := p) (.slice (some ⟨gk, 0, none⟩) m c) rfl ?_ ⟨hI, Kept.refl _ _, rfl⟩
          (have ec : ∀ x, a1.eval (.const x) = x := fun _ => rfl); (have ef : ∀ x, a1.eval (.func x) = .func (.func x) #[] #[] := fun _ => rfl); generalize a1.eval = ρ at *
          skip
          go_simp <;> (intros; first | (exfalso; omega) | rfl)
        · intro vs p hI hp
          have h6 : (vs 6) = .slice (some ⟨gk, 0, none⟩) m c := hp 6 (by simp [Lfl6])
          have e26 : (Roll.putD Dfl6 vs [6] b0).eval (.tmp 26) = .slice (some ⟨gk, 0, none⟩) m c := (Roll.eval_new 6 rfl (by decide) (by decide) (by omega)).trans h6
          clear hp hlv hN
          unfold Roll.Goes
          simp only [Lfl6, List.getD_cons_zero, List.getD_cons_succ]
          generalize Roll.putD Dfl6 vs [6] b0 = a1 at *
          refine Roll.goes_val (w' := p) (.int .i64 (m : Int)) rfl ?_ ⟨hI, Kept.refl _ _, rfl⟩
          (have ec : ∀ x, a1.eval (.const x) = x := fun _ => rfl); (have ef : ∀ x, a1.eval (.func x) = .func (.func x) #[] #[] := fun _ => rfl); generalize a1.eval = ρ at *
          clear h6
          go_simp <;> (intros; first | (exfalso; omega) | rfl)
        · intro vs p hI hp
          have h7 : (vs 7) = .int .i64 (m : Int) := hp 7 (by simp [Lfl6])
          have e27 : (Roll.putD Dfl6 vs [7] b0).eval (.tmp 27) = .int .i64 (m : Int) := (Roll.eval_new 7 rfl (by decide) (by decide) (by omega)).trans h7
          clear hp hlv hN
          unfold Roll.Goes
          simp only [Lfl6, List.getD_cons_zero, List.getD_cons_succ]
          generalize Roll.putD Dfl6 vs [7] b0 = a1 at *
          have hm1 := Hm.out.1
          have hm2 := Hm.out.2.1
          have hm6 := Hm1.out
          have hwr : IntKind.i64.wrap ((m : Int) - 1) = (m1 : Int) := (i64_id _ (by omega) (by omega)).trans (by omega)
          clear hm6
          refine Roll.goes_val (w' := p) (.int .i64 (m1 : Int)) rfl ?_ ⟨hI, Kept.refl _ _, rfl⟩
          (have ec : ∀ x, a1.eval (.const x) = x := fun _ => rfl); (have ef : ∀ x, a1.eval (.func x) = .func (.func x) #[] #[] := fun _ => rfl); generalize a1.eval = ρ at *
          clear h7
          go_simp <;> (intros; first | (exfalso; omega) | rfl)
        · intro vs p hI hp
          have h5 : (vs 5) = .slice (some ⟨gk, 0, none⟩) m c := hp 5 (by simp [Lfl6])
          have h8 : (vs 8) = .int .i64 (m1 : Int) := hp 8 (by simp [Lfl6])
          have e25 : (Roll.putD Dfl6 vs [5, 8] b0).eval (.tmp 25) = .slice (some ⟨gk, 0, none⟩) m c := (Roll.eval_new 5 rfl (by decide) (by decide) (by omega)).trans h5
          have e28 : (Roll.putD Dfl6 vs [5, 8] b0).eval (.tmp 28) = .int .i64 (m1 : Int) := (Roll.eval_new 8 rfl (by decide) (by decide) (by omega)).trans h8
          clear hp hlv hN
          unfold Roll.Goes
          simp only [Lfl6, List.getD_cons_zero, List.getD_cons_succ]
          generalize Roll.putD Dfl6 vs [5, 8] b0 = a1 at *
          have hm3 := Hm.out.2.2
          have hm5 : (m1 : Int) < (m : Int) := Hm1b.out
          refine Roll.goes_val (w' := p) (.pointer (some ⟨gk, m1 * 64, none⟩)) rfl ?_ ⟨hI, Kept.refl _ _, rfl⟩
          (have ec : ∀ x, a1.eval (.const x) = x := fun _ => rfl); (have ef : ∀ x, a1.eval (.func x) = .func (.func x) #[] #[] := fun _ => rfl); generalize a1.eval = ρ at *
          clear h5 h8
          go_simp <;> (intros; first | (exfalso; omega) | rfl)
        · intro vs p hI hp
          have h9 : (vs 9) = .pointer (some ⟨gk, m1 * 64, none⟩) := hp 9 (by simp [Lfl6])
          have e29 : (Roll.putD Dfl6 vs [9] b0).eval (.tmp 29) = .pointer (some ⟨gk, m1 * 64, none⟩) := (Roll.eval_new 9 rfl (by decide) (by decide) (by omega)).trans h9
          clear hp hlv hN
          unfold Roll.Goes
          simp only [Lfl6, List.getD_cons_zero, List.getD_cons_succ]
          generalize Roll.putD Dfl6 vs [9] b0 = a1 at *
          exact Roll.goes_load_mid rfl 76 (.tmp 29) rfl gk (m1 * 64) e29 (vals bl) _ (fun j v hv => (hI.cell (p := ⟨gk, m1 * 64 + j, none⟩) Hgkq.out (fun h => h)).trans (PR.out j v hv)) Tryd.underlying76 rfl (size64v Hbl.out) ⟨hI, Kept.refl _ _, rfl⟩
      · intro vs p hI hR
        have h0 : (vs 0) = .pointer (some ⟨g, 0, none⟩) := hR 0 (by omega)
        have h1 : (vs 1) = .pointer (some ⟨g, 0, none⟩) := hR 1 (by omega)
        have h2 : (vs 2) = .pointer (some ⟨g, 0, none⟩) := hR 2 (by omega)
        have h3 : (vs 3) = .slice (some ⟨gd, 0, none⟩) L cap := hR 3 (by omega)
        have h4 : (vs 4) = .int .i64 (k : Int) := hR 4 (by omega)
        have h5 : (vs 5) = .slice (some ⟨gk, 0, none⟩) m c := hR 5 (by omega)
        have h6 : (vs 6) = .slice (some ⟨gk, 0, none⟩) m c := hR 6 (by omega)
        have h7 : (vs 7) = .int .i64 (m : Int) := hR 7 (by omega)
        have h8 : (vs 8) = .int .i64 (m1 : Int) := hR 8 (by omega)
        have h9 : (vs 9) = .pointer (some ⟨gk, m1 * 64, none⟩) := hR 9 (by omega)
        have h10 : (vs 10) = .agg (vals bl).toArray := hR 10 (by omega)
        clear hR
        simp only [List.range_succ, List.range_zero, List.nil_append, List.cons_append, Roll.putD, Act.put, List.getD_cons_zero, List.getD_cons_succ, List.setIfInBounds_toArray, List.set_cons_zero, List.set_cons_succ, List.drop_succ_cons, List.drop_zero, Dfl6]
        simp only [h0, h1, h2, h3, h4, h5, h6, h7, h8, h9, h10]
        clear h0 h1 h2 h3 h4 h5 h6 h7 h8 h9 h10
        have HI := Lib.hid hI
        have PTH : Hid (p.there gd (k * 64) 64) := Lib.hid (fun j hj => by
          obtain ⟨h1, h2⟩ := PT.out j hj
          exact ⟨by rw [hI.cell (p := ⟨gd, k * 64 + j, none⟩) Hgdq.out (fun h => h)]; exact h1, by rw [hI.frozen (p := ⟨gd, k * 64 + j, none⟩) Hgdq.out (fun h => h)]; exact h2⟩)
        clear hI
        have hkL := HkL.out
        have hLc := HLc.out
        go_wp2_with (refine wpList_store_mid rfl 76 (.tmp 31) (.tmp 30) rfl gd (k * 64) _ rfl rfl (by rw [List.size_toArray, vals_len, Hbl.out]; exact PTH.out) (size64a Hbl.out) (one64 _) ?_)
        go_roundw
        case rel =>
          have hp1 : p.heap[gd]? = some (.cells cur 76 (0, 0)) := HI.out.heap (Hk2.out.heap Hcur.out.1 (fun e => by have := Hgd.out; omega)) (fun h => h)
          obtain ⟨cur', q1, q2, q3⟩ := heap_setCells_own (vals bl) (k * 64) p cur hp1 (by rw [vals_len, Hbl.out, Hcur.out.2.1]; have := Nat.mul_le_mul_right 64 (show k + 1 ≤ cap by omega); omega)
          have KS : Kept (fun j => j = gd) p (p.setCells gd (k * 64) (vals bl)) := Kept.setCells _ _ (Kept.refl _ _) (fun _ => rfl)
          have hrg : Rg (p.setCells gd (k * 64) (vals bl)) w.heap.size gm M f (fun j => left j && !decide (j = (k : Int))) cnt' := (HRg2.out.kept HI.out (fun h => h) (fun h => h)).kept KS (fun e => Hne.out.1 e) (fun e => by have := Hgd.out; omega)
          refine ⟨_, _, _, _, _, _, _, _, _, _, _, _, _, _, _, _, _, _, _, ⟨_, cnt', hrg, fun j hj => HLf.out j (by simp at hj; exact hj.1), (HKr.out.trans ((Hk2.out.mono (T := fun j => j = gd ∨ j = w.heap.size) (fun _ _ e => .inr e)).trans (HI.out.mono (fun _ _ h => h.elim)) (fun _ _ h => h)) (fun j hj e => by omega)).trans KS (fun _ _ h => h), cur', q1, q2.trans Hcur.out.2.1, ?_⟩, rfl⟩
          rw [q3, vals_len, Hbl.out, take_splice _ _ _ _ _ (by rw [vals_len, Hbl.out]) (by have := Nat.mul_le_mul_right 64 (show k + 1 ≤ d.S.length by have := HLe.out; omega); omega) (by rw [Array.length_toList, Hcur.out.2.1]; exact Nat.mul_le_mul_right 64 (by have := HLe.out; omega)), Hcur.out.2.2, ← scells_set (H64.out left) k (by rw [List.length_mapIdx]; have := HLe.out; omega)]
          congr 1
          exact flush_list d.S k left bl Hlk.out Hbs.out
        case measure => rw [(HRg2.out.kept HI.out (fun h => h) (fun h => h) |>.kept ((Kept.setCells (vals bl) (k * 64) (Kept.refl (fun j => j = gd) p) (fun _ => rfl))) (fun e => Hne.out.1 e) (fun e => by have := Hgd.out; omega)).left_eq, HRg.out.left_eq]; exact Hlt.out
end
end Go.Proofs.YthffegfcgmhppaaDoor
namespace Go.Proofs.YthffegfcgmhppaaDoor
open Go.RowKit
set_option linter.unusedSimpArgs false
set_option linter.unusedVariables false
/-- a thing in memory, in some blocks -/
structure Obj where
  at' : (Nat → Prop) → World → Prop
  kept : ∀ {B S : Nat → Prop} {w w' : World}, at' B w → Kept S w w' → (∀ j, j < w.heap.size → B j → ¬ S j) → at' B w'
/-- these things lie apart from each other, in blocks that are newer than w0; nothing of w0 has changed -/
def Lv (w0 w : World) (L : List Obj) : Prop :=
  Below w0.heap.size w0 w ∧ ∃ Bs : List (Nat → Prop), Bs.length = L.length ∧ (∀ (i : Nat) (o : Obj) (B : Nat → Prop), L[i]? = some o → Bs[i]? = some B → o.at' B w ∧ ∀ j, B j → w0.heap.size ≤ j ∧ j < w.heap.size) ∧
    ∀ (i j : Nat) (A B : Nat → Prop), i ≠ j → Bs[i]? = some A → Bs[j]? = some B → ∀ x, A x → ¬ B x
theorem Lv.refl (w : World) : Lv w w [] := ⟨Below.refl _ _, [], rfl, fun _ _ _ h => (by cases h), fun _ _ _ _ _ h => (by cases h)⟩
theorem Lv.args {w0 w : World} {L : List Obj} (h : Lv w0 w L) : Below w0.heap.size w0 w := h.1
theorem Lv.size {w0 w : World} {L : List Obj} (h : Lv w0 w L) : w0.heap.size ≤ w.heap.size := h.1.size
theorem Lv.below {w0 w w' : World} {L : List Obj} (h : Lv w0 w L) (hb : Below w.heap.size w w') : Lv w0 w' L := by
  obtain ⟨h1, Bs, h2, h3, h4⟩ := h
  refine ⟨h1.trans (hb.mono h1.size), Bs, h2, fun i o B hi hB => ?_, h4⟩
  obtain ⟨e1, e2⟩ := h3 i o B hi hB
  exact ⟨o.kept e1 (Kept.of_below (fun _ => False) hb) (fun _ _ _ h => h), fun j hj => ⟨(e2 j hj).1, Nat.lt_of_lt_of_le (e2 j hj).2 hb.size⟩⟩
theorem Lv.cons {w0 w w' : World} {L : List Obj} (h : Lv w0 w L) (hb : Below w.heap.size w w') {o : Obj} {B : Nat → Prop} (ho : o.at' B w') (hB : ∀ j, B j → w.heap.size ≤ j ∧ j < w'.heap.size) : Lv w0 w' (o :: L) := by
  have hsz := h.size
  obtain ⟨k1, k2, k3, k4, k5⟩ := h
  have h' : Lv w0 w' L := Lv.below ⟨k1, k2, k3, k4, k5⟩ hb
  obtain ⟨h1, _⟩ := h'
  refine ⟨h1, B :: k2, by simp [k3], fun i o' B' hi hB' => ?_, fun i j A B' hij hA hB' x hx hx2 => ?_⟩
  · cases i with
    | zero => cases hi; cases hB'; exact ⟨ho, fun j hj => ⟨Nat.le_trans hsz (hB j hj).1, (hB j hj).2⟩⟩
    | succ i =>
      obtain ⟨e1, e2⟩ := k4 i o' B' hi hB'
      exact ⟨o'.kept e1 (Kept.of_below (fun _ => False) hb) (fun _ _ _ h => h), fun j hj => ⟨(e2 j hj).1, Nat.lt_of_lt_of_le (e2 j hj).2 hb.size⟩⟩
  · have old : ∀ (i : Nat) (C : Nat → Prop) (x : Nat), k2[i]? = some C → C x → x < w.heap.size := by
      intro i C x hC hx
      have hi : i < L.length := by rw [← k3]; exact (List.getElem?_eq_some_iff.1 hC).1
      exact ((k4 i L[i] C (List.getElem?_eq_getElem hi) hC).2 x hx).2
    cases i with
    | zero =>
      cases j with
      | zero => exact hij rfl
      | succ j => cases hA; have := old j B' x hB' hx2; have := (hB x hx).1; omega
    | succ i =>
      cases j with
      | zero => cases hB'; have := old i A x hA hx; have := (hB x hx2).1; omega
      | succ j => exact k5 i j A B' (by omega) hA hB' x hx hx2
theorem Lv.get {w0 w : World} {L : List Obj} (h : Lv w0 w L) {i : Nat} {o : Obj} (hi : L[i]? = some o) : ∃ B, o.at' B w ∧ (∀ j, B j → w0.heap.size ≤ j ∧ j < w.heap.size) ∧
    (∀ j o2, j ≠ i → L[j]? = some o2 → ∃ B2, o2.at' B2 w ∧ ∀ x, B2 x → ¬ B x) ∧
    ∀ (w' : World) (o' : Obj) (B' : Nat → Prop), o'.at' B' w' → Kept B w w' → (∀ j, B' j → B j ∨ w.heap.size ≤ j) → (∀ j, B' j → j < w'.heap.size) → Lv w0 w' (L.set i o') := by
  obtain ⟨h1, Bs, h2, h3, h4⟩ := h
  have hil : i < L.length := (List.getElem?_eq_some_iff.1 hi).1
  have hB : Bs[i]? = some Bs[i] := List.getElem?_eq_getElem (by omega)
  obtain ⟨e1, e2⟩ := h3 i o _ hi hB
  refine ⟨Bs[i], e1, e2, fun j o2 hj ho2 => ?_, fun w' o' B' ho' hk hf hs => ⟨?_, Bs.set i B', by simp [h2], fun j o2 B2 hj hB2 => ?_, fun j k A C hjk hA hC x hx hx2 => ?_⟩⟩
  · have hjl : j < L.length := (List.getElem?_eq_some_iff.1 ho2).1
    have hBj : Bs[j]? = some Bs[j] := List.getElem?_eq_getElem (by omega)
    exact ⟨_, (h3 j o2 _ ho2 hBj).1, fun x hx hx2 => h4 j i _ _ hj hBj hB x hx hx2⟩
  · refine h1.trans (hk.below h1.size (fun j hj hb => ?_))
    have := (e2 j hb).1
    omega
  · have hjl : j < L.length := by have := (List.getElem?_eq_some_iff.1 hj).1; simpa using this
    rw [List.getElem?_set] at hj hB2
    by_cases e : i = j
    · subst e
      rw [if_pos rfl, if_pos hil] at hj
      rw [if_pos rfl, if_pos (by omega)] at hB2
      cases hj; cases hB2
      refine ⟨ho', fun x hx => ⟨?_, hs x hx⟩⟩
      rcases hf x hx with hx | hx
      · exact (e2 x hx).1
      · exact Nat.le_trans h1.size hx
    · rw [if_neg e] at hj hB2
      obtain ⟨k1, k2⟩ := h3 j o2 B2 hj hB2
      exact ⟨o2.kept k1 hk (fun x _ hx hx2 => h4 j i _ _ (fun e2 => e e2.symm) hB2 hB x hx hx2), fun x hx => ⟨(k2 x hx).1, Nat.lt_of_lt_of_le (k2 x hx).2 hk.size⟩⟩
  · have old : ∀ (i : Nat) (C : Nat → Prop) (x : Nat), Bs[i]? = some C → C x → x < w.heap.size := by
      intro i C x hC hx
      have hi : i < L.length := by rw [← h2]; exact (List.getElem?_eq_some_iff.1 hC).1
      exact ((h3 i L[i] C (List.getElem?_eq_getElem hi) hC).2 x hx).2
    rw [List.getElem?_set] at hA hC
    by_cases e : i = j
    · subst e
      rw [if_pos rfl, if_pos (by omega)] at hA
      rw [if_neg hjk] at hC
      cases hA
      rcases hf x hx with hx | hx
      · exact h4 _ k _ _ hjk hB hC x hx hx2
      · have := old k C x hC hx2; omega
    · rw [if_neg e] at hA
      by_cases e2 : i = k
      · subst e2
        rw [if_pos rfl, if_pos (by omega)] at hC
        cases hC
        rcases hf x hx2 with hx2 | hx2
        · exact h4 _ j _ _ e hB hA x hx2 hx
        · have := old j A x hA hx; omega
      · rw [if_neg e2] at hC
        exact h4 j k A C hjk hA hC x hx hx2
theorem Lv.tail {w0 w : World} {o : Obj} {L : List Obj} (h : Lv w0 w (o :: L)) : Lv w0 w L := by
  obtain ⟨h1, Bs, h2, h3, h4⟩ := h
  cases Bs with
  | nil => simp at h2
  | cons B Bs => exact ⟨h1, Bs, by simpa using h2, fun i o B hi hB => h3 (i + 1) o B hi hB, fun i j A C hij hA hC => h4 (i + 1) (j + 1) A C (by omega) hA hC⟩
theorem Lv.drop {w0 w : World} : ∀ (n : Nat) {L : List Obj}, Lv w0 w L → Lv w0 w (L.drop n)
  | 0, _, h => h
  | n + 1, [], h => h
  | n + 1, o :: L, h => Lv.drop n h.tail
theorem Lv.weaken {w0 w : World} {L : List Obj} (h : Lv w0 w L) {i : Nat} {o o' : Obj} (hi : L[i]? = some o) (hw : ∀ B, o.at' B w → o'.at' B w) : Lv w0 w (L.set i o') := by
  obtain ⟨B, h1, h2, _, h3⟩ := h.get hi
  exact h3 w o' B (hw B h1) (Kept.refl _ _) (fun j hj => .inl hj) (fun j hj => (h2 j hj).2)
/-- a disk -/
def diskO (g : Nat) (d : DM) : Obj := ⟨fun B w => ∃ gd gm row N, Dk w g gd gm row N d ∧ ∀ j, Blk g gd gm row j → B j, fun {B S w w'} h hk hs => by
  obtain ⟨gd, gm, row, N, h1, h2⟩ := h
  exact ⟨gd, gm, row, N, h1.kept hk (fun j hj => hs j (h1.lt j hj) (h2 j hj)), h2⟩⟩
/-- a slice of bytes -/
def bytesO (v : Value) (l : List UInt8) : Obj := ⟨fun B w => ∃ a c, v = .slice a l.length c ∧ Bs B w a l.length c l, fun {B S w w'} h hk hs => by
  obtain ⟨a, c, h1, h2⟩ := h
  exact ⟨a, c, h1, h2.kept hk hs⟩⟩
/-- a slice of elements that say what survives -/
def tornO (v : Value) (ts : List TM) : Obj := ⟨fun B w => ∃ a c, v = .slice a ts.length c ∧ Ts B w a ts.length c ts, fun {B S w w'} h hk hs => by
  obtain ⟨a, c, h1, h2⟩ := h
  exact ⟨a, c, h1, h2.kept hk hs⟩⟩
theorem Dk.bound {w : World} {g gd gm : Nat} {row : Nat → Option Nat} {N M : Nat} {d : DM} (h : Dk w g gd gm row N d) (hM : d.Ok M) : Dk w g gd gm row M d := ⟨hM, h.self, h.map, h.dom, h.inj, h.apart⟩
section
variable {w0 w : World} {L : List Obj} {g i : Nat} {d : DM}
theorem new_lv (h : Lv w0 w L) (n : Nat) (h1 : 1 ≤ n) (h2 : n ≤ 4096) :
    Calls Tryd.prog 44 #[.int .i64 (n : Int)] w fun e w' => ∃ g, e = .returned (.tuple #[.pointer (some ⟨g, 0, none⟩), .int .i64 0]) ∧ Lv w0 w' (diskO g (DM.new n) :: L) := by
  refine (new_any n w h1 h2).mono ?_
  rintro e w' ⟨g, rfl, ⟨B, ⟨gd, gm, row, hd, hB, hlt⟩, hge⟩, hg, hb⟩
  exact ⟨g, rfl, h.cons hb (B := B) ⟨gd, gm, row, 0, hd, hB⟩ (fun j hj => ⟨hge j hj, hlt j hj⟩)⟩
theorem len_lv (h : Lv w0 w L) (hi : L[i]? = some (diskO g d)) :
    Calls Tryd.prog 52 #[.pointer (some ⟨g, 0, none⟩)] w fun e w' => e = .returned (.int .i64 (d.S.length : Int)) ∧ w = w' := by
  obtain ⟨B, ⟨gd, gm, row, N, hd, _⟩, _⟩ := h.get hi
  exact len_dk hd
theorem on_lv (h : Lv w0 w L) (hi : L[i]? = some (diskO g d)) :
    Calls Tryd.prog 7 #[.pointer (some ⟨g, 0, none⟩)] w fun e w' => e = .returned (.bool d.on) ∧ w = w' := by
  obtain ⟨B, ⟨gd, gm, row, N, hd, _⟩, _⟩ := h.get hi
  exact on_dk hd
theorem Lv.ok (h : Lv w0 w L) (hi : L[i]? = some (diskO g d)) : 1 ≤ d.S.length ∧ d.S.length ≤ 4096 ∧ d.fuse ≤ 9223372036854775807 ∧ ∀ s ∈ d.S, s ≠ [] ∧ ∀ b ∈ s, b.length = 64 := by
  obtain ⟨B, ⟨gd, gm, row, N, hd, _⟩, _⟩ := h.get hi
  exact ⟨hd.ok.1, hd.ok.2.1, hd.ok.2.2.1, fun s hs => ⟨(hd.ok.2.2.2 s hs).1, (hd.ok.2.2.2 s hs).2.2⟩⟩
theorem read_lv (h : Lv w0 w L) (hi : L[i]? = some (diskO g d)) (k : Nat) (hk : k < d.S.length) (ho : d.on = true) :
    Calls Tryd.prog 48 #[.pointer (some ⟨g, 0, none⟩), .int .i64 (k : Int)] w fun e w' => ∃ v, e = .returned (.tuple #[v, .int .i64 0]) ∧ Lv w0 w' (bytesO v (lastB d.S[k]) :: L) := by
  obtain ⟨B, ⟨gd, gm, row, N, hd, _⟩, _⟩ := h.get hi
  refine (read_ok hd k hk ho).mono ?_
  rintro e w' ⟨v, rfl, gb, rfl, hge, hbs, hb⟩
  refine ⟨_, rfl, h.cons hb (B := fun b => b = gb) ⟨_, _, rfl, hbs⟩ ?_⟩
  rintro j rfl
  refine ⟨hge, ?_⟩
  obtain ⟨hl, _, _, _, _, hp⟩ := hbs
  have h64 := (h.ok hi).2.2.2 _ (List.getElem_mem hk)
  have hl64 := h64.2 _ (lastB_mem h64.1)
  obtain ⟨b, off, rfl, _, hr⟩ := hp (by omega)
  exact range_lt hr (by rw [vals_len]; omega)
theorem read_lv_off (h : Lv w0 w L) (hi : L[i]? = some (diskO g d)) (k : Int) (hk : hasB d k = true) (ho : d.on = false) :
    Calls Tryd.prog 48 #[.pointer (some ⟨g, 0, none⟩), .int .i64 k] w fun e w' => e = .returned (.tuple #[.slice none 0 0, .int .i64 10]) ∧ w = w' := by
  obtain ⟨B, ⟨gd, gm, row, N, hd, _⟩, _⟩ := h.get hi
  exact read_off hd k hk ho
theorem read_lv_no (h : Lv w0 w L) (hi : L[i]? = some (diskO g d)) (k : Int) (hk : hasB d k = false) :
    Calls Tryd.prog 48 #[.pointer (some ⟨g, 0, none⟩), .int .i64 k] w fun e w' => e = .returned (.tuple #[.slice none 0 0, .int .i64 5]) ∧ w = w' := by
  obtain ⟨B, ⟨gd, gm, row, N, hd, _⟩, _⟩ := h.get hi
  exact read_no hd k hk
theorem write_lv_off (h : Lv w0 w L) (hi : L[i]? = some (diskO g d)) (a : Option Addr) (c : Nat) (k : Int) (hk : hasB d k = true) (ho : d.on = false) :
    Calls Tryd.prog 49 #[.pointer (some ⟨g, 0, none⟩), .int .i64 k, .slice a 64 c] w fun e w' => e = .returned (.int .i64 10) ∧ w = w' := by
  obtain ⟨B, ⟨gd, gm, row, N, hd, _⟩, _⟩ := h.get hi
  exact write_off hd a c k hk ho
theorem write_lv_no (h : Lv w0 w L) (hi : L[i]? = some (diskO g d)) (a : Option Addr) (c : Nat) (k : Int) (hk : hasB d k = false) :
    Calls Tryd.prog 49 #[.pointer (some ⟨g, 0, none⟩), .int .i64 k, .slice a 64 c] w fun e w' => e = .returned (.int .i64 5) ∧ w = w' := by
  obtain ⟨B, ⟨gd, gm, row, N, hd, _⟩, _⟩ := h.get hi
  exact write_no hd a c k hk
theorem write_lv (h : Lv w0 w L) (hi : L[i]? = some (diskO g d)) {Z : Nat → Prop} {a : Option Addr} {c : Nat} {l : List UInt8} (hB : Bs Z w a 64 c l) (k : Nat) (hk : k < d.S.length) (ho : d.on = true) (hN : d.Ok 100000) :
    Calls Tryd.prog 49 #[.pointer (some ⟨g, 0, none⟩), .int .i64 (k : Int), .slice a 64 c] w fun e w' => e = .returned (.int .i64 0) ∧ Lv w0 w' (L.set i (diskO g (d.write k l))) := by
  obtain ⟨B, ⟨gd, gm, row, N, hd, hBB⟩, hlt, _, hset⟩ := h.get hi
  refine (write_ok (hd.bound hN) hB k hk ho (Nat.le_refl _)).mono ?_
  rintro e w' ⟨rfl, row', hd', hk', hf⟩
  refine ⟨rfl, hset w' _ (fun j => Blk g gd gm row' j) ⟨gd, gm, row', _, hd', fun _ h => h⟩ (hk'.mono (fun j _ hj => hBB j hj)) (fun j hj => (hf j hj).imp (hBB j) id) (fun j hj => hd'.lt j hj)⟩
theorem flush_lv (h : Lv w0 w L) (hi : L[i]? = some (diskO g d)) (ho : d.on = true) :
    Calls Tryd.prog 29 #[.pointer (some ⟨g, 0, none⟩)] w fun e w' => e = .returned (.int .i64 0) ∧ Lv w0 w' (L.set i (diskO g d.flush)) := by
  obtain ⟨B, ⟨gd, gm, row, N, hd, hBB⟩, hlt, _, hset⟩ := h.get hi
  refine (flush_ok hd ho).mono ?_
  rintro e w' ⟨rfl, hd', hk'⟩
  refine ⟨rfl, hset w' _ (fun j => Blk g gd gm (fun _ => none) j) ⟨gd, gm, _, _, hd', fun _ h => h⟩ (hk'.mono (fun j _ hj => hBB j hj)) ?_ (fun j hj => hd'.lt j hj)⟩
  rintro j (e | e | e | ⟨_, e⟩)
  · exact .inl (hBB j (.inl e))
  · exact .inl (hBB j (.inr (.inl e)))
  · exact .inl (hBB j (.inr (.inr (.inl e))))
  · cases e
theorem flush_lv_off (h : Lv w0 w L) (hi : L[i]? = some (diskO g d)) (ho : d.on = false) :
    Calls Tryd.prog 29 #[.pointer (some ⟨g, 0, none⟩)] w fun e w' => e = .returned (.int .i64 10) ∧ w = w' := by
  obtain ⟨B, ⟨gd, gm, row, N, hd, hBB⟩, hlt, _, hset⟩ := h.get hi
  exact flush_off hd ho
theorem fuse_lv (h : Lv w0 w L) (hi : L[i]? = some (diskO g d)) (n : Int) (h1 : -9223372036854775808 ≤ n) (h2 : n ≤ 9223372036854775807) :
    Calls Tryd.prog 5 #[.pointer (some ⟨g, 0, none⟩), .int .i64 n] w fun e w' => e = .returned (.tuple #[]) ∧ Lv w0 w' (L.set i (diskO g (d.setFuse n))) := by
  obtain ⟨B, ⟨gd, gm, row, N, hd, hBB⟩, hlt, _, hset⟩ := h.get hi
  refine (fuse_dk hd n h1 h2).mono ?_
  rintro e w' ⟨rfl, hd', hk'⟩
  exact ⟨rfl, hset w' _ (fun j => Blk g gd gm row j) ⟨gd, gm, row, _, hd', fun _ h => h⟩ (hk'.mono (fun j _ hj => hBB j (.inl hj))) (fun j hj => .inl (hBB j hj)) (fun j hj => hd'.lt j hj)⟩
theorem restart_lv (h : Lv w0 w L) (hi : L[i]? = some (diskO g d)) {Z : Nat → Prop} {a : Option Addr} {n c : Nat} {ts : List TM} (hT : Ts Z w a n c ts) (hZ : (∀ x, Z x → x < w0.heap.size) ∨ ∃ j v, j ≠ i ∧ L[j]? = some (tornO v ts) ∧ v = .slice a n c) :
    Calls Tryd.prog 13 #[.pointer (some ⟨g, 0, none⟩), .slice a n c] w fun e w' => e = .returned (.tuple #[]) ∧ Lv w0 w' (L.set i (diskO g (d.restart ts))) := by
  obtain ⟨B, ⟨gd, gm, row, N, hd, hBB⟩, hlt, hoth, hset⟩ := h.get hi
  have key : ∃ Z', Ts Z' w a n c ts ∧ ∀ j, Z' j → ¬ Blk g gd gm row j := by
    rcases hZ with hZ | ⟨j, v, hj, hv, rfl⟩
    · exact ⟨Z, hT, fun j hz hb => by have := hZ j hz; have := (hlt j (hBB j hb)).1; omega⟩
    · obtain ⟨B2, ⟨a2, c2, e, hT2⟩, hne⟩ := hoth j _ hj hv
      have e2 := e
      injection e2 with e3 e4 e5
      subst e3 e5
      rw [hT.1] at hT2
      exact ⟨B2, hT2, fun x hx hb => hne x hx (hBB x hb)⟩
  obtain ⟨Z', hT', hsep⟩ := key
  refine (restart_dk hd hT' hsep).mono ?_
  rintro e w' ⟨rfl, hd', hk'⟩
  refine ⟨rfl, hset w' _ (fun j => Blk g gd gm (fun _ => none) j) ⟨gd, gm, _, _, hd', fun _ h => h⟩ (hk'.mono (fun j _ hj => hBB j hj)) ?_ (fun j hj => hd'.lt j hj)⟩
  rintro j (e | e | e | ⟨_, e⟩)
  · exact .inl (hBB j (.inl e))
  · exact .inl (hBB j (.inr (.inl e)))
  · exact .inl (hBB j (.inr (.inr (.inl e))))
  · cases e
theorem Ts.nil (w : World) : Ts (fun _ => False) w none 0 0 [] := ⟨rfl, Sl.empty _ _ _ _ _ (Nat.zero_le _) (fun _ => rfl), fun _ h => (by cases h)⟩
theorem restart_nil_lv (h : Lv w0 w L) (hi : L[i]? = some (diskO g d)) :
    Calls Tryd.prog 13 #[.pointer (some ⟨g, 0, none⟩), .slice none 0 0] w fun e w' => e = .returned (.tuple #[]) ∧ Lv w0 w' (L.set i (diskO g (d.restart []))) :=
  restart_lv h hi (Ts.nil w) (.inl (fun _ h => h.elim))
/-- bytes of a thing -/
theorem Lv.bytes (h : Lv w0 w L) {v : Value} {l : List UInt8} (hi : L[i]? = some (bytesO v l)) : ∃ Z a c, v = .slice a l.length c ∧ Bs Z w a l.length c l := by
  obtain ⟨B, ⟨a, c, h1, h2⟩, _⟩ := h.get hi
  exact ⟨B, a, c, h1, h2⟩
end
end Go.Proofs.YthffegfcgmhppaaDoor
namespace Go.Proofs.YthffegfcgmhppaaDoor
open Go.RowKit
set_option linter.unusedSimpArgs false
set_option linter.unusedVariables false
theorem Bs.cells {D : Nat → Prop} {w : World} {a : Option Addr} {n c : Nat} {l : List UInt8} (h : Bs D w a n c l) (hn : 0 < n) : ∃ b off, D b ∧ b < w.heap.size ∧ a = some ⟨b, off, none⟩ ∧ ∀ i (hi : i < l.length), w.cell? ⟨b, off + i, none⟩ = some (.int .u8 (l[i].toNat : Int)) := by
  obtain ⟨h1, h2, h3, h4, h5, h6⟩ := h
  obtain ⟨b, off, hD, ha, hr⟩ := h6 hn
  exact ⟨b, off, hD, range_lt hr (by rw [vals_len]; omega), ha, fun i hi => hr i _ (by simp [vals, hi])⟩
theorem u8_under : Tryd.prog.underlying 5 = some (.int .u8) := Tryd.underlying5
theorem str_under : Tryd.prog.underlying 9 = some .string := Tryd.underlying9
/-- a slice of bytes as a string -/
theorem run_str {D : Nat → Prop} {w : World} {a : Option Addr} {n c : Nat} {l : List UInt8} (h : Bs D w a n c l) :
    (convert 34 9 (.slice a n c)).run Tryd.prog w = .ok (.string ⟨l.toArray⟩) w := by
  obtain ⟨h1, h2, h3, h4, h5, h6⟩ := h
  subst h1
  cases a with
  | none =>
    have := h5 rfl
    have hl : l = [] := List.eq_nil_of_length_eq_zero (by omega)
    subst hl
    exact run_convert_bytes_nil w 34 5 Tryd.underlying34 u8_under _ _ _ str_under
  | some ad =>
    refine run_convert_bytes_back w 34 9 5 ad c l Tryd.underlying34 u8_under str_under (fun j hj => ?_)
    obtain ⟨b, off, _, ha, hc⟩ := h6 (by omega)
    obtain rfl : ad = ⟨b, off, none⟩ := Option.some.inj ha
    rw [Addr.add_mid, hc j (.int .u8 (l[j].toNat : Int)) (by simp [vals, hj])]
/-- new bytes: nobody else's -/
def Made (w : World) (v : Value) (l : List UInt8) (w' : World) : Prop :=
  ∃ k, Own w' 5 1 k v l.length (vals l) ∧ (∀ j, k = some j → w.heap.size ≤ j) ∧ Below w.heap.size w w'
theorem Own.bs {w : World} {k : Option Nat} {v : Value} {l : List UInt8} (h : Own w 5 1 k v l.length (vals l)) : ∃ a c, v = .slice a l.length c ∧ Bs (fun b => k = some b) w a l.length c l := by
  obtain ⟨a, c, hv, hs⟩ := h.sl
  exact ⟨a, c, hv, rfl, hs⟩
theorem Bs.src {P : Program} {D : Nat → Prop} {w : World} {a : Option Addr} {n c : Nat} {l : List UInt8} {tx e' : TypeId} (h : Bs D w a n c l) (hk : P.underlying tx = some (.slice e')) : Src P 1 tx (.slice a n c) n (vals l) w := h.2.src hk (vals_one l)
theorem Made.bs {w w' : World} {v : Value} {l : List UInt8} (h : Made w v l w') : ∃ a c, v = .slice a l.length c ∧ Bs (fun b => w.heap.size ≤ b) w' a l.length c l := by
  obtain ⟨k, ho, hf, hb⟩ := h
  obtain ⟨a, c, hv, hs⟩ := ho.bs
  exact ⟨a, c, hv, hs.dom hf⟩
theorem Is.cells {D : Nat → Prop} {w : World} {a : Option Addr} {n c : Nat} {l : List Int} (h : Is D w a n c l) (hn : 0 < n) : ∃ b off, D b ∧ b < w.heap.size ∧ a = some ⟨b, off, none⟩ ∧ ∀ i (hi : i < l.length), w.cell? ⟨b, off + i, none⟩ = some (.int .i64 l[i]) := by
  obtain ⟨h1, h2, h3, h4, h5, h6⟩ := h
  obtain ⟨b, off, hD, ha, hr⟩ := h6 hn
  exact ⟨b, off, hD, range_lt hr (by rw [ivals_len]; omega), ha, fun i hi => hr i _ (by simp [ivals, hi])⟩
theorem ret_int {k : IntKind} {a b : Int} (h : a = b) : Ending.returned (.int k a) = .returned (.int k b) := by rw [h]
theorem vals_take (l : List UInt8) (n : Nat) : vals (l.take n) = (vals l).take n := by simp [vals, List.map_take]
theorem Bs.upto {D : Nat → Prop} {w : World} {a : Option Addr} {n c : Nat} {l : List UInt8} (h : Bs D w a n c l) (F : Nat) (hF : F ≤ n) : Bs D w a F c (l.take F) := by
  obtain ⟨h1, h2, h3, h4, h5, h6⟩ := h
  refine ⟨by rw [List.length_take]; omega, ?_, by omega, h4, h5, fun hp => ?_⟩
  · rw [vals_len, List.length_take]; omega
  · obtain ⟨b, off, hD, ha, hr⟩ := h6 (by omega)
    refine ⟨b, off, hD, ha, fun j v hv => hr j v ?_⟩
    rw [vals_take, List.getElem?_take] at hv
    split at hv
    · exact hv
    · cases hv
def FreshI (w : World) (v : Value) (l : List Int) (w' : World) : Prop := ∃ kk, Own w' 3 1 kk v l.length (ivals l) ∧ ∀ j, kk = some j → w.heap.size ≤ j
/-- n modulo most, as the laws reckon it -/
def around (n most : Int) : Int := if n < 0 then -(n + 1) % most else n % most
theorem around_bd (n most : Int) (h : 0 < most) : 0 ≤ around n most ∧ around n most < most := by
  unfold around
  split
  · exact ⟨Int.emod_nonneg _ (by omega), Int.emod_lt_of_pos _ h⟩
  · exact ⟨Int.emod_nonneg _ (by omega), Int.emod_lt_of_pos _ h⟩
theorem around_any (n most : Int) (w : World) (h1 : -9223372036854775808 ≤ n) (h2 : n ≤ 9223372036854775807) (h3 : 0 < most) (h4 : most ≤ 9223372036854775807) :
    Calls Tryd.prog 6 #[.int .i64 n, .int .i64 most] w fun e w' => e = .returned (.int .i64 (around n most)) ∧ w = w' := by
  by_cases hn : n < 0
  · have hw1 : IntKind.i64.wrap (n + 1) = n + 1 := i64_id _ (by omega) (by omega)
    have hw2 : IntKind.i64.wrap (-(n + 1)) = -(n + 1) := i64_id _ (by omega) (by omega)
    have HA : Hid (around n most = -(n + 1) % most) := Lib.hid (by unfold around; rw [if_pos hn])
    go_enter Tryd.func6, Tryd.ntmps6
    go_wp2
    go_ret
    have e : -(n + 1).tmod most = -(n + 1) % most := by rw [← Int.neg_tmod, Int.tmod_eq_emod_of_nonneg (by omega)]
    refine ⟨ret_int ?_, rfl⟩
    rw [HA.out, ← e]
  · have HA : Hid (around n most = n % most) := Lib.hid (by unfold around; rw [if_neg hn])
    go_enter Tryd.func6, Tryd.ntmps6
    go_wp2
    go_ret
    exact ⟨ret_int (by rw [HA.out]), rfl⟩
set_option maxRecDepth 100000 in
set_option maxHeartbeats 400000 in
theorem few_any (D : Nat → Prop) (a : Option Addr) (n c most : Nat) (l : List UInt8) (w : World) (hB : Bs D w a n c l) (hm : most ≤ 1000000000) :
    Calls Tryd.prog 8 #[.slice a n c, .int .i64 (most : Int)] w fun e w' => ∃ v, e = .returned v ∧ Made w v (l.take most) w' := by
  obtain ⟨i0, hi, hz0, hz1, hz2⟩ := info_parts info5
  have hc1 : n ≤ c := hB.2.2.1
  have hc2 : c ≤ 9223372036854775807 := hB.2.2.2.1
  have HL := Lib.hid hB.1
  by_cases h : n ≤ most
  · have HU := Lib.hid (hB.upto n (Nat.le_refl _))
    have e1 : min (n : Int) (most : Int) = (n : Int) := by omega
    clear hB
    go_enter Tryd.func8, Tryd.ntmps8
    go_wp2_with (at_builtin; refine wpList_append_any _ rfl (.tmp 6) (.tmp 12) 34 34 rfl 5 i0 (.int .u8 0) 1 1 Tryd.underlying34 hi hz0 hz1 hz2 rfl none _ 0 [] rfl (Own.nil w _ _) n (vals (l.take n)) (HU.out.src Tryd.underlying34) (by unfold maxLen; omega) (by omega) ?_)
    intro k' v' w' ho hf hK hn
    have R : Made w v' (l.take most) w' := ⟨k', by
      have e2 : l.take most = l.take n := by rw [List.take_of_length_le (by have := HL.out; omega), List.take_of_length_le (by have := HL.out; omega)]
      rw [e2, HU.out.1]; exact ho, fun j hj => hf j hj, hK.below (Nat.le_refl _) (fun j _ h => by cases h)⟩
    have HR := Lib.hid R
    clear R ho hf hK hn
    go_wp2
    go_ret
    exact ⟨_, rfl, HR.out⟩
  · have HU := Lib.hid (hB.upto most (by omega))
    have e1 : min (n : Int) (most : Int) = (most : Int) := by omega
    clear hB
    go_enter Tryd.func8, Tryd.ntmps8
    go_wp2_with (at_builtin; refine wpList_append_any _ rfl (.tmp 6) (.tmp 12) 34 34 rfl 5 i0 (.int .u8 0) 1 1 Tryd.underlying34 hi hz0 hz1 hz2 rfl none _ 0 [] rfl (Own.nil w _ _) most (vals (l.take most)) (HU.out.src Tryd.underlying34) (by unfold maxLen; omega) (by omega) ?_)
    intro k' v' w' ho hf hK hn
    have R : Made w v' (l.take most) w' := ⟨k', by rw [HU.out.1]; exact ho, fun j hj => hf j hj, hK.below (Nat.le_refl _) (fun j _ h => by cases h)⟩
    have HR := Lib.hid R
    clear R ho hf hK hn
    go_wp2
    go_ret
    exact ⟨_, rfl, HR.out⟩
theorem ivals_take (l : List Int) (n : Nat) : ivals (l.take n) = (ivals l).take n := by simp [ivals, List.map_take]
theorem Is.upto {D : Nat → Prop} {w : World} {a : Option Addr} {n c : Nat} {l : List Int} (h : Is D w a n c l) (F : Nat) (hF : F ≤ n) : Is D w a F c (l.take F) := by
  obtain ⟨h1, h2, h3, h4, h5, h6⟩ := h
  refine ⟨by rw [List.length_take]; omega, ?_, by omega, h4, h5, fun hp => ?_⟩
  · rw [ivals_len, List.length_take]; omega
  · obtain ⟨b, off, hD, ha, hr⟩ := h6 (by omega)
    refine ⟨b, off, hD, ha, fun j v hv => hr j v ?_⟩
    rw [ivals_take, List.getElem?_take] at hv
    split at hv
    · exact hv
    · cases hv
theorem Is.src {P : Program} {D : Nat → Prop} {w : World} {a : Option Addr} {n c : Nat} {l : List Int} {tx e' : TypeId} (h : Is D w a n c l) (hk : P.underlying tx = some (.slice e')) : Src P 1 tx (.slice a n c) n (ivals l) w := h.2.src hk (ivals_one l)
/-- new numbers, nothing else changed -/
def MadeI (w : World) (v : Value) (l : List Int) (w' : World) : Prop := FreshI w v l w' ∧ Below w.heap.size w w'
end Go.Proofs.YthffegfcgmhppaaDoor
namespace Go.Proofs.YthffegfcgmhppaaDoor
open Go.RowKit
set_option linter.unusedSimpArgs false
set_option linter.unusedVariables false
theorem Lv.made {w0 w w' : World} {L : List Obj} (h : Lv w0 w L) {v : Value} {l : List UInt8} (hm : Made w v l w') : Lv w0 w' (bytesO v l :: L) := by
  obtain ⟨k, ho, hf, hb⟩ := hm
  obtain ⟨a, c, hv, hs⟩ := ho.bs
  exact h.cons hb (B := fun b => k = some b) ⟨a, c, hv, hs⟩ (fun j hj => ⟨hf j hj, ho.lt j hj⟩)
theorem u8_of (z : Int) (h0 : 0 ≤ z) (h1 : z < 256) : ∃ x : UInt8, z = (x.toNat : Int) := ⟨UInt8.ofNat z.toNat, by rw [UInt8.toNat_ofNat']; omega⟩
theorem u8_wrap (z : Int) : ∃ x : UInt8, IntKind.u8.wrap z = (x.toNat : Int) := by
  refine u8_of _ ?_ ?_
  · rw [IntKind.wrap_u8]; omega
  · rw [IntKind.wrap_u8]; omega
end Go.Proofs.YthffegfcgmhppaaDoor
namespace Go.Proofs.YthffegfcgmhppaaDoor
open Go.RowKit
set_option linter.unusedSimpArgs false
set_option linter.unusedVariables false
theorem around_nat (n most : Int) (h : 0 < most) : ∃ r : Nat, around n most = (r : Int) ∧ (r : Int) < most := by
  have := around_bd n most h
  exact ⟨(around n most).toNat, by omega, by omega⟩
/-- 64 equal bytes -/
def rep (c : UInt8) : List UInt8 := List.replicate 64 c
section
variable {w0 w : World} {L : List Obj} {g i : Nat} {d : DM}
/-- how many sectors a disk is made with -/
def secs (n : Int) : Nat := 1 + (around n 16).toNat
theorem secs_bd (n : Int) : 1 ≤ secs n ∧ secs n ≤ 16 := by
  have := around_bd n 16 (by omega)
  unfold secs
  omega
theorem read_w (h : Lv w0 w L) (hi : L[i]? = some (diskO g d)) (k : Nat) (hk : k < d.S.length) (ho : d.on = true) :
    Calls Tryd.prog 48 #[.pointer (some ⟨g, 0, none⟩), .int .i64 (k : Int)] w fun e w' => ∃ a c, e = .returned (.tuple #[.slice a 64 c, .int .i64 0]) ∧ Lv w0 w' (bytesO (.slice a 64 c) (lastB d.S[k]) :: L) := by
  have h64 := (h.ok hi).2.2.2 _ (List.getElem_mem hk)
  have hl := h64.2 _ (lastB_mem h64.1)
  refine (read_lv h hi k hk ho).mono ?_
  rintro e w' ⟨v, rfl, hl2⟩
  obtain ⟨Z, a, c, rfl, hb⟩ := hl2.bytes (i := 0) rfl
  rw [hl] at hl2 ⊢
  exact ⟨a, c, rfl, hl2⟩
theorem Lv.bs {a : Option Addr} {n c : Nat} {l : List UInt8} (h : Lv w0 w L) (hi : L[i]? = some (bytesO (.slice a n c) l)) : ∃ Z, Bs Z w a n c l := by
  obtain ⟨Z, a', c', e, hb⟩ := h.bytes hi
  injection e with e1 e2 e3
  subst e1 e2 e3
  exact ⟨Z, hb⟩
end
def q0 : DM := DM.new 2
def q1 : DM := q0.write 1 (rep 7)
def q2 : DM := q1.flush
def q3 : DM := q2.write 1 (rep 8)
def q4 : DM := q3.write 1 (rep 9)
def q5 : DM := q4.restart [⟨1, 1, 10⟩]
def c1 : DM := q4.restart []
def c2 : DM := c1.setFuse 1
def c3 : DM := c2.write 0 (rep 1)
theorem rep_len (c : UInt8) : (rep c).length = 64 := List.length_replicate
theorem okq0 : q0.Ok 0 := DM.new_ok (by omega) (by omega)
theorem okq1 : q1.Ok 1 := DM.write_ok okq0 (rep_len 7)
theorem okq2 : q2.Ok 0 := DM.flush_ok okq1
theorem okq3 : q3.Ok 1 := DM.write_ok okq2 (rep_len 8)
theorem okq4 : q4.Ok 2 := DM.write_ok okq3 (rep_len 9)
theorem okc1 : c1.Ok 0 := DM.restart_ok okq4 []
theorem c2_fuse : c2.fuse = 1 := by kernel_rfl
theorem okc2 : c2.Ok 100000 := DM.Ok.mono (N := 0) ⟨okc1.1, okc1.2.1, by rw [c2_fuse]; omega, okc1.2.2.2⟩ (by omega)
theorem lenq0 : q0.S.length = 2 := by kernel_rfl
theorem lenq1 : q1.S.length = 2 := by kernel_rfl
theorem lenq2 : q2.S.length = 2 := by kernel_rfl
theorem lenq3 : q3.S.length = 2 := by kernel_rfl
theorem lenq4 : q4.S.length = 2 := by kernel_rfl
theorem lenq5 : q5.S.length = 2 := by kernel_rfl
theorem lenc1 : c1.S.length = 2 := by kernel_rfl
theorem lenc2 : c2.S.length = 2 := by kernel_rfl

theorem q4_last (h : 1 < q4.S.length) : lastB (q4.S[1]'h) = rep 9 := by kernel_rfl
theorem c1_last (h : 1 < c1.S.length) : lastB (c1.S[1]'h) = rep 7 := by kernel_rfl
def bl5 : List UInt8 := (rep 9).take 10 ++ (rep 8).drop 10
theorem q5_last (h : 1 < q5.S.length) : lastB (q5.S[1]'h) = bl5 := by kernel_rfl
theorem bl5_len : bl5.length = 64 := by kernel_rfl
theorem bl5_9 (h : 9 < bl5.length) : bl5[9] = 9 := by kernel_rfl
theorem bl5_10 (h : 10 < bl5.length) : bl5[10] = 8 := by kernel_rfl
def tn1 : Value := .slice none 0 0
theorem run_torn1 (W : World) : (Instr.build 73 #[(0, .int .i64 1), (1, .int .i64 1), (2, .int .i64 10)]).run Tryd.prog W = .ok (.agg #[.int .i64 1, .int .i64 1, .int .i64 10]) W := by kernel_rfl
theorem run_torn2 (W : World) : (Instr.buildSlice 42 1 #[(0, .agg #[.int .i64 1, .int .i64 1, .int .i64 10])]).run Tryd.prog W = .ok (.slice (some ⟨W.heap.size, 0, none⟩) 1 1) (W.alloc (.cells #[.int .i64 1, .int .i64 1, .int .i64 10] 73)) := by kernel_rfl
theorem torn1_lv {w0 w : World} {L : List Obj} (h : Lv w0 w L) : Lv w0 (w.alloc (.cells #[.int .i64 1, .int .i64 1, .int .i64 10] 73)) (tornO (.slice (some ⟨w.heap.size, 0, none⟩) 1 1) [⟨1, 1, 10⟩] :: L) := by
  refine h.cons ((Below.refl _ _).alloc (Nat.le_refl _) _) (B := fun b => b = w.heap.size) ⟨some ⟨w.heap.size, 0, none⟩, 1, rfl, rfl, ⟨rfl, Nat.le_refl _, by unfold maxLen; decide, (fun h => by cases h), fun _ => ⟨_, 0, rfl, rfl, ?_⟩⟩, ?_⟩ ?_
  · exact range_row (l := [.int .i64 1, .int .i64 1, .int .i64 10]) (heap_new rfl)
  · intro t ht
    rw [List.mem_singleton.1 ht]
    unfold TOk; decide
  · rintro j rfl
    exact ⟨Nat.le_refl _, by simp⟩
theorem Lv.ts {w0 w : World} {L : List Obj} {i : Nat} {a : Option Addr} {n c : Nat} {ts : List TM} (h : Lv w0 w L) (hi : L[i]? = some (tornO (.slice a n c) ts)) : ∃ Z, Ts Z w a n c ts := by
  obtain ⟨B, ⟨a', c', e, hb⟩, _⟩ := h.get hi
  injection e with e1 e2 e3
  subst e1 e2 e3
  exact ⟨B, hb⟩
end Go.Proofs.YthffegfcgmhppaaDoor
namespace Go.Proofs.YthffegfcgmhppaaDoor
open Go.ChangeShapes Go.WideShapes Go.ChangeAt Go.RowKit
set_option linter.unusedSimpArgs false
set_option linter.unusedVariables false
theorem own : ownKnob Tryd.prog.godebug = none := by kernel_rfl
theorem laidOut : laidOutB Tryd.prog = true := by kernel_rfl
theorem cells1b : Tryd.prog.cellsOf 5 = 1 := by kernel_rfl
theorem cells1i : Tryd.prog.cellsOf 3 = 1 := by kernel_rfl
theorem cells3t : Tryd.prog.cellsOf 73 = 3 := by kernel_rfl
/-- numbers that fit -/
def Ok64 (l : List Int) : Prop := ∀ x ∈ l, -9223372036854775808 ≤ x ∧ x ≤ 9223372036854775807
/-- an operation of the laws -/
structure OM where
  kind : Int
  k : Int
  n : Int
  ba : Option Addr
  bn : Nat
  bc : Nat
  b : List UInt8
  la : Option Addr
  ln : Nat
  lc : Nat
  l : List TM
def OM.cells (m : OM) : List Value := [.int .i64 m.kind, .int .i64 m.k, .int .i64 m.n, .slice m.ba m.bn m.bc, .slice m.la m.ln m.lc]
theorem OM.cells_len (m : OM) : m.cells.length = 5 := rfl
def OOk (D : Nat → Prop) (w : World) (m : OM) : Prop := (-9223372036854775808 ≤ m.kind ∧ m.kind ≤ 9223372036854775807) ∧ (-9223372036854775808 ≤ m.k ∧ m.k ≤ 9223372036854775807) ∧ (-9223372036854775808 ≤ m.n ∧ m.n ≤ 9223372036854775807) ∧ Bs D w m.ba m.bn m.bc m.b ∧ Ts D w m.la m.ln m.lc m.l
def ocells (ms : List OM) : List Value := ms.flatMap OM.cells
theorem ocells_len (ms : List OM) : (ocells ms).length = ms.length * 5 := by
  unfold ocells
  induction ms with
  | nil => rfl
  | cons m r ih => rw [List.flatMap_cons, List.length_append, OM.cells_len, ih, List.length_cons]; omega
theorem tcells_len (ts : List TM) : (tcells ts).length = ts.length * 3 := by
  unfold tcells
  induction ts with
  | nil => rfl
  | cons m r ih => rw [List.flatMap_cons, List.length_append, ih, List.length_cons, List.length_cons, List.length_cons, List.length_cons, List.length_nil]; omega
theorem ocells_get (ms : List OM) (i j : Nat) (hi : i < ms.length) (hj : j < 5) : (ocells ms)[i * 5 + j]? = ms[i].cells[j]? := by
  unfold ocells
  induction ms generalizing i with
  | nil => simp at hi
  | cons m r ih =>
    rw [List.flatMap_cons]
    cases i with
    | zero =>
      rw [List.getElem?_append_left (by rw [OM.cells_len]; omega), Nat.zero_mul, Nat.zero_add]
      rfl
    | succ i =>
      rw [List.getElem?_append_right (by rw [OM.cells_len]; omega), show (i + 1) * 5 + j - m.cells.length = i * 5 + j by rw [OM.cells_len]; omega, ih i (by simpa using hi)]
      rfl
/-- a slice of operations -/
def Ops (D : Nat → Prop) (w : World) (a : Option Addr) (n c : Nat) (ms : List OM) : Prop := ms.length = n ∧ Sl D w a n c (ocells ms) 5 ∧ ∀ m ∈ ms, OOk D w m
/-- the blocks that were there -/
def Old (W : World) (b : Nat) : Prop := b < W.heap.size
theorem Sl.of_cells {W : World} {ad : Addr} {n c : Nat} {xs : List Value} {size : Nat} (hz : 0 < size) (hl : xs.length = n * size) (hn : n ≤ c) (hm : c ≤ maxLen) (hc : ∀ j u, xs[j]? = some u → W.cell? (ad.add j) = some u) : Sl (Old W) W (some ad) n c xs size := by
  refine ⟨hl, hn, hm, (fun h => by cases h), fun hp => ?_⟩
  obtain ⟨ab, ao, spot⟩ := ad
  have h0 : xs[0]? = some (xs[0]'(by rw [hl]; exact Nat.mul_pos hp hz)) := List.getElem?_eq_getElem _
  have hspot : spot = none := by simpa [Addr.add] using World.cell?_spot (hc 0 _ h0)
  subst hspot
  have hr : W.rangeAt ab ao xs := fun j u hu => by have := hc j u hu; rwa [Addr.add_mid] at this
  exact ⟨ab, ao, range_lt hr (by rw [hl]; exact Nat.mul_pos hp hz), rfl, hr⟩
section
variable {H : Type} {enc : TypeId × Value → H} {W : World} {base : Nat} {held : Bool}
theorem ints_of_trod {fuel : Nat} {cs : List Value} {x : DataW H × List MemPlace} (h : DataW.trod enc Tryd.prog W base (fun _ => true) held fuel 24 cs = some x) : ∃ a n c l, cs = [.slice a n c] ∧ Is (Old W) W a n c l ∧ Ok64 l := by
  rcases open_ints Tryd.underlying24 Tryd.underlying3 cells1i h with ⟨hcs, hx⟩ | ⟨a, n, c, zs, hcs, _, hl, hm, hz, hx, hcell, hwz⟩
  · exact ⟨none, 0, 0, [], hcs, ⟨rfl, Sl.empty _ _ _ _ _ (Nat.zero_le _) (fun _ => rfl)⟩, fun _ h => by cases h⟩
  · simp only [if_true] at hz
    refine ⟨some a, n, c, zs.take n, hcs, ⟨by rw [List.length_take]; omega, Sl.of_cells (by decide) (by rw [ivals_len, List.length_take]; omega) hl hm fun j u hu => ?_⟩, fun x hx => bounds_i64 (hwz x (List.mem_of_mem_take hx))⟩
    rw [ivals_take, List.getElem?_take] at hu
    split at hu
    · rename_i hj
      have hjz : j < zs.length := by omega
      rw [hcell j hjz]
      rw [← hu]
      simp [ivals, List.getD, hjz]
    · cases hu
theorem bytes_of_trod {fuel : Nat} {cs : List Value} {x : DataW H × List MemPlace} (h : DataW.trod enc Tryd.prog W base (fun _ => true) held fuel 34 cs = some x) : ∃ a n c l, cs = [.slice a n c] ∧ Bs (Old W) W a n c l := by
  rcases open_ints Tryd.underlying34 Tryd.underlying5 cells1b h with ⟨hcs, hx⟩ | ⟨a, n, c, zs, hcs, _, hl, hm, hz, hx, hcell, hwz⟩
  · exact ⟨none, 0, 0, [], hcs, rfl, Sl.empty _ _ _ _ _ (Nat.zero_le _) (fun _ => rfl)⟩
  · simp only [if_true] at hz
    refine ⟨some a, n, c, (zs.take n).map fun n => UInt8.ofNat n.toNat, hcs, by simp; omega, Sl.of_cells (by decide) (by rw [vals_len]; simp; omega) hl hm fun j u hu => ?_⟩
    have hj : j < n := by
      have := (List.getElem?_eq_some_iff.1 hu).1
      rw [vals_len] at this
      simp at this
      omega
    have hjz : j < zs.length := by omega
    have hb := bounds_u8 (hwz _ (List.getElem_mem hjz))
    rw [hcell j hjz, ← hu]
    simp only [vals, List.map_map, List.getElem?_map, List.getElem?_take, if_pos hj, List.getElem?_eq_getElem hjz, Option.map_some, Function.comp, List.getD, Option.getD_some]
    congr 2
    simp only [UInt8.toNat_ofNat']
    omega
set_option maxRecDepth 100000 in
theorem torn_of_trod {fuel : Nat} {cs : List Value} {x : DataW H × List MemPlace} (h : DataW.trod enc Tryd.prog W base (fun _ => true) held fuel 73 cs = some x) : ∃ m : TM, cs = [.int .i64 m.sector, .int .i64 m.writes, .int .i64 m.bytes] ∧ TOk m := by
  obtain ⟨ys, n, _, _, hlen, hyl, hf⟩ := DataW.trod_struct Tryd.underlying73 h
  rw [cells3t] at hlen
  match cs, hlen with
  | [c0, c1, c2], _ =>
    match ys, hyl with
    | [y0, y1, y2], _ =>
      have h0 : DataW.trod enc Tryd.prog W base (fun _ => true) held n 3 [c0] = some y0 := hf 0 _ rfl
      have h1 : DataW.trod enc Tryd.prog W base (fun _ => true) held n 3 [c1] = some y1 := hf 1 _ rfl
      have h2 : DataW.trod enc Tryd.prog W base (fun _ => true) held n 3 [c2] = some y2 := hf 2 _ rfl
      obtain ⟨i0, e0, _, w0⟩ := DataW.trod_int Tryd.underlying3 h0
      obtain ⟨i1, e1, _, w1⟩ := DataW.trod_int Tryd.underlying3 h1
      obtain ⟨i2, e2, _, w2⟩ := DataW.trod_int Tryd.underlying3 h2
      cases e0; cases e1; cases e2
      exact ⟨⟨i0, i1, i2⟩, rfl, bounds_i64 w0⟩
set_option maxRecDepth 100000 in
theorem torns_of_trod {fuel : Nat} {cs : List Value} {x : DataW H × List MemPlace} (h : DataW.trod enc Tryd.prog W base (fun _ => true) held fuel 42 cs = some x) : ∃ a n c ts, cs = [.slice a n c] ∧ Ts (Old W) W a n c ts := by
  rcases Go.Deep.open_slice Tryd.underlying42 h with ⟨hcs, hx⟩ | ⟨a, n, c, m, fu, D, Pl, hcs, _, hl, hm, hmm, hx, hi⟩
  · exact ⟨none, 0, 0, [], hcs, rfl, Sl.empty _ _ _ _ _ (Nat.zero_le _) (fun _ => rfl), fun _ h => by cases h⟩
  · simp only [if_true] at hmm
    have hex : ∀ i, i < n → ∃ x : TM, (∀ j u, [Value.int .i64 x.sector, .int .i64 x.writes, .int .i64 x.bytes][j]? = some u → W.cell? (a.add (i * 3 + j)) = some u) ∧ TOk x := by
      intro i hin
      obtain ⟨cs', hc, ht⟩ := hi i (by omega)
      rw [cells3t] at hc
      obtain ⟨_, hlen, hat⟩ := World.cells?_some hc
      obtain ⟨x, rfl, hx⟩ := torn_of_trod ht
      refine ⟨x, fun j u hu => ?_, hx⟩
      have hj : j < 3 := (List.getElem?_eq_some_iff.1 hu).1
      rw [← Go.Deep.add_add, hat j hj, hu]
    refine ⟨some a, n, c, (List.range n).attach.map fun i => (hex i.1 (List.mem_range.1 i.2)).choose, hcs, by simp, Sl.of_cells (by decide) (by rw [tcells_len]; simp) hl hm fun j u hu => ?_, fun x hx => ?_⟩
    · have hjl : j < n * 3 := by
        have := (List.getElem?_eq_some_iff.1 hu).1
        rw [tcells_len] at this
        simpa using this
      have e : j = j / 3 * 3 + j % 3 := by omega
      have hi6 : j / 3 < n := by omega
      rw [e] at hu ⊢
      rw [tcells_get _ (j / 3) (j % 3) (by simpa using hi6) (by omega)] at hu
      simp only [List.getElem_map, List.getElem_attach, List.getElem_range] at hu
      exact (hex (j / 3) hi6).choose_spec.1 _ _ hu
    · obtain ⟨i, _, rfl⟩ := List.mem_map.1 hx
      exact (hex i.1 (List.mem_range.1 i.2)).choose_spec.2
set_option maxRecDepth 100000 in
/-- a slice of elements that came in -/
theorem open_torns {base0 : Nat} {v : Value} {d : DataW H} {p : List MemPlace} (hval : Value.okWide Tryd.prog W .any base0 42 v) (h : DataW.Trod enc Tryd.prog W base (fun _ => true) held 42 v d p) :
    ∃ a n c ts, v = .slice a n c ∧ Ts (Old W) W a n c ts := by
  obtain ⟨a1, n1, c1, rfl⟩ := okWide_slice Tryd.underlying42 hval
  obtain ⟨fuel, hf⟩ := h
  obtain ⟨a, n, c, l, hcs, h1⟩ := torns_of_trod hf
  simp [Value.cells] at hcs
  obtain ⟨rfl, rfl, rfl⟩ := hcs
  exact ⟨_, _, _, l, rfl, h1⟩
end
end Go.Proofs.YthffegfcgmhppaaDoor
namespace Go.Proofs.YthffegfcgmhppaaDoor
open Go.RowKit
set_option linter.unusedSimpArgs false
set_option linter.unusedVariables false
def Dwr7 : List (Option Tmp) := [some 32, some 33, some 34, some 35, some 36, some 37, some 38, some 39, some 40, some 41, some 42, some 43, some 44, some 45, some 46, some 47, some 48, some 49, some 50, some 51, some 52, some 53]
def Lwr7 : List (List Nat) := [[], [], [], [1, 2], [3], [4], [], [6], [5, 7], [], [], [9, 10], [11], [12], [13], [], [], [15, 16], [17], [18], [14, 19], [0, 8, 20]]
theorem Ops.kept {D S : Nat → Prop} {w w' : World} {a : Option Addr} {n c : Nat} {ms : List OM} (h : Ops D w a n c ms) (hk : Kept S w w') (hd : ∀ b, b < w.heap.size → D b → ¬ S b) : Ops D w' a n c ms :=
  ⟨h.1, h.2.1.kept (by decide) hk hd, fun m hm => ⟨(h.2.2 m hm).1, (h.2.2 m hm).2.1, (h.2.2 m hm).2.2.1, (h.2.2 m hm).2.2.2.1.kept hk hd, (h.2.2 m hm).2.2.2.2.kept hk hd⟩⟩
theorem Ops.at {D : Nat → Prop} {w : World} {a : Option Addr} {n c : Nat} {ms : List OM} (h : Ops D w a n c ms) (hp : 0 < n) : ∃ b off, D b ∧ b < w.heap.size ∧ a = some ⟨b, off, none⟩ ∧ ∀ (i : Nat) (hi : i < ms.length), w.rangeAt b (off + i * 5) ms[i].cells := by
  obtain ⟨h1, ⟨h2, h3, h4, h5, h6⟩, h7⟩ := h
  obtain ⟨b, off, hD, ha, hr⟩ := h6 hp
  refine ⟨b, off, hD, range_lt hr (by omega), ha, fun i hi j v hv => ?_⟩
  have hj : j < 5 := (List.getElem?_eq_some_iff.1 hv).1
  rw [Nat.add_assoc]
  exact hr (i * 5 + j) v (by rw [ocells_get ms i j hi hj]; exact hv)
theorem burn_mk (S : List (List (List UInt8))) (on : Bool) : DM.burn ⟨S, on, 0⟩ = ⟨S, on, 0⟩ := rfl
theorem write_on {d : DM} {k : Nat} {l : List UInt8} (h : d.fuse = 0) : (d.write k l).on = d.on := by unfold DM.write; rw [h, burn_mk]
theorem write_fuse {d : DM} {k : Nat} {l : List UInt8} (h : d.fuse = 0) : (d.write k l).fuse = d.fuse := by unfold DM.write; rw [h, burn_mk]
theorem write_len (d : DM) (k : Nat) (l : List UInt8) : (d.write k l).S.length = d.S.length := by unfold DM.write; rw [DM.burn_S]; simp
theorem flush_on {d : DM} (h : d.fuse = 0) : d.flush.on = d.on := by unfold DM.flush; rw [h, burn_mk]
theorem flush_fuse {d : DM} (h : d.fuse = 0) : d.flush.fuse = d.fuse := by unfold DM.flush; rw [h, burn_mk]
theorem flush_len (d : DM) : d.flush.S.length = d.S.length := by unfold DM.flush; rw [DM.burn_S]; simp
end Go.Proofs.YthffegfcgmhppaaDoor
namespace Go.Proofs.YthffegfcgmhppaaDoor
open Go.RowKit
set_option linter.unusedSimpArgs false
set_option linter.unusedVariables false
theorem tcells_app (l m : List TM) : tcells (l ++ m) = tcells l ++ tcells m := by simp [tcells]
theorem tcells_one (l : List TM) : ∀ u ∈ tcells l, u.oneCell' = true := by
  intro u hu
  obtain ⟨t, _, ht⟩ := List.mem_flatMap.1 hu
  simp only [List.mem_cons, List.not_mem_nil, or_false] at ht
  rcases ht with rfl | rfl | rfl <;> rfl
theorem info67 : (Tryd.prog.info? 73).map (fun i => (i.zero, i.size, i.bytes)) = some (some (.agg #[.int .i64 0, .int .i64 0, .int .i64 0]), 3, 24) := by kernel_rfl
theorem tsize67 : (Value.agg #[.int .i64 0, .int .i64 0, .int .i64 0]).cells.size = 3 := rfl
/-- a slice of elements of one's own -/
def accO (v : Value) (ts : List TM) : Obj := ⟨fun B w => ∃ k, Own w 73 3 k v ts.length (tcells ts) ∧ (∀ j, k = some j → B j) ∧ ∀ t ∈ ts, TOk t, fun {B S w w'} h hk hs => by
  obtain ⟨k, h1, h2, h3⟩ := h
  exact ⟨k, h1.kept hk (fun j hj => hs j (h1.lt j hj) (h2 j hj)), h2, h3⟩⟩
theorem Lv.acc0 {w0 w : World} {L : List Obj} (h : Lv w0 w L) : Lv w0 w (accO (.slice none 0 0) [] :: L) :=
  h.cons (Below.refl _ _) (B := fun _ => False) ⟨none, Own.nil _ _ _, (fun _ h => by cases h), fun _ h => (by cases h)⟩ (fun _ h => h.elim)
theorem Lv.accTorn {w0 w : World} {L : List Obj} (h : Lv w0 w L) {i : Nat} {v : Value} {ts : List TM} (hi : L[i]? = some (accO v ts)) : Lv w0 w (L.set i (tornO v ts)) := by
  refine h.weaken hi (fun B hB => ?_)
  obtain ⟨k, h1, h2, h3⟩ := hB
  obtain ⟨a, c, hv, hs⟩ := h1.sl
  exact ⟨a, c, hv, rfl, hs.dom (fun b hb => h2 b hb), h3⟩
theorem wpList_acc {w0 w : World} {L : List Obj} (h : Lv w0 w L) {i : Nat} {v : Value} {ts : List TM} (hi : L[i]? = some (accO v ts)) {ops : Array Oper} {rest : List Oper} {o : Oper} {a : Act} {Q : Exit → Act → World → Prop} (hgd : o.guard = none) (s x : Operand)
    (ho : o.op = .call { callee := .builtin .append, args := #[s, x], argTypes := #[42, 42] }) (hs : a.eval s = v) (us : List TM) (hus : ∀ t ∈ us, TOk t) (hx : Src Tryd.prog 3 42 (a.eval x) us.length (tcells us) w) (hb : ts.length + us.length ≤ 1000000)
    (K : ∀ v' w', Lv w0 w' (L.set i (accO v' (ts ++ us))) → wpList Tryd.prog ops Q rest (a.put o.dst v') w') : wpList Tryd.prog ops Q (o :: rest) a w := by
  obtain ⟨i0, hi0, hz0, hz1, hz2⟩ := info_parts info67
  obtain ⟨B, ⟨k, h1, h2, h3⟩, hlt, _, hset⟩ := h.get hi
  refine wpList_append_any w hgd s x _ _ ho 73 i0 _ 3 24 Tryd.underlying42 hi0 hz0 hz1 hz2 tsize67 k v ts.length (tcells ts) hs h1 us.length (tcells us) hx (by unfold maxLen; omega) (by omega) ?_
  intro k' v' w' ho' hf' hK' hn'
  refine K v' w' (hset w' _ (fun j => k' = some j) ⟨k', ?_, fun _ h => h, fun t ht => ?_⟩ (hK'.mono (fun j _ hj => h2 j hj)) (fun j hj => (hf' j hj).imp (fun e => h2 j e) id) (fun j hj => ho'.lt j hj))
  · rw [List.length_append, tcells_app]; exact ho'
  · rcases List.mem_append.1 ht with ht | ht
    · exact h3 t ht
    · exact hus t ht
theorem run_bld67 (x y z : Value) (W : World) : (Instr.buildSlice 42 1 #[(0, .agg #[x, y, z])]).run Tryd.prog W = .ok (.slice (some ⟨W.heap.size, 0, none⟩) 1 1) (W.alloc (.cells #[x, y, z] 73)) := by kernel_rfl
theorem src_new {w : World} {g : Nat} {us : List TM} (hg : w.heap[g]? = some (.cells (tcells us).toArray 73 (0, 0))) : Src Tryd.prog 3 42 (.slice (some ⟨g, 0, none⟩) us.length us.length) us.length (tcells us) w :=
  Src.ofSlice w Tryd.underlying42 ⟨g, 0, none⟩ us.length us.length (tcells us) (tcells_len us) (fun j u hu => by rw [Addr.add_mid, Nat.zero_add, cell_of_row w g j _ _ _ hg]; simpa using hu) (tcells_one us)
theorem tcells_take (ts : List TM) (n : Nat) : tcells (ts.take n) = (tcells ts).take (n * 3) := by
  unfold tcells
  induction ts generalizing n with
  | nil => simp
  | cons t r ih =>
    cases n with
    | zero => simp
    | succ n =>
      rw [List.take_succ_cons, List.flatMap_cons, List.flatMap_cons, ih, show (n + 1) * 3 = n * 3 + 1 + 1 + 1 by omega]
      rfl
theorem Ts.upto {D : Nat → Prop} {w : World} {a : Option Addr} {n c : Nat} {ts : List TM} (h : Ts D w a n c ts) (F : Nat) (hF : F ≤ n) : Ts D w a F c (ts.take F) := by
  obtain ⟨h1, ⟨h2, h3, h4, h5, h6⟩, h7⟩ := h
  refine ⟨by rw [List.length_take]; omega, ⟨by rw [tcells_len, List.length_take]; omega, by omega, h4, h5, fun hp => ?_⟩, fun t ht => h7 t (List.mem_of_mem_take ht)⟩
  obtain ⟨b, off, hD, ha, hr⟩ := h6 (by omega)
  refine ⟨b, off, hD, ha, fun j v hv => hr j v ?_⟩
  rw [tcells_take, List.getElem?_take] at hv
  split at hv
  · exact hv
  · cases hv
/-- what Restart leaves of a sector -/
theorem restart_get (d : DM) (ts : List TM) (k : Nat) (hk : k < d.S.length) (hk2 : k < (d.restart ts).S.length) : lastB ((d.restart ts).S[k]'hk2) = match firstOf ts k with | some t => surv d.S[k] t.writes t.bytes | none => dur d.S[k] := by
  have e : (d.restart ts).S[k]'hk2 = [dur ((DM.torn d.S ts)[k]'(by rw [DM.torn_len]; exact hk))] := by
    simp only [DM.restart, List.getElem_map]
  rw [e, torn_get d.S ts k hk]
  cases firstOf ts k <;> rfl
theorem restart_len (d : DM) (ts : List TM) : (d.restart ts).S.length = d.S.length := by simp [DM.restart, DM.torn_len]
theorem restart_last (d : DM) (ts us : List TM) (h : ∀ k, k < d.S.length → firstOf ts k = firstOf us k) : (d.restart ts).S.map lastB = (d.restart us).S.map lastB := by
  apply List.ext_getElem (by simp [restart_len])
  intro k h1 h2
  have hk : k < d.S.length := by simpa [restart_len] using h1
  rw [List.getElem_map, List.getElem_map, restart_get d ts k hk, restart_get d us k hk, h k hk]
end Go.Proofs.YthffegfcgmhppaaDoor
namespace Go.Proofs.YthffegfcgmhppaaDoor
/-- the bytes that are left, the error -/
structure RS where
  l : List UInt8
  e : Nat
def RS.fail (s : RS) (f : Nat) : RS := ⟨s.l, if s.e = 0 then f else s.e⟩
def rUint (s : RS) : Nat × RS := if s.e = 0 then ((fnum s.l 0 0).1, ⟨s.l.drop (fnum s.l 0 0).2.1, (fnum s.l 0 0).2.2⟩) else (0, s)
def rInt (s : RS) : Int × RS := (zag (rUint s).1, (rUint s).2)
def rBool (s : RS) : Bool × RS := if s.e = 0 then (match s.l with | [] => (false, ⟨[], 6⟩) | b :: r => (b.toNat == 1, ⟨r, if 1 < b.toNat then 7 else 0⟩)) else (false, s)
def rLen (s : RS) (most : Int) : Nat × RS := if most < 0 ∨ most < ((rUint s).1 : Int) then (0, (rUint s).2.fail 2) else rUint s
def rText (s : RS) (most : Int) : List UInt8 × RS := if (rLen s most).2.l.length < (rLen s most).1 then ([], (rLen s most).2.fail 6) else ((rLen s most).2.l.take (rLen s most).1, ⟨(rLen s most).2.l.drop (rLen s most).1, (rLen s most).2.e⟩)
def rIntsGo : Nat → List Int → RS → List Int × RS
  | 0, acc, s => (acc, s)
  | n + 1, acc, s => if (rInt s).2.e = 0 then rIntsGo n (acc ++ [(rInt s).1]) (rInt s).2 else ([], (rInt s).2)
def rInts (s : RS) (most : Int) : List Int × RS := rIntsGo (rLen s most).1 [] (rLen s most).2
theorem fnum_size : ∀ (l : List UInt8) (i acc : Nat), (fnum l i acc).2.1 ≤ i + l.length := by
  intro l
  induction l with
  | nil => intro i acc; simp [fnum]
  | cons b r ih =>
    intro i acc
    rw [fnum]
    split
    · simp
    · split
      · have := ih (i + 1) (acc + b.toNat % 128 * 128 ^ i); simp only [List.length_cons]; omega
      · split
        · simp
        · simp only [List.length_cons]; omega
theorem fnum_size_pos : ∀ (l : List UInt8) (i acc : Nat), (fnum l i acc).2.2 = 0 → i < (fnum l i acc).2.1 := by
  intro l
  induction l with
  | nil => intro i acc h; simp [fnum] at h
  | cons b r ih =>
    intro i acc h
    rw [fnum] at h ⊢
    split at h
    · simp at h
    · rename_i h1
      rw [if_neg h1]
      split at h
      · rename_i h2; rw [if_pos h2]; have := ih _ _ h; omega
      · rename_i h2
        rw [if_neg h2]
        split at h
        · simp at h
        · rename_i h3; rw [if_neg h3]; simp
theorem fnum_val (l : List UInt8) : (fnum l 0 0).1 < 18446744073709551616 := by
  rcases fnum_err l 0 0 with h | h | h
  · have hv : fnum l 0 0 = ((fnum l 0 0).1, (fnum l 0 0).2.1, 0) := by rw [Prod.ext_iff, Prod.ext_iff]; exact ⟨rfl, rfl, h⟩
    obtain ⟨n, r, _, hv, _, hn, _⟩ := fnum_ok l 0 0 _ _ hv (by omega)
    rw [hv]; simpa using hn
  · rw [h]; decide
  · rw [h]; decide
theorem rUint_val (s : RS) : (rUint s).1 < 18446744073709551616 := by
  unfold rUint
  split
  · exact fnum_val _
  · show 0 < 18446744073709551616
    omega
theorem rUint_err (s : RS) (h : s.e ≠ 0) : rUint s = (0, s) := by unfold rUint; rw [if_neg h]
theorem rUint_ok (s : RS) (h : s.e = 0) : rUint s = ((fnum s.l 0 0).1, ⟨s.l.drop (fnum s.l 0 0).2.1, (fnum s.l 0 0).2.2⟩) := by unfold rUint; rw [if_pos h]
theorem rUint_len (s : RS) : (rUint s).2.l.length ≤ s.l.length := by
  unfold rUint
  split
  · simp
  · exact Nat.le_refl _
theorem rUint_shorter (s : RS) (h : s.e = 0) (h2 : (rUint s).2.e = 0) : (rUint s).2.l.length < s.l.length := by
  rw [rUint_ok s h] at h2 ⊢
  simp only [List.length_drop] at h2 ⊢
  have h3 := fnum_size_pos _ _ _ h2
  have h4 := fnum_size s.l 0 0
  omega
theorem rInt_bd (s : RS) : -9223372036854775808 ≤ (rInt s).1 ∧ (rInt s).1 ≤ 9223372036854775807 := zag_bd _ (rUint_val s)
theorem rLen_len (s : RS) (most : Int) : (rLen s most).2.l.length ≤ s.l.length := by
  unfold rLen
  split
  · exact rUint_len s
  · exact rUint_len s
theorem rInt_ok (s : RS) (h : (rInt s).2.e = 0) : s.e = 0 := by
  unfold rInt at h
  by_cases he : s.e = 0
  · exact he
  · rw [rUint_err s he] at h; exact h
theorem rIntsGo_ok (n : Nat) : ∀ (acc : List Int) (s : RS), (∀ x ∈ acc, -9223372036854775808 ≤ x ∧ x ≤ 9223372036854775807) → ∀ x ∈ (rIntsGo n acc s).1, -9223372036854775808 ≤ x ∧ x ≤ 9223372036854775807 := by
  induction n with
  | zero => intro acc s h; exact h
  | succ n ih =>
    intro acc s h
    rw [rIntsGo]
    split
    · exact ih _ _ (fun x hx => by
        rcases List.mem_append.1 hx with hx | hx
        · exact h x hx
        · rw [List.mem_singleton.1 hx]; exact rInt_bd s)
    · intro x hx; cases hx
theorem rText_len (s : RS) (most : Int) : (rText s most).1.length ≤ s.l.length := by
  unfold rText
  split
  · simp
  · have := rLen_len s most
    simp only [List.length_take]
    omega
end Go.Proofs.YthffegfcgmhppaaDoor
namespace Go.Proofs.YthffegfcgmhppaaDoor
open Go.RowKit
set_option maxRecDepth 100000 in
set_option maxHeartbeats 400000 in
theorem put_any (g : Nat) (k : Option Nat) (l : List UInt8) (x : UInt8) (X : Int) (w : World) (hW : Wr w g k l) (hl : l.length ≤ 1000000000000) (hX : X = (x.toNat : Int)) :
    Calls Tryd.prog 60 #[.pointer (some ⟨g, 0, none⟩), .int .u8 X] w fun e w' => e = .returned (.tuple #[]) ∧ Wrote g k w (l ++ [x]) w' := by
  obtain ⟨i0, hi, hz0, hz1, hz2⟩ := info_parts info5
  obtain ⟨v, hg, hO, hk⟩ := hW
  have h0 : w.cell? ⟨g, 0, none⟩ = some v := by rw [cell_of_row w g 0 _ _ _ hg]; rfl
  have hb : g < w.heap.size := (Array.getElem?_eq_some_iff.1 hg).1
  have HX := Lib.hid hX
  have HG := Lib.hid hg
  have HO := Lib.hid hO
  have HK := Lib.hid hk
  clear hX hg hO hk
  go_enter Tryd.func60, Tryd.ntmps60
  go_wp2_with (at_builtin; refine wpList_append_any _ rfl (.tmp 8) (.tmp 10) 34 34 rfl 5 i0 (.int .u8 0) 1 1 Tryd.underlying34 hi hz0 hz1 hz2 rfl k v l.length (vals l) rfl (HO.out.kept ((Kept.refl (fun _ => False) w).alloc _) (fun _ _ h => h)) 1 [.int .u8 X] (Src.ofSlice _ Tryd.underlying34 ⟨w.heap.size, 0, none⟩ 1 1 _ rfl ?c1 ?c2) (by unfold maxLen; omega) (by omega) ?_)
  case c1 => intro j u hj; match j, hj with | 0, hj => simp at hj; subst hj; simp [Addr.add]
  case c2 => intro u hu; simp at hu; subst hu; rfl
  intro k' v' w' ho hf hK hn
  obtain ⟨a, c, rfl, -⟩ := ho.sl
  have hK2 : Kept (fun j => k = some j) w w' := ((Kept.refl (fun j => k = some j) w).alloc _).trans hK (fun _ _ h => h)
  have hg' := hK2.heap HG.out HK.out
  have c0 : w'.cell? ⟨g, 0, none⟩ = some v := by rw [cell_of_row w' g 0 _ _ _ hg']; rfl
  have f0 : w'.frozen? ⟨g, 0, none⟩ = false := frozen_of_row w' g 0 _ _ hg'
  have R : Wrote g k w (l ++ [x]) (w'.setCell ⟨g, 0, none⟩ (.slice a (l.length + 1) c)) := by
    refine ⟨k', ⟨_, one_set hg', ?_, ?_⟩, ?_, (hK2.mono (fun _ _ h => .inr h)).setCell (fun _ => .inl rfl) _⟩
    · rw [vals_app, List.length_append]
      rw [HX.out] at ho
      exact ho.kept ((Kept.refl (fun j => j = g) w').setCell (fun _ => rfl) _) (fun j hj e => by
        subst e
        rcases hf _ hj with h | h
        · exact HK.out h
        · omega)
    · intro e
      rcases hf _ e with h | h
      · exact HK.out h
      · omega
    · intro j hj
      rcases hf j hj with h | h
      · exact .inl h
      · exact .inr (by omega)
  have HR := Lib.hid R
  clear R hg' hK2 hn hK hf ho h0
  go_wp2
  go_end0
  exact ⟨rfl, HR.out⟩
end Go.Proofs.YthffegfcgmhppaaDoor
namespace Go.Proofs.YthffegfcgmhppaaDoor
open Go.RowKit
theorem vals_u8 (n : Nat) (h : n < 256) : (n : Int) = ((UInt8.ofNat n).toNat : Int) := by rw [toNat_ofNat n h]
theorem encU_tail (l : List UInt8) (m : Nat) (h : ¬ m < 128) : (l ++ [UInt8.ofNat (128 + m % 128)]) ++ encU (m / 128) = l ++ encU m := by
  rw [encU_big h]; simp
theorem encU_end (l : List UInt8) (m : Nat) (h : m < 128) : l ++ [UInt8.ofNat m] = l ++ encU m := by rw [encU_small h]
/-- where the loop of Uint stands -/
def AtU (g : Nat) (k : Option Nat) (w : World) (L : List UInt8) (m : Nat) (wr : World) : Prop := ∃ l1, l1 ++ encU m = L ∧ Wrote g k w l1 wr
set_option maxRecDepth 100000 in
set_option maxHeartbeats 400000 in
theorem wuint_any (g : Nat) (k : Option Nat) (l : List UInt8) (n : Nat) (N : Int) (w : World) (hW : Wr w g k l) (hl : l.length ≤ 500000000000) (hn : n < 18446744073709551616) (hN : N = (n : Int)) :
    Calls Tryd.prog 45 #[.pointer (some ⟨g, 0, none⟩), .int .u64 N] w fun e w' => e = .returned (.tuple #[]) ∧ Wrote g k w (l ++ encU n) w' := by
  subst hN
  have HW := Lib.hid (Wrote.refl hW)
  have Hlen := Lib.hid (encU_len10 n hn)
  clear hW
  go_enter Tryd.func45, Tryd.ntmps45
  go_wp2
  go_loopw [1] (fun t wr => ∃ m : Nat, m < 18446744073709551616 ∧ t = .int .u64 (m : Int) ∧ AtU g k w (l ++ encU n) m wr) (fun t _ => (intOf t).toNat)
  case atStart => exact ⟨n, hn, rfl, l, rfl, HW.out⟩
  case round =>
    obtain ⟨m, hm, rfl, hA⟩ := hrel
    have HA := Lib.hid hA
    clear hA HW hn
    obtain ⟨l1, e1, hw1⟩ := HA.out
    have hlen1 : l1.length ≤ 1000000000000 := by
      have := congrArg List.length e1
      simp only [List.length_append] at this
      have := Hlen.out
      omega
    have He := Lib.hid e1
    have Hw := Lib.hid hw1
    clear e1 hw1 HA
    by_cases hlt : m < 128
    · obtain ⟨k1, hW1, hl1⟩ := Hw.out
      have HW1 := Lib.hid hW1
      have HL1 := Lib.hid hl1
      have Hm := Lib.hid (vals_u8 m (by omega))
      clear hW1 hl1
      go_wp2_with (go_at_call 60; refine (put_any g k1 l1 (UInt8.ofNat m) _ _ HW1.out hlen1 Hm.out).mono ?_; rintro e w2 ⟨rfl, hw2⟩; have H2 := Lib.hid hw2; clear hw2)
      go_end0
      refine ⟨rfl, ?_⟩
      have h2 := H2.out
      rw [encU_end l1 m hlt, He.out] at h2
      exact h2.after HL1.out
    · obtain ⟨k1, hW1, hl1⟩ := Hw.out
      have HW1 := Lib.hid hW1
      have HL1 := Lib.hid hl1
      have Hm := Lib.hid (vals_u8 (128 + m % 128) (by omega))
      clear hW1 hl1
      go_wp2_with (go_at_call 60; refine (put_any g k1 l1 (UInt8.ofNat (128 + m % 128)) _ _ HW1.out hlen1 (by rw [← Hm.out]; omega)).mono ?_; rintro e w2 ⟨rfl, hw2⟩; have H2 := Lib.hid hw2; clear hw2)
      go_roundw
      case rel => exact ⟨m / 128, by omega, by go_num, _, (encU_tail l1 m hlt).trans He.out, H2.out.after HL1.out⟩
      case measure => simp [intOf]; omega
end Go.Proofs.YthffegfcgmhppaaDoor
namespace Go.Proofs.YthffegfcgmhppaaDoor
open Go.RowKit
theorem zig_pos (n : Int) (h : 0 ≤ n) : 2 * n = ((zig n : Nat) : Int) := by unfold zig; rw [if_neg (by omega)]; omega
theorem zig_neg (n : Int) (h : n < 0) : 2 * (-(n + 1)) + 1 = ((zig n : Nat) : Int) := by unfold zig; rw [if_pos h]; omega
theorem encI_len (n : Int) (h1 : -9223372036854775808 ≤ n) (h2 : n ≤ 9223372036854775807) : (encI n).length ≤ 10 := encU_len10 _ (zig_lt n h1 h2)
theorem encIs_len (l : List Int) (h : Ok64 l) : (l.flatMap encI).length ≤ 10 * l.length := by
  induction l with
  | nil => simp
  | cons x r ih =>
    have h1 := encI_len x (h x (by simp)).1 (h x (by simp)).2
    have h2 := ih (fun y hy => h y (by simp [hy]))
    simp only [List.flatMap_cons, List.length_append, List.length_cons]
    omega
theorem Ok64.take {l : List Int} (h : Ok64 l) (i : Nat) : Ok64 (l.take i) := fun x hx => h x (List.mem_of_mem_take hx)
theorem take_enc (l : List Int) (i : Nat) (h : i < l.length) : (l.take (i + 1)).flatMap encI = (l.take i).flatMap encI ++ encI l[i] := by
  rw [List.take_succ_eq_append_getElem h, List.flatMap_append]; simp
end Go.Proofs.YthffegfcgmhppaaDoor
namespace Go.Proofs.YthffegfcgmhppaaDoor
open Go.RowKit
set_option linter.unusedSimpArgs false
set_option linter.unusedVariables false
theorem Own.empty (w : World) : Own (w.alloc (.cells #[] 5)) 5 1 (some w.heap.size) (.slice (some ⟨w.heap.size, 0, none⟩) 0 0) 0 [] := Own.made w 5 1 #[] 0 (Nat.zero_le _) rfl
set_option maxRecDepth 100000 in
set_option maxHeartbeats 400000 in
theorem clone_any (D : Nat → Prop) (a : Option Addr) (n c : Nat) (l : List UInt8) (w : World) (hB : Bs D w a n c l) (hn : n ≤ 100000000000000) :
    Calls Tryd.prog 26 #[.slice a n c] w fun e w' => ∃ v, e = .returned v ∧ Made w v l w' := by
  obtain ⟨i0, hi, hz0, hz1, hz2⟩ := info_parts info5
  cases a with
  | none =>
    have ke := fun (w : World) => Lib.run_eql_slice_nil (P := Tryd.prog) w 34 5 none n c 0 0 Tryd.underlying34
    have h0 := hB.2.2.2.2.1 rfl
    have h1 := hB.2.2.1
    subst h0
    obtain rfl : n = 0 := by omega
    obtain rfl : l = [] := List.eq_nil_of_length_eq_zero hB.1
    clear hB
    go_enter Tryd.func26, Tryd.ntmps26
    go_wp2
    go_ret
    exact ⟨_, rfl, none, Own.nil _ _ _, (fun _ h => by cases h), Below.refl _ _⟩
  | some ad =>
    have HB := Lib.hid hB
    have HL := Lib.hid hB.1
    have ke := fun (w : World) => Lib.run_eql_slice_nil (P := Tryd.prog) w 34 5 (some ad) n c 0 0 Tryd.underlying34
    clear hB
    go_enter Tryd.func26, Tryd.ntmps26
    go_wp2_with (at_builtin; refine wpList_append_any _ rfl (.tmp 5) (.tmp 6) 34 34 rfl 5 i0 (.int .u8 0) 1 1 Tryd.underlying34 hi hz0 hz1 hz2 rfl (some w.heap.size) _ 0 [] rfl (Own.empty w) n (vals l) ((HB.out.kept ((Kept.refl (fun _ => False) w).alloc _) (fun _ _ _ h => h)).src Tryd.underlying34) (by unfold maxLen; omega) (by omega) ?_)
    intro k' v' w' ho hf hK hn
    have R : Made w v' l w' := ⟨k', by rw [HL.out]; exact ho, fun j hj => by
      rcases hf j hj with h | h
      · cases h; exact Nat.le_refl _
      · omega, ((Below.refl w.heap.size w).alloc (Nat.le_refl _) _).trans (hK.below (by simp) (fun j hj h => by cases h; omega))⟩
    have HR := Lib.hid R
    clear R ho hf hK hn
    go_wp2
    go_ret
    exact ⟨_, rfl, HR.out⟩
set_option maxRecDepth 100000 in
set_option maxHeartbeats 400000 in
theorem copied_any (g : Nat) (k : Option Nat) (l : List UInt8) (w : World) (hW : Wr w g k l) (hl : l.length ≤ 100000000000000) :
    Calls Tryd.prog 47 #[.pointer (some ⟨g, 0, none⟩)] w fun e w' => ∃ v, e = .returned v ∧ Made w v l w' := by
  obtain ⟨v, hg, hO, hk⟩ := hW
  have h0 : w.cell? ⟨g, 0, none⟩ = some v := by rw [cell_of_row w g 0 _ _ _ hg]; rfl
  obtain ⟨a, c, rfl, hB⟩ := hO.bs
  have HB := Lib.hid hB
  clear hg hO hk hB
  go_enter Tryd.func47, Tryd.ntmps47
  go_wp2_with (go_at_call 26; refine (clone_any _ a _ c l _ HB.out hl).mono ?_; rintro e w2 ⟨v, rfl, hw2⟩; have H2 := Lib.hid hw2; clear hw2)
  go_ret
  exact ⟨_, rfl, H2.out⟩
set_option maxRecDepth 100000 in
set_option maxHeartbeats 400000 in
theorem done_any (g : Nat) (k : Option Nat) (l : List UInt8) (w : World) (hW : Wr w g k l) (hl : l.length ≤ 100000000000000) :
    Calls Tryd.prog 25 #[.pointer (some ⟨g, 0, none⟩)] w fun e w' => ∃ v, e = .returned v ∧ Made w v l w' := by
  have HW := Lib.hid hW
  clear hW
  go_enter Tryd.func25, Tryd.ntmps25
  go_wp2_with (go_at_call 47; refine (copied_any g k l _ HW.out hl).mono ?_; rintro e w2 ⟨v, rfl, hw2⟩; have H2 := Lib.hid hw2; clear hw2)
  go_ret
  exact ⟨_, rfl, H2.out⟩
/-- a reader in block g has the bytes l left, in block k, and the error e -/
def Rd (w : World) (g : Nat) (k : Option Nat) (l : List UInt8) (e : Nat) : Prop :=
  ∃ a c, w.heap[g]? = some (.cells #[.slice a l.length c, .int .i64 (e : Int)] 86 (0, 0)) ∧ Bs (fun b => k = some b) w a l.length c l ∧ k ≠ some g
theorem Rd.kept {S : Nat → Prop} {w w' : World} {g : Nat} {k : Option Nat} {l : List UInt8} {e : Nat} (h : Rd w g k l e) (hk : Kept S w w') (hg : ¬ S g) (hs : ∀ j, k = some j → ¬ S j) : Rd w' g k l e := by
  obtain ⟨a, c, h1, h2, h3⟩ := h
  exact ⟨a, c, hk.heap h1 hg, h2.kept hk (fun b _ hb => hs b hb), h3⟩
theorem Rd.lt {w : World} {g : Nat} {k : Option Nat} {l : List UInt8} {e : Nat} (h : Rd w g k l e) : g < w.heap.size := by
  obtain ⟨a, c, h1, h2⟩ := h
  exact heap_lt h1
/-- a new reader -/
def NewRd (w : World) (g : Nat) (l : List UInt8) (w' : World) : Prop :=
  ∃ k, Rd w' g k l 0 ∧ w.heap.size ≤ g ∧ (∀ j, k = some j → w.heap.size ≤ j ∧ j < w'.heap.size) ∧ Below w.heap.size w w'
set_option maxRecDepth 100000 in
set_option maxHeartbeats 400000 in
theorem newReader_any (D : Nat → Prop) (a : Option Addr) (n c : Nat) (l : List UInt8) (w : World) (hB : Bs D w a n c l) (hn : n ≤ 100000000000000) :
    Calls Tryd.prog 17 #[.slice a n c] w fun e w' => ∃ g, e = .returned (.pointer (some ⟨g, 0, none⟩)) ∧ NewRd w g l w' := by
  have HB := Lib.hid hB
  clear hB
  go_enter Tryd.func17, Tryd.ntmps17
  go_wp2_with (go_at_call 26; refine (clone_any _ a _ c l _ HB.out hn).mono ?_; rintro e w2 ⟨v, rfl, k, ho, hf, hb⟩; obtain ⟨a2, c2, rfl, hs⟩ := ho.bs; have HO := Lib.hid ho; have HS := Lib.hid hs; have HF := Lib.hid hf; have HBe := Lib.hid hb; clear ho hs hf hb)
  go_ret
  refine ⟨w2.heap.size, rfl, k, ⟨a2, c2, heap_new rfl, HS.out.kept ((Kept.refl (fun _ => False) w2).alloc _) (fun _ _ _ h => h), fun e => ?_⟩, HBe.out.size, fun j hj => ⟨HF.out j hj, by have := HO.out.lt j hj; rw [size_alloc1]; omega⟩, HBe.out.trans ((Below.refl _ _).alloc HBe.out.size _)⟩
  have := HO.out.lt _ e
  omega
end Go.Proofs.YthffegfcgmhppaaDoor

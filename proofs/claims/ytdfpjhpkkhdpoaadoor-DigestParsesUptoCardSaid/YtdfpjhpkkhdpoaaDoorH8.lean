/-
  The law DigestParses: its walk.
-/
import Derived.Test.YtdfpjhpkkhdpoaaDoorH7
import Derived.Test.YtdfpjhpkkhdpoaaDoorG3
import Derived.Laws.IdiomStrings
import Derived.Lib.BufferMore
namespace Go.Proofs.YtdfpjhpkkhdpoaaDoor
open Go.RowKit
set_option linter.unusedSimpArgs false
set_option linter.unusedVariables false
theorem conv_bytes (w1 : World) (T : ByteArray) (hT : T.size = 64) : ∃ C w2, (convert 9 22 (.string T)).run Tryd.prog w1 = .ok (.slice (some ⟨w1.heap.size, 0, none⟩) 64 C) w2 ∧ 64 ≤ C ∧ C ≤ 9223372036854775807 ∧ Below w1.heap.size w1 w2 ∧ w2.heap.size = w1.heap.size + 1 ∧
    ∀ r, r < 64 → (∃ v, w2.cell? ⟨w1.heap.size, r, none⟩ = some v) ∧ w2.frozen? ⟨w1.heap.size, r, none⟩ = false ∧ ∀ c : UInt8, ∃ l : List UInt8, Bs (w2.setCell ⟨w1.heap.size, r, none⟩ (.int .u8 (bi c))) (some ⟨w1.heap.size, 0, none⟩) 64 C l := by
  have hrun := run_bytes_of_string (P := Tryd.prog) w1 9 22 5 T str_under Tryd.underlying22 u8_under
  have hG := grownCap_ge w1 T.size 0 5
  have hG2 := grownCap_le_maxLen w1 T.size 0 5 (by unfold maxLen; omega)
  generalize grownCap w1 T.size 0 5 = C at *
  rw [hT] at hrun hG
  have hR : bytesRow T C = bcells (T.data.toList ++ List.replicate (C - 64) 0) := by
    unfold bytesRow bcells
    apply Array.ext'
    simp [hT, bi]
  rw [hR] at hrun
  have hlen : (T.data.toList ++ List.replicate (C - 64) (0 : UInt8)).length = C := by
    have : T.data.toList.length = 64 := by rw [Array.length_toList]; exact hT
    simp [this] ; omega
  generalize T.data.toList ++ List.replicate (C - 64) (0 : UInt8) = L at *
  refine ⟨C, _, hrun, hG, by unfold maxLen at hG2; omega, (Below.refl _ _).drew.alloc (Nat.le_refl _) _, by simp only [size_alloc1]; rfl, fun r hr => ?_⟩
  have hg : ((w1.drew.alloc (.cells (bcells L) 5 ((bcells L).size, (bcells L).size + 1)))).heap[w1.heap.size]? = some (.cells (bcells L) 5 ((bcells L).size, (bcells L).size + 1)) := heap_new rfl
  generalize w1.drew.alloc (.cells (bcells L) 5 ((bcells L).size, (bcells L).size + 1)) = w2 at *
  refine ⟨⟨_, cell_bytes hg r (by omega)⟩, ?_, fun c => ⟨(L.set r c).take 64, ?_⟩⟩
  · simp [World.frozen?, hg, bcells_size]; omega
  · have hg2 := Go.Lib.heap_setCell_same hg (.int .u8 (bi c)) (i := r)
    rw [bcells_set] at hg2
    refine ⟨by simp; omega, hG, hG2, (fun h => by cases h), fun _ => ⟨w1.heap.size, 0, rfl, fun i hi => ?_⟩⟩
    rw [Nat.zero_add, cell_bytes hg2 i (by simp; omega)]
    rw [byteAt_take _ _ _ hi]
structure PW (w : World) (g2 : Nat) (cs : Array Value) (p : World) (H : List (Nat × List UInt8)) : Prop where
  now : Now w p [] H
  blk : p.heap[g2]? = some (.cells cs 9 (0, 0))
theorem PW.step {w p p' : World} {g2 : Nat} {cs : Array Value} {H : List (Nat × List UInt8)} (N : PW w g2 cs p H) (h : Below p.heap.size p p') : PW w g2 cs p' H :=
  ⟨N.now.step h, (h.block _ (heap_lt N.blk)).trans N.blk⟩
theorem PW.weak {w p : World} {g2 : Nat} {cs : Array Value} {H : List (Nat × List UInt8)} (N : PW w g2 cs p H) : PW w g2 cs p [] :=
  ⟨⟨N.now.tabs, N.now.bel, by simp, by simp⟩, N.blk⟩
theorem PW.put24 {w p : World} {g2 : Nat} {cs : Array Value} {H : List (Nat × List UInt8)} (N : PW w g2 cs p H) (x : List UInt8) (hl : x.length = 32) :
    ∃ W, (p.alloc (.cells #[.int .u8 0, .int .u8 0, .int .u8 0, .int .u8 0, .int .u8 0, .int .u8 0, .int .u8 0, .int .u8 0, .int .u8 0, .int .u8 0, .int .u8 0, .int .u8 0, .int .u8 0, .int .u8 0, .int .u8 0, .int .u8 0, .int .u8 0, .int .u8 0, .int .u8 0, .int .u8 0, .int .u8 0, .int .u8 0, .int .u8 0, .int .u8 0, .int .u8 0, .int .u8 0, .int .u8 0, .int .u8 0, .int .u8 0, .int .u8 0, .int .u8 0, .int .u8 0] 24)).setRow p.heap.size (bcells x) = W ∧ PW w g2 cs W ((p.heap.size, x) :: H) := by
  obtain ⟨W, hW, hN, _⟩ := N.now.put24 x hl
  refine ⟨W, hW, hN, ?_⟩
  rw [← hW]
  exact ((stepAR p _ _).block _ (heap_lt N.blk)).trans N.blk
attribute [local go_sem ↓] exec_load33 exec_load24
attribute [local go_sem ↓] exec_at_zero exec_at_succ Go.wp_at_zero Go.wp_at_succ
attribute [local go_sem] run_eq24 Hv_len eqg24
def Dparses90 : List (Option Tmp) := [some 48, some 49, some 50, some 51, some 52, some 53, some 54, some 55, some 56, some 57, some 58, some 59, some 60, some 61, some 62, some 63, some 64, some 65, some 66, some 67, some 68]
def Lparses90 : List (List Nat) := [[], [], [0, 1], [2], [3], [3], [4, 5, 3], [3, 6], [7], [8], [9, 8], [10, 8], [11], [12, 11], [11], [11], [14, 15, 11], [16, 11], [13, 17, 11], [11, 18, 8], [8, 19]]
def Dparses97 : List (Option Tmp) := [some 48, some 49, some 50, some 51, some 52, some 53, some 54, some 55, some 56, some 57, some 58, some 59, some 60, some 61, some 62, some 63, some 64, some 65, some 66, some 67, some 68]
def Lparses97 : List (List Nat) := [[], [], [0, 1], [2], [3], [3], [4, 5, 3], [3, 6], [7], [8], [9, 8], [10, 8], [11], [12, 11], [11], [11], [14, 15, 11], [16, 11], [13, 17, 11], [11, 18, 8], [8, 19]]
set_option maxRecDepth 100000 in
set_option maxHeartbeats 1000000 in
theorem parses_any (s : ByteArray) (h : List UInt8) (x c : Int) (w : World) (hT : Tabs w) (hh : h.length = 32) (hx1 : -9223372036854775808 ≤ x) (hx2 : x ≤ 9223372036854775807) (hc1 : 0 ≤ c) (hc2 : c ≤ 255) :
    Calls Tryd.prog 11 #[.string s, .agg (bcells h), .int .i64 x, .int .u8 c] w fun e w' => e = .returned (.bool true) ∧ Below w.heap.size w w' := by
  have HT := Lib.hid hT
  have Hz := Lib.hid hT.2.2
  obtain ⟨T, hTT⟩ : ∃ T : ByteArray, T = ⟨(hexOf h).toArray⟩ := ⟨_, rfl⟩
  have HTT := Lib.hid hTT
  have HTs : Hid (T.size = 64) := Lib.hid (by rw [hTT]; show (hexOf h).toArray.size = 64; rw [List.size_toArray, hexOf_len, hh])
  clear hT hTT
  go_enter Tryd.func11, Tryd.ntmps11
  go_upto_region 1 with (fail)
  have g0 : (w.alloc (.cells (bcells h) 24)).heap[w.heap.size]? = some (.cells (bcells h) 24 (0, 0)) := heap_new rfl
  have b0 : Below w.heap.size w (w.alloc (.cells (bcells h) 24)) := (Below.refl _ _).alloc (Nat.le_refl _) _
  generalize w.alloc (.cells (bcells h) 24) = q at *
  have N0 : Hid (Now w q [] [(w.heap.size, h)]) := Lib.hid ⟨HT.out.below b0 Hz.out, b0, by simp, by
    intro z hz
    simp only [List.mem_cons, List.not_mem_nil, or_false] at hz
    subst hz
    exact ⟨g0, hh⟩⟩
  clear g0 b0
  have lh0 := (N0.out.hb (w.heap.size, h) (by simp)).load
  simp only at lh0
  go_upto_region 2 with (go_at_call 31; refine (rhex_any h _ hh).mono ?_; rw [← HTT.out]; rintro e w1 ⟨rfl, hb⟩; have N1 := Lib.hid (N0.out.step hb); obtain ⟨C, w2, hcv, hC1, hC2, hbel, hsz, hrs⟩ := conv_bytes w1 T HTs.out; have N2 := Lib.hid (N1.out.step hbel); have HR := Lib.hid hrs; have HC := Lib.hid (And.intro hC1 hC2); have HSz := Lib.hid hsz; have HG := Lib.hid N1.out.bel.size; clear hb hC1 hC2 hbel hsz hrs)
  clear lh0 hcv
  generalize w1.heap.size = g at *
  obtain ⟨cc, hcc⟩ : ∃ cc : UInt8, c = bi cc := ⟨UInt8.ofNat c.toNat, by unfold bi; rw [UInt8.toNat_ofNat']; omega⟩
  subst hcc
  have hC1 : (64 : Int) ≤ (C : Int) := by have := HC.out; omega
  go_upto_region 3 with (go_at_call 16; refine (around_any x 64 _ hx1 hx2 (by omega) (by omega)).mono ?_; rintro e w3 ⟨⟨r, hr, rfl⟩, rfl⟩; obtain ⟨⟨v0, hv0⟩, hf0, hset⟩ := HR.out r (by omega); obtain ⟨lt, hlt⟩ := hset cc; have HS := Lib.hid hlt; clear hset hlt)
  have hb3 : Below w.heap.size w2 (w2.setCell ⟨g, r, none⟩ (.int .u8 (bi cc))) := (Below.refl _ _).setCell (by simp only; exact HG.out) _
  have N3 : Hid (Now w (w2.setCell ⟨g, r, none⟩ (.int .u8 (bi cc))) [] []) := Lib.hid ⟨N2.out.tabs.below hb3 Hz.out, N2.out.bel.trans hb3, by simp, by simp⟩
  clear hv0 hf0 hb3
  generalize w2.setCell ⟨g, r, none⟩ (.int .u8 (bi cc)) = w4 at *
  have hcv := run_str HS.out
  obtain ⟨T2, hT2⟩ : ∃ T2 : ByteArray, T2 = ⟨lt.toArray⟩ := ⟨_, rfl⟩
  rw [← hT2] at hcv
  clear hT2
  go_upto_region 4 with (fail)
  clear hcv
  have P0 : PW w w4.heap.size #[.string s, .string T2] (w4.alloc (.cells #[.string s, .string T2] 9)) [] :=
    ⟨N3.out.step ((Below.refl _ _).alloc (Nat.le_refl _) _), heap_new rfl⟩
  generalize w4.alloc (.cells #[.string s, .string T2] 9) = w5 at *
  generalize w4.heap.size = g2 at *
  have P1 := Lib.hid P0
  clear P0 N0 N1 N2 N3 HS HR
  go_wp2
  go_loopw [11] (fun i wr => ∃ k : Nat, k ≤ 2 ∧ i = .int .i64 (k : Int) ∧ PW w g2 #[.string s, .string T2] wr []) (fun i _ => 2 - (intOf i).toNat)
  case atStart => exact ⟨0, by omega, rfl, P1.out⟩
  case round =>
    clear P1
    obtain ⟨k, hk, rfl, hp⟩ := hrel
    have N := Lib.hid hp
    clear hp
    by_cases hlt : k < 2
    · have dlt : decide ((k : Int) < 2) = true := by simp; omega
      obtain ⟨S, hS⟩ : ∃ S, (#[.string s, .string T2] : Array Value)[k]? = some (.string S) := by
        match k, hlt with
        | 0, _ => exact ⟨_, rfl⟩
        | 1, _ => exact ⟨_, rfl⟩
      have hcell : ∀ p H, PW w g2 #[.string s, .string T2] p H → p.cell? ⟨g2, k, none⟩ = some (.string S) := fun p H hp => (cell_of_row p g2 k _ _ _ hp.blk).trans hS
      have HCell := Lib.hid hcell
      clear hcell hS
      obtain ⟨y, e, hpr, hp1, hp2⟩ := parse_two S
      obtain ⟨hy, he, hyS⟩ := hpr
      have HP1 := Lib.hid hp1
      have HP2 := Lib.hid hp2
      have HyS := Lib.hid hyS
      clear hp1 hp2 hyS
      have c0 := HCell.out _ _ N.out
      go_upto_region 8 with (first
        | (go_at_call 30; refine (HP1.out _).mono ?_; rintro r1 w6 ⟨rfl, hb⟩; have N6 := Lib.hid (N.out.step hb); clear hb)
        | (refine wpList_store_row rfl 24 (.tmp 12) (.tmp 38) rfl w6.heap.size _ rfl rfl 24 _ (heap_new rfl) (by rw [bcells_size, hy]; exact size32b) (by rw [bcells_size, hy]; rfl) (bcells_one _) ?_; obtain ⟨w7, hw7, hN⟩ := N6.out.put24 y hy; rw [hw7]; have N7 := Lib.hid hN; clear hw7 hN))
      generalize w6.heap.size = g6 at *
      clear c0
      have c1 := HCell.out _ _ N7.out
      go_upto_region 9 with (first
        | (go_at_call 32; refine (HP2.out _).mono ?_; rintro r1 w8 ⟨rfl, hb⟩; have N8 := Lib.hid (N7.out.step hb); clear hb)
        | (refine wpList_store_row rfl 24 (.tmp 14) (.tmp 46) rfl w8.heap.size _ rfl rfl 24 _ (heap_new rfl) (by rw [bcells_size, hy]; exact size32b) (by rw [bcells_size, hy]; rfl) (bcells_one _) ?_; obtain ⟨w9, hw9, hN⟩ := N8.out.put24 y hy; rw [hw9]; have N9 := Lib.hid hN; clear hw9 hN))
      generalize w8.heap.size = g8 at *
      clear c1 N N6 N7 N8 HP1 HP2
      have z0 : (0 : Int) ≤ (k : Int) := by omega
      have z1 : (k : Int) < 2 := by omega
      rcases he with rfl | rfl
      · have hSS : (⟨(hexOf y).toArray⟩ : ByteArray) = S := (HyS.out rfl).symm
        have HSS := Lib.hid hSS
        clear hSS
        refine Roll.region_f 21 70 Dparses90 Lparses90 [(10, .slice (some ⟨g2, 0, none⟩) 2 2), (11, .int .i64 (k : Int)), (12, .pointer (some ⟨g6, 0, none⟩)), (13, .int .i64 0), (14, .pointer (some ⟨g8, 0, none⟩)), (15, .int .i64 0)] (fun p => PW w g2 #[.string s, .string T2] p [(g8, y), (g6, y)]) (fun p p' => Below p.heap.size p p') [fun vv p => vv = .agg (bcells y), fun vv p => vv = .agg (bcells y), fun vv p => vv = .bool false, fun vv p => vv = .bool false, fun vv p => vv = .int .i64 0, fun vv p => vv = .int .i64 0, fun vv p => vv = .bool false, fun vv p => vv = .bool false, fun vv p => vv = .bool false, fun vv p => vv = .int .i64 0, fun vv p => vv = .bool true, fun vv p => vv = .bool true, fun vv p => vv = .agg (bcells y), fun vv p => vv = .string S, fun vv p => vv = .slice (some ⟨g2, 0, none⟩) 2 2, fun vv p => vv = .int .i64 (k : Int), fun vv p => vv = .pointer (some ⟨g2, k, none⟩), fun vv p => vv = .string S, fun vv p => vv = .bool false, fun vv p => vv = .bool false, fun vv p => vv = .bool false] (by kernel_rfl) (by kernel_rfl) rfl ⟨rfl, rfl, rfl, rfl, rfl, rfl, trivial⟩ (N9.out.step (Below.refl _ _).drew) ?_ ?_ ?_
        · exact ⟨fun _ _ _ _ h => h, fun _ _ _ _ h => h, fun _ _ _ _ h => h, fun _ _ _ _ h => h, fun _ _ _ _ h => h, fun _ _ _ _ h => h, fun _ _ _ _ h => h, fun _ _ _ _ h => h, fun _ _ _ _ h => h, fun _ _ _ _ h => h, fun _ _ _ _ h => h, fun _ _ _ _ h => h, fun _ _ _ _ h => h, fun _ _ _ _ h => h, fun _ _ _ _ h => h, fun _ _ _ _ h => h, fun _ _ _ _ h => h, fun _ _ _ _ h => h, fun _ _ _ _ h => h, fun _ _ _ _ h => h, fun _ _ _ _ h => h, trivial⟩
        · intro b0 hN hlv
          refine ⟨?_, ?_, ?_, ?_, ?_, ?_, ?_, ?_, ?_, ?_, ?_, ?_, ?_, ?_, ?_, ?_, ?_, ?_, ?_, ?_, ?_, trivial⟩
          · intro vals p hI hp
            have e12 : (Roll.putD Dparses90 vals [] b0).eval (.tmp 12) = .pointer (some ⟨g6, 0, none⟩) := (Roll.eval_old rfl).trans (hlv.at 2 (12, .pointer (some ⟨g6, 0, none⟩)) rfl)
            clear hp hlv hN
            unfold Roll.Goes
            simp only [Lparses90, List.getD_cons_zero, List.getD_cons_succ]
            generalize Roll.putD Dparses90 vals [] b0 = a1 at *
            refine Roll.goes_val (w' := p) (.agg (bcells y)) rfl ?_ ⟨hI, Below.refl _ _, rfl⟩
            have hl := (hI.now.hb (g6, y) (by simp)).load
            simp only at hl
            rw [← e12] at hl
            exact hl
          · intro vals p hI hp
            have e14 : (Roll.putD Dparses90 vals [] b0).eval (.tmp 14) = .pointer (some ⟨g8, 0, none⟩) := (Roll.eval_old rfl).trans (hlv.at 4 (14, .pointer (some ⟨g8, 0, none⟩)) rfl)
            clear hp hlv hN
            unfold Roll.Goes
            simp only [Lparses90, List.getD_cons_zero, List.getD_cons_succ]
            generalize Roll.putD Dparses90 vals [] b0 = a1 at *
            refine Roll.goes_val (w' := p) (.agg (bcells y)) rfl ?_ ⟨hI, Below.refl _ _, rfl⟩
            have hl := (hI.now.hb (g8, y) (by simp)).load
            simp only at hl
            rw [← e14] at hl
            exact hl
          · intro vals p hI hp
            have h0 : (vals 0) = .agg (bcells y) := hp 0 (by simp [Lparses90])
            have h1 : (vals 1) = .agg (bcells y) := hp 1 (by simp [Lparses90])
            have e48 : (Roll.putD Dparses90 vals [0, 1] b0).eval (.tmp 48) = .agg (bcells y) := (Roll.eval_new 0 rfl (by decide) (by decide) (by omega)).trans h0
            have e49 : (Roll.putD Dparses90 vals [0, 1] b0).eval (.tmp 49) = .agg (bcells y) := (Roll.eval_new 1 rfl (by decide) (by decide) (by omega)).trans h1
            clear hp hlv hN
            unfold Roll.Goes
            simp only [Lparses90, List.getD_cons_zero, List.getD_cons_succ]
            generalize Roll.putD Dparses90 vals [0, 1] b0 = a1 at *
            refine Roll.goes_val (w' := p) (.bool false) rfl ?_ ⟨hI, Below.refl _ _, rfl⟩
            (have ec : ∀ x, a1.eval (.const x) = x := fun _ => rfl); (have ef : ∀ x, a1.eval (.func x) = .func (.func x) #[] #[] := fun _ => rfl); generalize a1.eval = ρ at *
            clear h0 h1
            go_simp <;> (intros; first | (exfalso; omega) | rfl)
          · intro vals p hI hp
            have h2 : (vals 2) = .bool false := hp 2 (by simp [Lparses90])
            have e50 : (Roll.putD Dparses90 vals [2] b0).eval (.tmp 50) = .bool false := (Roll.eval_new 2 rfl (by decide) (by decide) (by omega)).trans h2
            clear hp hlv hN
            unfold Roll.Goes
            simp only [Lparses90, List.getD_cons_zero, List.getD_cons_succ]
            generalize Roll.putD Dparses90 vals [2] b0 = a1 at *
            refine Roll.goes_val (w' := p) (.bool false) rfl ?_ ⟨hI, Below.refl _ _, rfl⟩
            (have ec : ∀ x, a1.eval (.const x) = x := fun _ => rfl); (have ef : ∀ x, a1.eval (.func x) = .func (.func x) #[] #[] := fun _ => rfl); generalize a1.eval = ρ at *
            clear h2
            go_simp <;> (intros; first | (exfalso; omega) | rfl)
          · intro vals p hI hp
            have h3 : (vals 3) = .bool false := hp 3 (by simp [Lparses90])
            have e13 : (Roll.putD Dparses90 vals [3] b0).eval (.tmp 13) = .int .i64 0 := (Roll.eval_old rfl).trans (hlv.at 3 (13, .int .i64 0) rfl)
            clear hp hlv hN
            refine ⟨fun hg => ?_, fun hg => absurd h3 hg⟩
            clear hg
            unfold Roll.Goes
            simp only [Lparses90, List.getD_cons_zero, List.getD_cons_succ]
            generalize Roll.putD Dparses90 vals [3] b0 = a1 at *
            refine Roll.goes_val (w' := p) (.int .i64 0) rfl ?_ ⟨hI, Below.refl _ _, rfl⟩
            (have ec : ∀ x, a1.eval (.const x) = x := fun _ => rfl); (have ef : ∀ x, a1.eval (.func x) = .func (.func x) #[] #[] := fun _ => rfl); generalize a1.eval = ρ at *
            clear h3
            go_simp <;> (intros; first | (exfalso; omega) | rfl)
          · intro vals p hI hp
            have h3 : (vals 3) = .bool false := hp 3 (by simp [Lparses90])
            have e15 : (Roll.putD Dparses90 vals [3] b0).eval (.tmp 15) = .int .i64 0 := (Roll.eval_old rfl).trans (hlv.at 5 (15, .int .i64 0) rfl)
            clear hp hlv hN
            refine ⟨fun hg => ?_, fun hg => absurd h3 hg⟩
            clear hg
            unfold Roll.Goes
            simp only [Lparses90, List.getD_cons_zero, List.getD_cons_succ]
            generalize Roll.putD Dparses90 vals [3] b0 = a1 at *
            refine Roll.goes_val (w' := p) (.int .i64 0) rfl ?_ ⟨hI, Below.refl _ _, rfl⟩
            (have ec : ∀ x, a1.eval (.const x) = x := fun _ => rfl); (have ef : ∀ x, a1.eval (.func x) = .func (.func x) #[] #[] := fun _ => rfl); generalize a1.eval = ρ at *
            clear h3
            go_simp <;> (intros; first | (exfalso; omega) | rfl)
          · intro vals p hI hp
            have h4 : (vals 4) = .int .i64 0 := hp 4 (by simp [Lparses90])
            have h5 : (vals 5) = .int .i64 0 := hp 5 (by simp [Lparses90])
            have h3 : (vals 3) = .bool false := hp 3 (by simp [Lparses90])
            have e52 : (Roll.putD Dparses90 vals [4, 5, 3] b0).eval (.tmp 52) = .int .i64 0 := (Roll.eval_new 4 rfl (by decide) (by decide) (by omega)).trans h4
            have e53 : (Roll.putD Dparses90 vals [4, 5, 3] b0).eval (.tmp 53) = .int .i64 0 := (Roll.eval_new 5 rfl (by decide) (by decide) (by omega)).trans h5
            clear hp hlv hN
            refine ⟨fun hg => ?_, fun hg => absurd h3 hg⟩
            clear hg
            unfold Roll.Goes
            simp only [Lparses90, List.getD_cons_zero, List.getD_cons_succ]
            generalize Roll.putD Dparses90 vals [4, 5, 3] b0 = a1 at *
            refine Roll.goes_val (w' := p) (.bool false) rfl ?_ ⟨hI, Below.refl _ _, rfl⟩
            (have ec : ∀ x, a1.eval (.const x) = x := fun _ => rfl); (have ef : ∀ x, a1.eval (.func x) = .func (.func x) #[] #[] := fun _ => rfl); generalize a1.eval = ρ at *
            clear h4 h5 h3
            go_simp <;> (intros; first | (exfalso; omega) | rfl)
          · intro vals p hI hp
            have h3 : (vals 3) = .bool false := hp 3 (by simp [Lparses90])
            have h6 : (vals 6) = .bool false := hp 6 (by simp [Lparses90])
            have e51 : (Roll.putD Dparses90 vals [3, 6] b0).eval (.tmp 51) = .bool false := (Roll.eval_new 3 rfl (by decide) (by decide) (by omega)).trans h3
            have e54 : (Roll.putD Dparses90 vals [3, 6] b0).eval (.tmp 54) = .bool false := (Roll.eval_new 6 rfl (by decide) (by decide) (by omega)).trans h6
            clear hp hlv hN
            unfold Roll.Goes
            simp only [Lparses90, List.getD_cons_zero, List.getD_cons_succ]
            generalize Roll.putD Dparses90 vals [3, 6] b0 = a1 at *
            refine Roll.goes_val (w' := p) (.bool false) rfl ?_ ⟨hI, Below.refl _ _, rfl⟩
            (have ec : ∀ x, a1.eval (.const x) = x := fun _ => rfl); (have ef : ∀ x, a1.eval (.func x) = .func (.func x) #[] #[] := fun _ => rfl); generalize a1.eval = ρ at *
            clear h3 h6
            go_simp <;> (intros; first | (exfalso; omega) | rfl)
          · intro vals p hI hp
            have h7 : (vals 7) = .bool false := hp 7 (by simp [Lparses90])
            have e55 : (Roll.putD Dparses90 vals [7] b0).eval (.tmp 55) = .bool false := (Roll.eval_new 7 rfl (by decide) (by decide) (by omega)).trans h7
            clear hp hlv hN
            unfold Roll.Goes
            simp only [Lparses90, List.getD_cons_zero, List.getD_cons_succ]
            generalize Roll.putD Dparses90 vals [7] b0 = a1 at *
            refine Roll.goes_val (w' := p) (.bool false) rfl ?_ ⟨hI, Below.refl _ _, rfl⟩
            (have ec : ∀ x, a1.eval (.const x) = x := fun _ => rfl); (have ef : ∀ x, a1.eval (.func x) = .func (.func x) #[] #[] := fun _ => rfl); generalize a1.eval = ρ at *
            clear h7
            go_simp <;> (intros; first | (exfalso; omega) | rfl)
          · intro vals p hI hp
            have h8 : (vals 8) = .bool false := hp 8 (by simp [Lparses90])
            have e13 : (Roll.putD Dparses90 vals [8] b0).eval (.tmp 13) = .int .i64 0 := (Roll.eval_old rfl).trans (hlv.at 3 (13, .int .i64 0) rfl)
            clear hp hlv hN
            refine ⟨fun hg => ?_, fun hg => absurd h8 hg⟩
            clear hg
            unfold Roll.Goes
            simp only [Lparses90, List.getD_cons_zero, List.getD_cons_succ]
            generalize Roll.putD Dparses90 vals [8] b0 = a1 at *
            refine Roll.goes_val (w' := p) (.int .i64 0) rfl ?_ ⟨hI, Below.refl _ _, rfl⟩
            (have ec : ∀ x, a1.eval (.const x) = x := fun _ => rfl); (have ef : ∀ x, a1.eval (.func x) = .func (.func x) #[] #[] := fun _ => rfl); generalize a1.eval = ρ at *
            clear h8
            go_simp <;> (intros; first | (exfalso; omega) | rfl)
          · intro vals p hI hp
            have h9 : (vals 9) = .int .i64 0 := hp 9 (by simp [Lparses90])
            have h8 : (vals 8) = .bool false := hp 8 (by simp [Lparses90])
            have e57 : (Roll.putD Dparses90 vals [9, 8] b0).eval (.tmp 57) = .int .i64 0 := (Roll.eval_new 9 rfl (by decide) (by decide) (by omega)).trans h9
            clear hp hlv hN
            refine ⟨fun hg => ?_, fun hg => absurd h8 hg⟩
            clear hg
            unfold Roll.Goes
            simp only [Lparses90, List.getD_cons_zero, List.getD_cons_succ]
            generalize Roll.putD Dparses90 vals [9, 8] b0 = a1 at *
            refine Roll.goes_val (w' := p) (.bool true) rfl ?_ ⟨hI, Below.refl _ _, rfl⟩
            (have ec : ∀ x, a1.eval (.const x) = x := fun _ => rfl); (have ef : ∀ x, a1.eval (.func x) = .func (.func x) #[] #[] := fun _ => rfl); generalize a1.eval = ρ at *
            clear h9 h8
            go_simp <;> (intros; first | (exfalso; omega) | rfl)
          · intro vals p hI hp
            have h10 : (vals 10) = .bool true := hp 10 (by simp [Lparses90])
            have h8 : (vals 8) = .bool false := hp 8 (by simp [Lparses90])
            have e58 : (Roll.putD Dparses90 vals [10, 8] b0).eval (.tmp 58) = .bool true := (Roll.eval_new 10 rfl (by decide) (by decide) (by omega)).trans h10
            clear hp hlv hN
            refine ⟨fun hg => ?_, fun hg => absurd h8 hg⟩
            clear hg
            unfold Roll.Goes
            simp only [Lparses90, List.getD_cons_zero, List.getD_cons_succ]
            generalize Roll.putD Dparses90 vals [10, 8] b0 = a1 at *
            refine Roll.goes_val (w' := p) (.bool true) rfl ?_ ⟨hI, Below.refl _ _, rfl⟩
            (have ec : ∀ x, a1.eval (.const x) = x := fun _ => rfl); (have ef : ∀ x, a1.eval (.func x) = .func (.func x) #[] #[] := fun _ => rfl); generalize a1.eval = ρ at *
            clear h10 h8
            go_simp <;> (intros; first | (exfalso; omega) | rfl)
          · intro vals p hI hp
            have h11 : (vals 11) = .bool true := hp 11 (by simp [Lparses90])
            have e12 : (Roll.putD Dparses90 vals [11] b0).eval (.tmp 12) = .pointer (some ⟨g6, 0, none⟩) := (Roll.eval_old rfl).trans (hlv.at 2 (12, .pointer (some ⟨g6, 0, none⟩)) rfl)
            clear hp hlv hN
            refine ⟨fun hg => ?_, fun hg => absurd h11 hg⟩
            clear hg
            unfold Roll.Goes
            simp only [Lparses90, List.getD_cons_zero, List.getD_cons_succ]
            generalize Roll.putD Dparses90 vals [11] b0 = a1 at *
            refine Roll.goes_val (w' := p) (.agg (bcells y)) rfl ?_ ⟨hI, Below.refl _ _, rfl⟩
            have hl := (hI.now.hb (g6, y) (by simp)).load
            simp only at hl
            rw [← e12] at hl
            exact hl
          · intro vals p hI hp
            have h12 : (vals 12) = .agg (bcells y) := hp 12 (by simp [Lparses90])
            have h11 : (vals 11) = .bool true := hp 11 (by simp [Lparses90])
            have e60 : (Roll.putD Dparses90 vals [12, 11] b0).eval (.tmp 60) = .agg (bcells y) := (Roll.eval_new 12 rfl (by decide) (by decide) (by omega)).trans h12
            clear hp hlv hN
            refine ⟨fun hg => ?_, fun hg => absurd h11 hg⟩
            clear hg
            unfold Roll.Goes
            simp only [Lparses90, List.getD_cons_zero, List.getD_cons_succ]
            generalize Roll.putD Dparses90 vals [12, 11] b0 = a1 at *
            refine Roll.goes_call 29 #[.agg (bcells y)] p rfl (by have ec : ∀ x, a1.eval (.const x) = x := fun _ => rfl; have ef : ∀ x, a1.eval (.func x) = .func (.func x) #[] #[] := fun _ => rfl; generalize a1.eval = ρ at *; go_simp) ?_
            refine (hex_any y p hy).mono ?_
            rw [HSS.out]
            rintro e p2 ⟨rfl, hb⟩
            exact ⟨_, rfl, hI.step hb, hb, rfl⟩
          · intro vals p hI hp
            have h11 : (vals 11) = .bool true := hp 11 (by simp [Lparses90])
            have e10 : (Roll.putD Dparses90 vals [11] b0).eval (.tmp 10) = .slice (some ⟨g2, 0, none⟩) 2 2 := (Roll.eval_old rfl).trans (hlv.at 0 (10, .slice (some ⟨g2, 0, none⟩) 2 2) rfl)
            clear hp hlv hN
            refine ⟨fun hg => ?_, fun hg => absurd h11 hg⟩
            clear hg
            unfold Roll.Goes
            simp only [Lparses90, List.getD_cons_zero, List.getD_cons_succ]
            generalize Roll.putD Dparses90 vals [11] b0 = a1 at *
            refine Roll.goes_val (w' := p) (.slice (some ⟨g2, 0, none⟩) 2 2) rfl ?_ ⟨hI, Below.refl _ _, rfl⟩
            (have ec : ∀ x, a1.eval (.const x) = x := fun _ => rfl); (have ef : ∀ x, a1.eval (.func x) = .func (.func x) #[] #[] := fun _ => rfl); generalize a1.eval = ρ at *
            clear h11
            go_simp <;> (intros; first | (exfalso; omega) | rfl)
          · intro vals p hI hp
            have h11 : (vals 11) = .bool true := hp 11 (by simp [Lparses90])
            have e11 : (Roll.putD Dparses90 vals [11] b0).eval (.tmp 11) = .int .i64 (k : Int) := (Roll.eval_old rfl).trans (hlv.at 1 (11, .int .i64 (k : Int)) rfl)
            clear hp hlv hN
            refine ⟨fun hg => ?_, fun hg => absurd h11 hg⟩
            clear hg
            unfold Roll.Goes
            simp only [Lparses90, List.getD_cons_zero, List.getD_cons_succ]
            generalize Roll.putD Dparses90 vals [11] b0 = a1 at *
            refine Roll.goes_val (w' := p) (.int .i64 (k : Int)) rfl ?_ ⟨hI, Below.refl _ _, rfl⟩
            (have ec : ∀ x, a1.eval (.const x) = x := fun _ => rfl); (have ef : ∀ x, a1.eval (.func x) = .func (.func x) #[] #[] := fun _ => rfl); generalize a1.eval = ρ at *
            clear h11
            go_simp <;> (intros; first | (exfalso; omega) | rfl)
          · intro vals p hI hp
            have h14 : (vals 14) = .slice (some ⟨g2, 0, none⟩) 2 2 := hp 14 (by simp [Lparses90])
            have h15 : (vals 15) = .int .i64 (k : Int) := hp 15 (by simp [Lparses90])
            have h11 : (vals 11) = .bool true := hp 11 (by simp [Lparses90])
            have e62 : (Roll.putD Dparses90 vals [14, 15, 11] b0).eval (.tmp 62) = .slice (some ⟨g2, 0, none⟩) 2 2 := (Roll.eval_new 14 rfl (by decide) (by decide) (by omega)).trans h14
            have e63 : (Roll.putD Dparses90 vals [14, 15, 11] b0).eval (.tmp 63) = .int .i64 (k : Int) := (Roll.eval_new 15 rfl (by decide) (by decide) (by omega)).trans h15
            clear hp hlv hN
            refine ⟨fun hg => ?_, fun hg => absurd h11 hg⟩
            clear hg
            unfold Roll.Goes
            simp only [Lparses90, List.getD_cons_zero, List.getD_cons_succ]
            generalize Roll.putD Dparses90 vals [14, 15, 11] b0 = a1 at *
            refine Roll.goes_val (w' := p) (.pointer (some ⟨g2, k, none⟩)) rfl ?_ ⟨hI, Below.refl _ _, rfl⟩
            (have ec : ∀ x, a1.eval (.const x) = x := fun _ => rfl); (have ef : ∀ x, a1.eval (.func x) = .func (.func x) #[] #[] := fun _ => rfl); generalize a1.eval = ρ at *
            clear h14 h15 h11
            go_simp <;> (intros; first | (exfalso; omega) | rfl)
          · intro vals p hI hp
            have h16 : (vals 16) = .pointer (some ⟨g2, k, none⟩) := hp 16 (by simp [Lparses90])
            have h11 : (vals 11) = .bool true := hp 11 (by simp [Lparses90])
            have e64 : (Roll.putD Dparses90 vals [16, 11] b0).eval (.tmp 64) = .pointer (some ⟨g2, k, none⟩) := (Roll.eval_new 16 rfl (by decide) (by decide) (by omega)).trans h16
            clear hp hlv hN
            refine ⟨fun hg => ?_, fun hg => absurd h11 hg⟩
            clear hg
            unfold Roll.Goes
            simp only [Lparses90, List.getD_cons_zero, List.getD_cons_succ]
            generalize Roll.putD Dparses90 vals [16, 11] b0 = a1 at *
            refine Roll.goes_val (w' := p) (.string S) rfl ?_ ⟨hI, Below.refl _ _, rfl⟩
            have hc := HCell.out _ _ hI
            generalize a1.eval = ρ at *
            go_simp
          · intro vals p hI hp
            have h13 : (vals 13) = .string S := hp 13 (by simp [Lparses90])
            have h17 : (vals 17) = .string S := hp 17 (by simp [Lparses90])
            have h11 : (vals 11) = .bool true := hp 11 (by simp [Lparses90])
            have e61 : (Roll.putD Dparses90 vals [13, 17, 11] b0).eval (.tmp 61) = .string S := (Roll.eval_new 13 rfl (by decide) (by decide) (by omega)).trans h13
            have e65 : (Roll.putD Dparses90 vals [13, 17, 11] b0).eval (.tmp 65) = .string S := (Roll.eval_new 17 rfl (by decide) (by decide) (by omega)).trans h17
            clear hp hlv hN
            refine ⟨fun hg => ?_, fun hg => absurd h11 hg⟩
            clear hg
            unfold Roll.Goes
            simp only [Lparses90, List.getD_cons_zero, List.getD_cons_succ]
            generalize Roll.putD Dparses90 vals [13, 17, 11] b0 = a1 at *
            refine Roll.goes_val (w' := p) (.bool false) rfl ?_ ⟨hI, Below.refl _ _, rfl⟩
            (have ec : ∀ x, a1.eval (.const x) = x := fun _ => rfl); (have ef : ∀ x, a1.eval (.func x) = .func (.func x) #[] #[] := fun _ => rfl); generalize a1.eval = ρ at *
            clear h13 h17 h11
            go_simp <;> (intros; first | (exfalso; omega) | rfl)
          · intro vals p hI hp
            have h11 : (vals 11) = .bool true := hp 11 (by simp [Lparses90])
            have h18 : (vals 18) = .bool false := hp 18 (by simp [Lparses90])
            have h8 : (vals 8) = .bool false := hp 8 (by simp [Lparses90])
            have e59 : (Roll.putD Dparses90 vals [11, 18, 8] b0).eval (.tmp 59) = .bool true := (Roll.eval_new 11 rfl (by decide) (by decide) (by omega)).trans h11
            have e66 : (Roll.putD Dparses90 vals [11, 18, 8] b0).eval (.tmp 66) = .bool false := (Roll.eval_new 18 rfl (by decide) (by decide) (by omega)).trans h18
            clear hp hlv hN
            refine ⟨fun hg => ?_, fun hg => absurd h8 hg⟩
            clear hg
            unfold Roll.Goes
            simp only [Lparses90, List.getD_cons_zero, List.getD_cons_succ]
            generalize Roll.putD Dparses90 vals [11, 18, 8] b0 = a1 at *
            refine Roll.goes_val (w' := p) (.bool false) rfl ?_ ⟨hI, Below.refl _ _, rfl⟩
            (have ec : ∀ x, a1.eval (.const x) = x := fun _ => rfl); (have ef : ∀ x, a1.eval (.func x) = .func (.func x) #[] #[] := fun _ => rfl); generalize a1.eval = ρ at *
            clear h11 h18 h8
            go_simp <;> (intros; first | (exfalso; omega) | rfl)
          · intro vals p hI hp
            have h8 : (vals 8) = .bool false := hp 8 (by simp [Lparses90])
            have h19 : (vals 19) = .bool false := hp 19 (by simp [Lparses90])
            have e56 : (Roll.putD Dparses90 vals [8, 19] b0).eval (.tmp 56) = .bool false := (Roll.eval_new 8 rfl (by decide) (by decide) (by omega)).trans h8
            have e67 : (Roll.putD Dparses90 vals [8, 19] b0).eval (.tmp 67) = .bool false := (Roll.eval_new 19 rfl (by decide) (by decide) (by omega)).trans h19
            clear hp hlv hN
            unfold Roll.Goes
            simp only [Lparses90, List.getD_cons_zero, List.getD_cons_succ]
            generalize Roll.putD Dparses90 vals [8, 19] b0 = a1 at *
            refine Roll.goes_val (w' := p) (.bool false) rfl ?_ ⟨hI, Below.refl _ _, rfl⟩
            (have ec : ∀ x, a1.eval (.const x) = x := fun _ => rfl); (have ef : ∀ x, a1.eval (.func x) = .func (.func x) #[] #[] := fun _ => rfl); generalize a1.eval = ρ at *
            clear h8 h19
            go_simp <;> (intros; first | (exfalso; omega) | rfl)
        · intro vals p hI hR
          have h0 : (vals 0) = .agg (bcells y) := hR 0 (by omega)
          have h1 : (vals 1) = .agg (bcells y) := hR 1 (by omega)
          have h2 : (vals 2) = .bool false := hR 2 (by omega)
          have h3 : (vals 3) = .bool false := hR 3 (by omega)
          have h4 : (vals 4) = .int .i64 0 := hR 4 (by omega)
          have h5 : (vals 5) = .int .i64 0 := hR 5 (by omega)
          have h6 : (vals 6) = .bool false := hR 6 (by omega)
          have h7 : (vals 7) = .bool false := hR 7 (by omega)
          have h8 : (vals 8) = .bool false := hR 8 (by omega)
          have h9 : (vals 9) = .int .i64 0 := hR 9 (by omega)
          have h10 : (vals 10) = .bool true := hR 10 (by omega)
          have h11 : (vals 11) = .bool true := hR 11 (by omega)
          have h12 : (vals 12) = .agg (bcells y) := hR 12 (by omega)
          have h13 : (vals 13) = .string S := hR 13 (by omega)
          have h14 : (vals 14) = .slice (some ⟨g2, 0, none⟩) 2 2 := hR 14 (by omega)
          have h15 : (vals 15) = .int .i64 (k : Int) := hR 15 (by omega)
          have h16 : (vals 16) = .pointer (some ⟨g2, k, none⟩) := hR 16 (by omega)
          have h17 : (vals 17) = .string S := hR 17 (by omega)
          have h18 : (vals 18) = .bool false := hR 18 (by omega)
          have h19 : (vals 19) = .bool false := hR 19 (by omega)
          have h20 : (vals 20) = .bool false := hR 20 (by omega)
          clear hR
          simp only [List.range_succ, List.range_zero, List.nil_append, List.cons_append, Roll.putD, Act.put, List.getD_cons_zero, List.getD_cons_succ, List.setIfInBounds_toArray, List.set_cons_zero, List.set_cons_succ, List.drop_succ_cons, List.drop_zero, Dparses90]
          simp only [h0, h1, h2, h3, h4, h5, h6, h7, h8, h9, h10, h11, h12, h13, h14, h15, h16, h17, h18, h19, h20]
          clear h0 h1 h2 h3 h4 h5 h6 h7 h8 h9 h10 h11 h12 h13 h14 h15 h16 h17 h18 h19 h20
          have N10 := Lib.hid hI
          clear hI
          go_wp2_with fail
          go_roundw
          case rel => exact ⟨k + 1, by omega, by go_num, N10.out.weak⟩
          case measure => simp [intOf]; omega
      · skip
        refine Roll.region_f 21 70 Dparses97 Lparses97 [(10, .slice (some ⟨g2, 0, none⟩) 2 2), (11, .int .i64 (k : Int)), (12, .pointer (some ⟨g6, 0, none⟩)), (13, .int .i64 7), (14, .pointer (some ⟨g8, 0, none⟩)), (15, .int .i64 7)] (fun p => PW w g2 #[.string s, .string T2] p [(g8, y), (g6, y)]) (fun p p' => Below p.heap.size p p') [fun vv p => vv = .agg (bcells y), fun vv p => vv = .agg (bcells y), fun vv p => vv = .bool false, fun vv p => vv = .bool false, fun vv p => vv = .int .i64 7, fun vv p => vv = .int .i64 7, fun vv p => vv = .bool false, fun vv p => vv = .bool false, fun vv p => vv = .bool false, fun vv p => vv = .int .i64 7, fun vv p => vv = .bool false, fun vv p => vv = .bool false, fun vv p => vv = undef, fun vv p => vv = undef, fun vv p => vv = undef, fun vv p => vv = undef, fun vv p => vv = undef, fun vv p => vv = undef, fun vv p => vv = undef, fun vv p => vv = .bool false, fun vv p => vv = .bool false] (by kernel_rfl) (by kernel_rfl) rfl ⟨rfl, rfl, rfl, rfl, rfl, rfl, trivial⟩ (N9.out.step (Below.refl _ _).drew) ?_ ?_ ?_
        · exact ⟨fun _ _ _ _ h => h, fun _ _ _ _ h => h, fun _ _ _ _ h => h, fun _ _ _ _ h => h, fun _ _ _ _ h => h, fun _ _ _ _ h => h, fun _ _ _ _ h => h, fun _ _ _ _ h => h, fun _ _ _ _ h => h, fun _ _ _ _ h => h, fun _ _ _ _ h => h, fun _ _ _ _ h => h, fun _ _ _ _ h => h, fun _ _ _ _ h => h, fun _ _ _ _ h => h, fun _ _ _ _ h => h, fun _ _ _ _ h => h, fun _ _ _ _ h => h, fun _ _ _ _ h => h, fun _ _ _ _ h => h, fun _ _ _ _ h => h, trivial⟩
        · intro b0 hN hlv
          refine ⟨?_, ?_, ?_, ?_, ?_, ?_, ?_, ?_, ?_, ?_, ?_, ?_, ?_, ?_, ?_, ?_, ?_, ?_, ?_, ?_, ?_, trivial⟩
          · intro vals p hI hp
            have e12 : (Roll.putD Dparses97 vals [] b0).eval (.tmp 12) = .pointer (some ⟨g6, 0, none⟩) := (Roll.eval_old rfl).trans (hlv.at 2 (12, .pointer (some ⟨g6, 0, none⟩)) rfl)
            clear hp hlv hN
            unfold Roll.Goes
            simp only [Lparses97, List.getD_cons_zero, List.getD_cons_succ]
            generalize Roll.putD Dparses97 vals [] b0 = a1 at *
            refine Roll.goes_val (w' := p) (.agg (bcells y)) rfl ?_ ⟨hI, Below.refl _ _, rfl⟩
            have hl := (hI.now.hb (g6, y) (by simp)).load
            simp only at hl
            rw [← e12] at hl
            exact hl
          · intro vals p hI hp
            have e14 : (Roll.putD Dparses97 vals [] b0).eval (.tmp 14) = .pointer (some ⟨g8, 0, none⟩) := (Roll.eval_old rfl).trans (hlv.at 4 (14, .pointer (some ⟨g8, 0, none⟩)) rfl)
            clear hp hlv hN
            unfold Roll.Goes
            simp only [Lparses97, List.getD_cons_zero, List.getD_cons_succ]
            generalize Roll.putD Dparses97 vals [] b0 = a1 at *
            refine Roll.goes_val (w' := p) (.agg (bcells y)) rfl ?_ ⟨hI, Below.refl _ _, rfl⟩
            have hl := (hI.now.hb (g8, y) (by simp)).load
            simp only at hl
            rw [← e14] at hl
            exact hl
          · intro vals p hI hp
            have h0 : (vals 0) = .agg (bcells y) := hp 0 (by simp [Lparses97])
            have h1 : (vals 1) = .agg (bcells y) := hp 1 (by simp [Lparses97])
            have e48 : (Roll.putD Dparses97 vals [0, 1] b0).eval (.tmp 48) = .agg (bcells y) := (Roll.eval_new 0 rfl (by decide) (by decide) (by omega)).trans h0
            have e49 : (Roll.putD Dparses97 vals [0, 1] b0).eval (.tmp 49) = .agg (bcells y) := (Roll.eval_new 1 rfl (by decide) (by decide) (by omega)).trans h1
            clear hp hlv hN
            unfold Roll.Goes
            simp only [Lparses97, List.getD_cons_zero, List.getD_cons_succ]
            generalize Roll.putD Dparses97 vals [0, 1] b0 = a1 at *
            refine Roll.goes_val (w' := p) (.bool false) rfl ?_ ⟨hI, Below.refl _ _, rfl⟩
            (have ec : ∀ x, a1.eval (.const x) = x := fun _ => rfl); (have ef : ∀ x, a1.eval (.func x) = .func (.func x) #[] #[] := fun _ => rfl); generalize a1.eval = ρ at *
            clear h0 h1
            go_simp <;> (intros; first | (exfalso; omega) | rfl)
          · intro vals p hI hp
            have h2 : (vals 2) = .bool false := hp 2 (by simp [Lparses97])
            have e50 : (Roll.putD Dparses97 vals [2] b0).eval (.tmp 50) = .bool false := (Roll.eval_new 2 rfl (by decide) (by decide) (by omega)).trans h2
            clear hp hlv hN
            unfold Roll.Goes
            simp only [Lparses97, List.getD_cons_zero, List.getD_cons_succ]
            generalize Roll.putD Dparses97 vals [2] b0 = a1 at *
            refine Roll.goes_val (w' := p) (.bool false) rfl ?_ ⟨hI, Below.refl _ _, rfl⟩
            (have ec : ∀ x, a1.eval (.const x) = x := fun _ => rfl); (have ef : ∀ x, a1.eval (.func x) = .func (.func x) #[] #[] := fun _ => rfl); generalize a1.eval = ρ at *
            clear h2
            go_simp <;> (intros; first | (exfalso; omega) | rfl)
          · intro vals p hI hp
            have h3 : (vals 3) = .bool false := hp 3 (by simp [Lparses97])
            have e13 : (Roll.putD Dparses97 vals [3] b0).eval (.tmp 13) = .int .i64 7 := (Roll.eval_old rfl).trans (hlv.at 3 (13, .int .i64 7) rfl)
            clear hp hlv hN
            refine ⟨fun hg => ?_, fun hg => absurd h3 hg⟩
            clear hg
            unfold Roll.Goes
            simp only [Lparses97, List.getD_cons_zero, List.getD_cons_succ]
            generalize Roll.putD Dparses97 vals [3] b0 = a1 at *
            refine Roll.goes_val (w' := p) (.int .i64 7) rfl ?_ ⟨hI, Below.refl _ _, rfl⟩
            (have ec : ∀ x, a1.eval (.const x) = x := fun _ => rfl); (have ef : ∀ x, a1.eval (.func x) = .func (.func x) #[] #[] := fun _ => rfl); generalize a1.eval = ρ at *
            clear h3
            go_simp <;> (intros; first | (exfalso; omega) | rfl)
          · intro vals p hI hp
            have h3 : (vals 3) = .bool false := hp 3 (by simp [Lparses97])
            have e15 : (Roll.putD Dparses97 vals [3] b0).eval (.tmp 15) = .int .i64 7 := (Roll.eval_old rfl).trans (hlv.at 5 (15, .int .i64 7) rfl)
            clear hp hlv hN
            refine ⟨fun hg => ?_, fun hg => absurd h3 hg⟩
            clear hg
            unfold Roll.Goes
            simp only [Lparses97, List.getD_cons_zero, List.getD_cons_succ]
            generalize Roll.putD Dparses97 vals [3] b0 = a1 at *
            refine Roll.goes_val (w' := p) (.int .i64 7) rfl ?_ ⟨hI, Below.refl _ _, rfl⟩
            (have ec : ∀ x, a1.eval (.const x) = x := fun _ => rfl); (have ef : ∀ x, a1.eval (.func x) = .func (.func x) #[] #[] := fun _ => rfl); generalize a1.eval = ρ at *
            clear h3
            go_simp <;> (intros; first | (exfalso; omega) | rfl)
          · intro vals p hI hp
            have h4 : (vals 4) = .int .i64 7 := hp 4 (by simp [Lparses97])
            have h5 : (vals 5) = .int .i64 7 := hp 5 (by simp [Lparses97])
            have h3 : (vals 3) = .bool false := hp 3 (by simp [Lparses97])
            have e52 : (Roll.putD Dparses97 vals [4, 5, 3] b0).eval (.tmp 52) = .int .i64 7 := (Roll.eval_new 4 rfl (by decide) (by decide) (by omega)).trans h4
            have e53 : (Roll.putD Dparses97 vals [4, 5, 3] b0).eval (.tmp 53) = .int .i64 7 := (Roll.eval_new 5 rfl (by decide) (by decide) (by omega)).trans h5
            clear hp hlv hN
            refine ⟨fun hg => ?_, fun hg => absurd h3 hg⟩
            clear hg
            unfold Roll.Goes
            simp only [Lparses97, List.getD_cons_zero, List.getD_cons_succ]
            generalize Roll.putD Dparses97 vals [4, 5, 3] b0 = a1 at *
            refine Roll.goes_val (w' := p) (.bool false) rfl ?_ ⟨hI, Below.refl _ _, rfl⟩
            (have ec : ∀ x, a1.eval (.const x) = x := fun _ => rfl); (have ef : ∀ x, a1.eval (.func x) = .func (.func x) #[] #[] := fun _ => rfl); generalize a1.eval = ρ at *
            clear h4 h5 h3
            go_simp <;> (intros; first | (exfalso; omega) | rfl)
          · intro vals p hI hp
            have h3 : (vals 3) = .bool false := hp 3 (by simp [Lparses97])
            have h6 : (vals 6) = .bool false := hp 6 (by simp [Lparses97])
            have e51 : (Roll.putD Dparses97 vals [3, 6] b0).eval (.tmp 51) = .bool false := (Roll.eval_new 3 rfl (by decide) (by decide) (by omega)).trans h3
            have e54 : (Roll.putD Dparses97 vals [3, 6] b0).eval (.tmp 54) = .bool false := (Roll.eval_new 6 rfl (by decide) (by decide) (by omega)).trans h6
            clear hp hlv hN
            unfold Roll.Goes
            simp only [Lparses97, List.getD_cons_zero, List.getD_cons_succ]
            generalize Roll.putD Dparses97 vals [3, 6] b0 = a1 at *
            refine Roll.goes_val (w' := p) (.bool false) rfl ?_ ⟨hI, Below.refl _ _, rfl⟩
            (have ec : ∀ x, a1.eval (.const x) = x := fun _ => rfl); (have ef : ∀ x, a1.eval (.func x) = .func (.func x) #[] #[] := fun _ => rfl); generalize a1.eval = ρ at *
            clear h3 h6
            go_simp <;> (intros; first | (exfalso; omega) | rfl)
          · intro vals p hI hp
            have h7 : (vals 7) = .bool false := hp 7 (by simp [Lparses97])
            have e55 : (Roll.putD Dparses97 vals [7] b0).eval (.tmp 55) = .bool false := (Roll.eval_new 7 rfl (by decide) (by decide) (by omega)).trans h7
            clear hp hlv hN
            unfold Roll.Goes
            simp only [Lparses97, List.getD_cons_zero, List.getD_cons_succ]
            generalize Roll.putD Dparses97 vals [7] b0 = a1 at *
            refine Roll.goes_val (w' := p) (.bool false) rfl ?_ ⟨hI, Below.refl _ _, rfl⟩
            (have ec : ∀ x, a1.eval (.const x) = x := fun _ => rfl); (have ef : ∀ x, a1.eval (.func x) = .func (.func x) #[] #[] := fun _ => rfl); generalize a1.eval = ρ at *
            clear h7
            go_simp <;> (intros; first | (exfalso; omega) | rfl)
          · intro vals p hI hp
            have h8 : (vals 8) = .bool false := hp 8 (by simp [Lparses97])
            have e13 : (Roll.putD Dparses97 vals [8] b0).eval (.tmp 13) = .int .i64 7 := (Roll.eval_old rfl).trans (hlv.at 3 (13, .int .i64 7) rfl)
            clear hp hlv hN
            refine ⟨fun hg => ?_, fun hg => absurd h8 hg⟩
            clear hg
            unfold Roll.Goes
            simp only [Lparses97, List.getD_cons_zero, List.getD_cons_succ]
            generalize Roll.putD Dparses97 vals [8] b0 = a1 at *
            refine Roll.goes_val (w' := p) (.int .i64 7) rfl ?_ ⟨hI, Below.refl _ _, rfl⟩
            (have ec : ∀ x, a1.eval (.const x) = x := fun _ => rfl); (have ef : ∀ x, a1.eval (.func x) = .func (.func x) #[] #[] := fun _ => rfl); generalize a1.eval = ρ at *
            clear h8
            go_simp <;> (intros; first | (exfalso; omega) | rfl)
          · intro vals p hI hp
            have h9 : (vals 9) = .int .i64 7 := hp 9 (by simp [Lparses97])
            have h8 : (vals 8) = .bool false := hp 8 (by simp [Lparses97])
            have e57 : (Roll.putD Dparses97 vals [9, 8] b0).eval (.tmp 57) = .int .i64 7 := (Roll.eval_new 9 rfl (by decide) (by decide) (by omega)).trans h9
            clear hp hlv hN
            refine ⟨fun hg => ?_, fun hg => absurd h8 hg⟩
            clear hg
            unfold Roll.Goes
            simp only [Lparses97, List.getD_cons_zero, List.getD_cons_succ]
            generalize Roll.putD Dparses97 vals [9, 8] b0 = a1 at *
            refine Roll.goes_val (w' := p) (.bool false) rfl ?_ ⟨hI, Below.refl _ _, rfl⟩
            (have ec : ∀ x, a1.eval (.const x) = x := fun _ => rfl); (have ef : ∀ x, a1.eval (.func x) = .func (.func x) #[] #[] := fun _ => rfl); generalize a1.eval = ρ at *
            clear h9 h8
            go_simp <;> (intros; first | (exfalso; omega) | rfl)
          · intro vals p hI hp
            have h10 : (vals 10) = .bool false := hp 10 (by simp [Lparses97])
            have h8 : (vals 8) = .bool false := hp 8 (by simp [Lparses97])
            have e58 : (Roll.putD Dparses97 vals [10, 8] b0).eval (.tmp 58) = .bool false := (Roll.eval_new 10 rfl (by decide) (by decide) (by omega)).trans h10
            clear hp hlv hN
            refine ⟨fun hg => ?_, fun hg => absurd h8 hg⟩
            clear hg
            unfold Roll.Goes
            simp only [Lparses97, List.getD_cons_zero, List.getD_cons_succ]
            generalize Roll.putD Dparses97 vals [10, 8] b0 = a1 at *
            refine Roll.goes_val (w' := p) (.bool false) rfl ?_ ⟨hI, Below.refl _ _, rfl⟩
            (have ec : ∀ x, a1.eval (.const x) = x := fun _ => rfl); (have ef : ∀ x, a1.eval (.func x) = .func (.func x) #[] #[] := fun _ => rfl); generalize a1.eval = ρ at *
            clear h10 h8
            go_simp <;> (intros; first | (exfalso; omega) | rfl)
          · intro vals p hI hp
            have h11 : (vals 11) = .bool false := hp 11 (by simp [Lparses97])
            have e12 : (Roll.putD Dparses97 vals [11] b0).eval (.tmp 12) = .pointer (some ⟨g6, 0, none⟩) := (Roll.eval_old rfl).trans (hlv.at 2 (12, .pointer (some ⟨g6, 0, none⟩)) rfl)
            clear hp hlv hN
            exact ⟨fun hg => absurd (h11.symm.trans hg) (by simp), fun hg => ⟨Below.refl _ _, rfl⟩⟩
          · intro vals p hI hp
            have h12 : (vals 12) = undef := hp 12 (by simp [Lparses97])
            have h11 : (vals 11) = .bool false := hp 11 (by simp [Lparses97])
            have e60 : (Roll.putD Dparses97 vals [12, 11] b0).eval (.tmp 60) = undef := (Roll.eval_new 12 rfl (by decide) (by decide) (by omega)).trans h12
            clear hp hlv hN
            exact ⟨fun hg => absurd (h11.symm.trans hg) (by simp), fun hg => ⟨Below.refl _ _, rfl⟩⟩
          · intro vals p hI hp
            have h11 : (vals 11) = .bool false := hp 11 (by simp [Lparses97])
            have e10 : (Roll.putD Dparses97 vals [11] b0).eval (.tmp 10) = .slice (some ⟨g2, 0, none⟩) 2 2 := (Roll.eval_old rfl).trans (hlv.at 0 (10, .slice (some ⟨g2, 0, none⟩) 2 2) rfl)
            clear hp hlv hN
            exact ⟨fun hg => absurd (h11.symm.trans hg) (by simp), fun hg => ⟨Below.refl _ _, rfl⟩⟩
          · intro vals p hI hp
            have h11 : (vals 11) = .bool false := hp 11 (by simp [Lparses97])
            have e11 : (Roll.putD Dparses97 vals [11] b0).eval (.tmp 11) = .int .i64 (k : Int) := (Roll.eval_old rfl).trans (hlv.at 1 (11, .int .i64 (k : Int)) rfl)
            clear hp hlv hN
            exact ⟨fun hg => absurd (h11.symm.trans hg) (by simp), fun hg => ⟨Below.refl _ _, rfl⟩⟩
          · intro vals p hI hp
            have h14 : (vals 14) = undef := hp 14 (by simp [Lparses97])
            have h15 : (vals 15) = undef := hp 15 (by simp [Lparses97])
            have h11 : (vals 11) = .bool false := hp 11 (by simp [Lparses97])
            have e62 : (Roll.putD Dparses97 vals [14, 15, 11] b0).eval (.tmp 62) = undef := (Roll.eval_new 14 rfl (by decide) (by decide) (by omega)).trans h14
            have e63 : (Roll.putD Dparses97 vals [14, 15, 11] b0).eval (.tmp 63) = undef := (Roll.eval_new 15 rfl (by decide) (by decide) (by omega)).trans h15
            clear hp hlv hN
            exact ⟨fun hg => absurd (h11.symm.trans hg) (by simp), fun hg => ⟨Below.refl _ _, rfl⟩⟩
          · intro vals p hI hp
            have h16 : (vals 16) = undef := hp 16 (by simp [Lparses97])
            have h11 : (vals 11) = .bool false := hp 11 (by simp [Lparses97])
            have e64 : (Roll.putD Dparses97 vals [16, 11] b0).eval (.tmp 64) = undef := (Roll.eval_new 16 rfl (by decide) (by decide) (by omega)).trans h16
            clear hp hlv hN
            exact ⟨fun hg => absurd (h11.symm.trans hg) (by simp), fun hg => ⟨Below.refl _ _, rfl⟩⟩
          · intro vals p hI hp
            have h13 : (vals 13) = undef := hp 13 (by simp [Lparses97])
            have h17 : (vals 17) = undef := hp 17 (by simp [Lparses97])
            have h11 : (vals 11) = .bool false := hp 11 (by simp [Lparses97])
            have e61 : (Roll.putD Dparses97 vals [13, 17, 11] b0).eval (.tmp 61) = undef := (Roll.eval_new 13 rfl (by decide) (by decide) (by omega)).trans h13
            have e65 : (Roll.putD Dparses97 vals [13, 17, 11] b0).eval (.tmp 65) = undef := (Roll.eval_new 17 rfl (by decide) (by decide) (by omega)).trans h17
            clear hp hlv hN
            exact ⟨fun hg => absurd (h11.symm.trans hg) (by simp), fun hg => ⟨Below.refl _ _, rfl⟩⟩
          · intro vals p hI hp
            have h11 : (vals 11) = .bool false := hp 11 (by simp [Lparses97])
            have h18 : (vals 18) = undef := hp 18 (by simp [Lparses97])
            have h8 : (vals 8) = .bool false := hp 8 (by simp [Lparses97])
            have e59 : (Roll.putD Dparses97 vals [11, 18, 8] b0).eval (.tmp 59) = .bool false := (Roll.eval_new 11 rfl (by decide) (by decide) (by omega)).trans h11
            have e66 : (Roll.putD Dparses97 vals [11, 18, 8] b0).eval (.tmp 66) = undef := (Roll.eval_new 18 rfl (by decide) (by decide) (by omega)).trans h18
            clear hp hlv hN
            refine ⟨fun hg => ?_, fun hg => absurd h8 hg⟩
            clear hg
            unfold Roll.Goes
            simp only [Lparses97, List.getD_cons_zero, List.getD_cons_succ]
            generalize Roll.putD Dparses97 vals [11, 18, 8] b0 = a1 at *
            refine Roll.goes_val (w' := p) (.bool false) rfl ?_ ⟨hI, Below.refl _ _, rfl⟩
            (have ec : ∀ x, a1.eval (.const x) = x := fun _ => rfl); (have ef : ∀ x, a1.eval (.func x) = .func (.func x) #[] #[] := fun _ => rfl); generalize a1.eval = ρ at *
            clear h11 h18 h8
            go_simp <;> (intros; first | (exfalso; omega) | rfl)
          · intro vals p hI hp
            have h8 : (vals 8) = .bool false := hp 8 (by simp [Lparses97])
            have h19 : (vals 19) = .bool false := hp 19 (by simp [Lparses97])
            have e56 : (Roll.putD Dparses97 vals [8, 19] b0).eval (.tmp 56) = .bool false := (Roll.eval_new 8 rfl (by decide) (by decide) (by omega)).trans h8
            have e67 : (Roll.putD Dparses97 vals [8, 19] b0).eval (.tmp 67) = .bool false := (Roll.eval_new 19 rfl (by decide) (by decide) (by omega)).trans h19
            clear hp hlv hN
            unfold Roll.Goes
            simp only [Lparses97, List.getD_cons_zero, List.getD_cons_succ]
            generalize Roll.putD Dparses97 vals [8, 19] b0 = a1 at *
            refine Roll.goes_val (w' := p) (.bool false) rfl ?_ ⟨hI, Below.refl _ _, rfl⟩
            (have ec : ∀ x, a1.eval (.const x) = x := fun _ => rfl); (have ef : ∀ x, a1.eval (.func x) = .func (.func x) #[] #[] := fun _ => rfl); generalize a1.eval = ρ at *
            clear h8 h19
            go_simp <;> (intros; first | (exfalso; omega) | rfl)
        · intro vals p hI hR
          have h0 : (vals 0) = .agg (bcells y) := hR 0 (by omega)
          have h1 : (vals 1) = .agg (bcells y) := hR 1 (by omega)
          have h2 : (vals 2) = .bool false := hR 2 (by omega)
          have h3 : (vals 3) = .bool false := hR 3 (by omega)
          have h4 : (vals 4) = .int .i64 7 := hR 4 (by omega)
          have h5 : (vals 5) = .int .i64 7 := hR 5 (by omega)
          have h6 : (vals 6) = .bool false := hR 6 (by omega)
          have h7 : (vals 7) = .bool false := hR 7 (by omega)
          have h8 : (vals 8) = .bool false := hR 8 (by omega)
          have h9 : (vals 9) = .int .i64 7 := hR 9 (by omega)
          have h10 : (vals 10) = .bool false := hR 10 (by omega)
          have h11 : (vals 11) = .bool false := hR 11 (by omega)
          have h12 : (vals 12) = undef := hR 12 (by omega)
          have h13 : (vals 13) = undef := hR 13 (by omega)
          have h14 : (vals 14) = undef := hR 14 (by omega)
          have h15 : (vals 15) = undef := hR 15 (by omega)
          have h16 : (vals 16) = undef := hR 16 (by omega)
          have h17 : (vals 17) = undef := hR 17 (by omega)
          have h18 : (vals 18) = undef := hR 18 (by omega)
          have h19 : (vals 19) = .bool false := hR 19 (by omega)
          have h20 : (vals 20) = .bool false := hR 20 (by omega)
          clear hR
          simp only [List.range_succ, List.range_zero, List.nil_append, List.cons_append, Roll.putD, Act.put, List.getD_cons_zero, List.getD_cons_succ, List.setIfInBounds_toArray, List.set_cons_zero, List.set_cons_succ, List.drop_succ_cons, List.drop_zero, Dparses97]
          simp only [h0, h1, h2, h3, h4, h5, h6, h7, h8, h9, h10, h11, h12, h13, h14, h15, h16, h17, h18, h19, h20]
          clear h0 h1 h2 h3 h4 h5 h6 h7 h8 h9 h10 h11 h12 h13 h14 h15 h16 h17 h18 h19 h20
          have N10 := Lib.hid hI
          clear hI
          go_wp2_with fail
          go_roundw
          case rel => exact ⟨k + 1, by omega, by go_num, N10.out.weak⟩
          case measure => simp [intOf]; omega
    · obtain rfl : k = 2 := by omega
      have dlt : decide ((2 : Int) < 2) = false := by simp
      go_wp2_with (go_at_call 14; refine (lives_any _ N.out.now.tabs).mono ?_; rintro r1 w9 ⟨rfl, hb⟩; have N9 := Lib.hid (N.out.now.step hb); clear hb)
      go_ret
      exact ⟨rfl, N9.out.bel⟩
end Go.Proofs.YtdfpjhpkkhdpoaaDoor

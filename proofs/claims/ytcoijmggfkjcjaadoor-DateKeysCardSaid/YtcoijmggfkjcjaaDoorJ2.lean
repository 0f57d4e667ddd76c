/-
  The law DateKeys (written by gen_J2.py).
-/
import Derived.Test.YtcoijmggfkjcjaaDoorJ1
import Derived.Test.YtcoijmggfkjcjaaDoorIZ
import Derived.Test.YtcoijmggfkjcjaaDoorZV1203
import Derived.Test.YtcoijmggfkjcjaaDoorZV1200
namespace Go.Proofs.YtcoijmggfkjcjaaDoor
open Go.RowKit
set_option linter.unusedSimpArgs false
set_option linter.unusedVariables false
attribute [local go_sem ↓] exec_storePair
attribute [local go_sem] run_storePair
/-- what the first loop keeps -/
structure KI (w wr : World) (g : Nat) (t : Option BT) (H : Nat) (k : Option Nat) (v : Value) (ds : List Int) (i : Nat) : Prop where
  tr : PX.TTD (fun b => k ≠ some b) wr g t H
  ow : Own wr 3 1 k v ds.length (ints ds)
  fr : ∀ j, k = some j → w.heap.size ≤ j
  dk : DK (treeL t) ds
  ln : ds.length ≤ i
  sm : i ≤ 12
  tb : Tabs wr
  bl : Below w.heap.size w wr
theorem KI.under {w wr w' : World} {g : Nat} {t : Option BT} {H : Nat} {k : Option Nat} {v : Value} {ds : List Int} {i : Nat} (h : KI w wr g t H k v ds i) (hb : Below wr.heap.size wr w') : KI w w' g t H k v ds i :=
  ⟨h.tr.under hb, h.ow.kept (Kept.of_below (fun _ => False) hb) (fun _ _ h => h), h.fr, h.dk, h.ln, h.sm, h.tb.below hb, h.bl.trans (hb.mono h.bl.size)⟩
theorem KI.rng {w wr : World} {g : Nat} {t : Option BT} {H : Nat} {k : Option Nat} {v : Value} {ds : List Int} {i : Nat} (h : KI w wr g t H k v ds i) {L : List KV} (hL : L = treeL t) : Calls Tryd.prog 41 #[.pointer (some ⟨g, 0, none⟩), .string emptyS, .string emptyS] wr fun e W' => ∃ v, e = .returned v ∧ W'.ownsRow wr.heap.size 54 2 v L.length (pcells L) ∧ Below wr.heap.size wr W' := by
  have := range_any h.tr.tt emptyS emptyS (by rw [h.dk.len]; have := h.ln; have := h.sm; omega)
  rw [rngL_emp, ← hL] at this
  exact this
theorem KI.flo {w wr : World} {g : Nat} {t : Option BT} {H : Nat} {k : Option Nat} {v : Value} {ds : List Int} {i : Nat} (h : KI w wr g t H k v ds i) {L : List KV} (hL : L = treeL t) (key : ByteArray) : Calls Tryd.prog 42 #[.pointer (some ⟨g, 0, none⟩), .string key] wr fun e w' => e = .returned (.tuple #[.agg (kcells (fkv (floorL L key))), .bool (floorL L key).isSome]) ∧ Below wr.heap.size wr w' := by
  rw [hL]
  exact floor_any h.tr.tt.tr h.tr.tt.ok h.tr.tt.so key
/-- after Put, before the day is in the list -/
structure KPut (w wr : World) (g : Nat) (t : Option BT) (H : Nat) (k : Option Nat) (v : Value) (ds : List Int) (i : Nat) (d : Int) : Prop where
  tr : PX.TTD (fun b => k ≠ some b) wr g t H
  ow : Own wr 3 1 k v ds.length (ints ds)
  fr : ∀ j, k = some j → w.heap.size ≤ j
  dk : ∃ L, DK L ds ∧ treeL t = insL L ⟨printB d, emptyS⟩
  ln : ds.length ≤ i
  sm : i ≤ 12
  tb : Tabs wr
  bl : Below w.heap.size w wr
theorem KI.put {w wr : World} {g : Nat} {t : Option BT} {H : Nat} {k : Option Nat} {v : Value} {ds : List Int} {i : Nat} (h : KI w wr g t H k v ds i) {d : Int} (hd : okN d) :
    Calls Tryd.prog 39 #[.pointer (some ⟨g, 0, none⟩), .string (printB d), .string emptyS] wr fun e w' => ∃ g' t' H', e = .returned (.pointer (some ⟨g', 0, none⟩)) ∧ KPut w w' g' t' H' k v ds i d := by
  refine (PX.put_tree h.tr (fun b hb e => ?_) (by rw [h.dk.len]; have := h.ln; have := h.sm; omega) (printB d) emptyS (by rw [printB_size hd]; decide) (by decide)).mono ?_
  · have := h.ow.lt b e
    omega
  · rintro e w' ⟨g', t', H', rfl, h1, h2, -, -, hb⟩
    exact ⟨g', t', H', rfl, h1, h.ow.kept (Kept.of_below (fun _ => False) hb) (fun _ _ h => h), h.fr, ⟨_, h.dk, h2⟩, h.ln, h.sm, h.tb.below hb, h.bl.trans (hb.mono h.bl.size)⟩
theorem KPut.done {w wr : World} {g : Nat} {t : Option BT} {H : Nat} {k : Option Nat} {v : Value} {ds : List Int} {i : Nat} {d : Int} (h : KPut w wr g t H k v ds i d) (hd : d ∈ ds) (h12 : i < 12) : KI w wr g t H k v ds (i + 1) := by
  obtain ⟨L, h1, h2⟩ := h.dk
  exact ⟨h.tr, h.ow, h.fr, by rw [h2]; exact h1.old hd _, by have := h.ln; omega, by omega, h.tb, h.bl⟩
theorem KPut.more {w wr w' : World} {g : Nat} {t : Option BT} {H : Nat} {k k' : Option Nat} {v v' : Value} {ds : List Int} {i : Nat} {d : Int} (h : KPut w wr g t H k v ds i d) (hT : Tabs w) (h12 : i < 12) (hd : okN d) (hn : d ∉ ds) (ho : Own w' 3 1 k' v' (ds.length + 1) (ints ds ++ [.int .i64 d])) (hf : ∀ j, k' = some j → k = some j ∨ wr.heap.size ≤ j) (hk : Kept (fun j => k = some j) wr w') : KI w w' g t H k' v' (ds ++ [d]) (i + 1) := by
  obtain ⟨L, h1, h2⟩ := h.dk
  have hb : Below w.heap.size w w' := h.bl.trans (hk.below h.bl.size (fun j hj e => by have := h.fr j e; omega))
  have hin : PX.TTD (fun b => k ≠ some b ∧ b < wr.heap.size) wr g t H := ⟨h.tr.tt, ⟨h.tr.eg, h.tr.tt.lt⟩, fun b e => (h.tr.nd b e).in⟩
  have h3 := hin.kept hk (fun b hb e => hb.1 e)
  have hdom : ∀ b, (k ≠ some b ∧ b < wr.heap.size) → k' ≠ some b := fun b hb e => by
    rcases hf b e with h4 | h4
    · exact hb.1 h4
    · omega
  refine ⟨⟨h3.tt, hdom _ h3.eg, fun b e => (h3.nd b e).dom hdom⟩, ?_, fun j hj => ?_, by rw [h2]; exact h1.new hd hn _, ?_, by omega, hT.below hb, hb⟩
  · rw [List.length_append, show ints (ds ++ [d]) = ints ds ++ [.int .i64 d] by simp [ints]]
    exact ho
  · rcases hf j hj with h4 | h4
    · exact h.fr j h4
    · exact Nat.le_trans h.bl.size h4
  · have := h.ln
    simp
    omega
theorem DK.days {L : List KV} {ds : List Int} (h : DK L ds) : ∃ es : List Int, L.map KV.k = es.map printB ∧ (∀ e ∈ es, e ∈ ds) ∧ es.Pairwise (· < ·) := days_of h.so h.ok h.key
theorem DK.elen {L : List KV} {ds es : List Int} (h : DK L ds) (he : L.map KV.k = es.map printB) : es.length = ds.length := by
  have := congrArg List.length he
  rw [List.length_map, List.length_map] at this
  rw [← this, h.len]
theorem key_at {L : List KV} {es : List Int} (he : L.map KV.k = es.map printB) {j : Nat} (hj : j < L.length) (hje : j < es.length) : (L[j]'hj).k = printB (es[j]'hje) := by
  have h1 : (L.map KV.k)[j]'(by rw [List.length_map]; exact hj) = (L[j]'hj).k := List.getElem_map ..
  have h2 : (es.map printB)[j]'(by rw [List.length_map]; exact hje) = printB (es[j]'hje) := List.getElem_map ..
  rw [← h1, ← h2]
  congr 1
theorem cell_key {w : World} {b o : Nat} {p : KV} (h : w.rangeAt b o p.cells) : w.cell? ⟨b, o, none⟩ = some (.string p.k) := h 0 _ rfl
def Ddkn : List (Option Tmp) := [some 102, some 103, some 104, some 105, some 106, some 107, some 108, some 109, some 110, some 111, some 112, some 113, some 114, some 115, some 116, some 117, some 118, some 119, some 4]
def Ldkn : List (List Nat) := [[], [], [1], [0, 2], [3], [4], [5, 4], [6, 4], [7], [8, 7], [7], [10, 7], [9, 11, 7], [7, 12, 4], [4, 13], [14], [15], [15, 16], [17]]
def Ddks : List (Option Tmp) := [some 102, some 103, some 104, some 105, some 106, some 107, some 108, some 109, some 110, some 111, some 112, some 113, some 114, some 115, some 116, some 117, some 118, some 119, some 4]
def Ldks : List (List Nat) := [[], [], [1], [0, 2], [3], [4], [5, 4], [6, 4], [7], [8, 7], [7], [10, 7], [9, 11, 7], [7, 12, 4], [4, 13], [14], [15], [15, 16], [17]]
set_option maxRecDepth 100000 in
set_option maxHeartbeats 8000000 in
theorem keys_law (l : List Int) (a : Option Addr) (n c : Nat) (N : Int) (w : World) (hT : Tabs w) (hl : Sl (fun b => b < w.heap.size) w a n c (ints l) 1) (hlb : ∀ x ∈ l, -9223372036854775808 ≤ x ∧ x ≤ 9223372036854775807) (hN : -9223372036854775808 ≤ N ∧ N ≤ 9223372036854775807) :
    Calls Tryd.prog 14 #[.slice a n c, .int .i64 N] w fun e w' => e = .returned (.bool true) ∧ Below w.heap.size w w' := by
  obtain ⟨i0, hif, hz0, hz1, hz2⟩ := info_parts info3
  obtain ⟨s1, s2, s3, s4, s5⟩ := hl
  have HLL : Hid (l.length = n) := Lib.hid (by simpa [ints] using s1)
  have HSL := Lib.hid s5
  have HLB := Lib.hid hlb
  have HN := Lib.hid hN
  have HT := Lib.hid hT
  have s3' : c ≤ 9223372036854775807 := s3
  obtain ⟨A, hA⟩ : ∃ A, A = dayOfN N := ⟨_, rfl⟩
  have HA := Lib.hid hA
  clear s1 s5 s3 s4 hlb hN hT hA
  go_enter Tryd.func14, Tryd.ntmps14
  go_wp2_with (go_at_call 38; refine (new_any _).mono ?_; rintro e w1 ⟨g0, rfl, ht0, hg0, hb0⟩; have HK0 : Hid (KI w w1 g0 none 0 none (.slice none 0 0) [] 0) := Lib.hid ⟨⟨ht0, (fun h => by cases h), fun b e => by cases e⟩, Own.nil _ _ _, (fun _ h => by cases h), DK.nil, Nat.le_refl _, by omega, HT.out.below hb0, hb0⟩; clear ht0 hb0 hg0)
  go_loopw [5, 6, 7] (fun u v x wr => ∃ (i g H : Nat) (t : Option BT) (k : Option Nat) (ds : List Int), u = .pointer (some ⟨g, 0, none⟩) ∧ x = .int .i64 (i : Int) ∧ i ≤ n ∧ i ≤ 12 ∧ KI w wr g t H k v ds i) (fun _ _ x _ => n - (intOf x).toNat)
  case atStart => exact ⟨0, g0, 0, none, none, [], rfl, rfl, Nat.zero_le _, by omega, HK0.out⟩
  case round =>
    obtain ⟨i, g, H, t, k, ds, rfl, rfl, hi, hi12, hKI⟩ := hrel
    have HKI := Lib.hid hKI
    clear hKI HK0
    by_cases hlt : i < n
    · have hlt2 : (i : Int) < (n : Int) := by omega
      by_cases h12 : i < 12
      · have h122 : (i : Int) < 12 := by omega
        have hil : i < l.length := by rw [HLL.out]; exact hlt
        obtain ⟨b, off, hbw, rfl, hcell⟩ := HSL.out (by omega)
        have HC := Lib.hid hcell
        obtain ⟨x, hx⟩ : ∃ x, x = l[i]'hil := ⟨_, rfl⟩
        have HCX : Hid (w.cell? ⟨b, off + i, none⟩ = some (.int .i64 x)) := Lib.hid (hcell i _ (by rw [hx]; simp [ints, hil]))
        have HBX := Lib.hid hbw
        have cx : wr.cell? ⟨b, off + i, none⟩ = some (.int .i64 x) := (HKI.out.bl.cell (p := ⟨b, off + i, none⟩) hbw).trans HCX.out
        have hbx := HLB.out x (by rw [hx]; exact List.getElem_mem _)
        obtain ⟨d, hd⟩ : ∃ d, d = dayOfN x := ⟨_, rfl⟩
        have HOKD : Hid (okN d) := Lib.hid (by rw [hd]; exact dayOfN_ok x)
        have HDA : Hid (∀ u, Calls Tryd.prog 21 #[.int .i64 x] u fun e w' => e = .returned (.int .i64 d) ∧ u = w') := Lib.hid (fun u => by rw [hd]; exact dayHelp_any x u hbx.1 hbx.2)
        have HLT := Lib.hid hlt
        have H12 := Lib.hid h12
        have hwi : IntKind.i64.wrap ((i : Int) + 1) = (i : Int) + 1 := i64_id _ (by omega) (by omega)
        clear hcell hx hd hbx hil hlt hbw HC
        go_upto_region 9 with (go_at_call 21; refine (HDA.out _).mono ?_; rintro e w1 ⟨rfl, rfl⟩)
        clear cx
        go_upto_region 10 with (first
          | (go_at_call 24; refine (print_any d _ HKI.out.tb).mono ?_; rintro e w2 ⟨rfl, hb⟩; have HK2 := Lib.hid (HKI.out.under hb); clear hb HKI)
          | (go_at_call 39; refine (HK2.out.put HOKD.out).mono ?_; rintro e w3 ⟨g3, t3, H3, rfl, hk3⟩; have HK3 := Lib.hid hk3; clear hk3 HK2))
        have hsl := HK3.out.ow.sl
        obtain ⟨va, vc, hv, hs⟩ := hsl
        subst hv
        have HHAS := Lib.hid (has_any ds va ds.length vc w3 hs d)
        clear hs
        by_cases hmem : d ∈ ds
        · have HD : Hid (decide (d ∈ ds) = true) := Lib.hid (decide_eq_true hmem)
          have HM := Lib.hid hmem
          clear hmem
          go_wp2_with (go_at_call 40; refine HHAS.out.mono ?_; rintro e w4 ⟨rfl, rfl⟩; rw [HD.out])
          go_roundw
          case rel => exact ⟨i + 1, g3, H3, t3, k, ds, rfl, by go_num, by have := HLT.out; omega, by have := H12.out; omega, HK3.out.done HM.out H12.out⟩
          case measure => (try go_num); (try (simp only [intOf])); have := HLT.out; omega
        · have HD : Hid (decide (d ∈ ds) = false) := Lib.hid (decide_eq_false hmem)
          have HM := Lib.hid hmem
          clear hmem
          go_upto_region 11 with (go_at_call 40; refine HHAS.out.mono ?_; rintro e w4 ⟨rfl, rfl⟩; rw [HD.out])
          clear HHAS
          have HLE : Hid (ds.length ≤ 12) := Lib.hid (by have := HK3.out.ln; have := H12.out; omega)
          go_wp2_with (at_builtin; go_loud (refine wpList_append_any _ rfl (.tmp 47) (.tmp 49) 33 33 rfl 3 i0 (.int .i64 0) 1 8 Tryd.underlying33 hif hz0 hz1 hz2 rfl k _ ds.length (ints ds) rfl (HK3.out.ow.kept ((Kept.refl (fun _ => False) w3).alloc _) (fun _ _ h => h)) 1 [.int .i64 d] (Src.ofSlice _ Tryd.underlying33 ⟨w3.heap.size, 0, none⟩ 1 1 _ rfl ?c1 ?c2) (by unfold maxLen; have := HLE.out; omega) (by have := HLE.out; omega) ?_))
          case c1 => intro j u hj; match j, hj with | 0, hj => simp at hj; subst hj; simp [Addr.add]
          case c2 => intro u hu; simp at hu; subst hu; rfl
          intro k' v' w' ho2 hf2 hK2 hn2
          have HK4 := Lib.hid (HK3.out.more HT.out H12.out HOKD.out HM.out ho2 (fun j hj => (hf2 j hj).imp id (fun e => by omega)) (((Kept.refl (fun j => k = some j) w3).alloc _).trans hK2 (fun _ _ h => h)))
          clear ho2 hf2 hK2 hn2 HK3
          go_wp2
          go_roundw
          case rel => exact ⟨i + 1, g3, H3, t3, k', ds ++ [d], rfl, by go_num, by have := HLT.out; omega, by have := H12.out; omega, HK4.out⟩
          case measure => (try go_num); (try (simp only [intOf])); have := HLT.out; omega
      · have h122 : ¬ (i : Int) < 12 := by omega
        clear hlt hi hi12 h12
        have HDA : Hid (∀ u, Calls Tryd.prog 21 #[.int .i64 N] u fun e w' => e = .returned (.int .i64 A) ∧ u = w') := Lib.hid (fun u => by rw [HA.out]; exact dayHelp_any N u HN.out.1 HN.out.2)
        go_upto_region 14 with fail
        obtain ⟨L, hL⟩ : ∃ L, L = treeL t := ⟨_, rfl⟩
        have HDK : Hid (DK L ds) := Lib.hid (by rw [hL]; exact HKI.out.dk)
        have HRNG := HKI.out.rng hL
        have HL2 := Lib.hid hL
        have HDL : Hid (ds.length ≤ 12) := Lib.hid (Nat.le_trans HKI.out.ln HKI.out.sm)
        clear hL
        obtain ⟨es, he1, he2, he3⟩ := HDK.out.days
        have HE1 := Lib.hid he1
        have HE2 := Lib.hid he2
        have HE3 := Lib.hid he3
        clear he1 he2 he3
        go_upto_region 15 with (go_at_call 41; refine HRNG.mono ?_; rintro e w2 ⟨v2, rfl, hrow, hb⟩; obtain ⟨a2, n2, c2, rfl, hps⟩ := Ps.row hrow; have HPS := Lib.hid hps; have HKR := Lib.hid (HKI.out.under hb); clear hrow hb HKI hps)
        clear HRNG
        obtain rfl : n2 = ds.length := by have := HPS.out.1; have := HDK.out.len; omega
        have hsl := HKR.out.ow.sl
        obtain ⟨va, vc, hv, hs⟩ := hsl
        subst hv
        have HDS := Lib.hid hs
        clear hs
        go_wp2_with fail
        go_loopw [10, 11, 12] (fun u v x wr => ∃ (j : Nat) (la : Int), u = .int .i64 la ∧ v = .int .i64 (bestN (es.take j) A) ∧ x = .int .i64 (j : Int) ∧ j ≤ ds.length ∧ (∀ (i : Nat) (hi : i < es.length), j ≤ i → la < es[i]) ∧ Below w2.heap.size w2 wr) (fun _ _ x _ => ds.length - (intOf x).toNat)
        case atStart => exact ⟨0, -1, rfl, rfl, rfl, Nat.zero_le _, (fun i hi _ => by have := HDK.out.ok _ (HE2.out _ (List.getElem_mem hi)); have := this.1; omega), Below.refl _ _⟩
        case round =>
          obtain ⟨j, la, rfl, rfl, rfl, hj, hla, hb⟩ := hrel
          have HLA := Lib.hid hla
          have HB := Lib.hid hb
          clear hla hb
          by_cases hlt : j < ds.length
          · have hlt2 : (j : Int) < (ds.length : Int) := by omega
            have hje : j < es.length := by rw [HDK.out.elen HE1.out]; exact hlt
            have hjl : j < L.length := by rw [HDK.out.len]; exact hlt
            obtain ⟨b, off, -, hbs, rfl, hcell⟩ := (HPS.out.below HB.out).at (by omega)
            obtain ⟨e, he⟩ : ∃ e, e = es[j]'hje := ⟨_, rfl⟩
            have hkey : (L[j]'hjl).k = printB e := by rw [he]; exact key_at HE1.out hjl hje
            have hcr := cell_key (hcell j hjl)
            rw [hkey] at hcr
            obtain ⟨ob, hob⟩ : ∃ ob, ob = off + j * 2 := ⟨_, rfl⟩
            rw [← hob] at hcr
            have hob2 : off + j * 2 = ob := hob.symm
            have hok : okN e := by rw [he]; exact HDK.out.ok _ (HE2.out _ (List.getElem_mem hje))
            have HMEM : Hid (decide (e ∈ ds) = true) := Lib.hid (decide_eq_true (by rw [he]; exact HE2.out _ (List.getElem_mem hje)))
            have hgt : ¬ e ≤ la := by have := HLA.out j hje (Nat.le_refl _); rw [← he] at this; omega
            have HPG : Hid (∀ u, Tabs u → Calls Tryd.prog 36 #[.string (printB e)] u fun r w' => r = .returned (.tuple #[.int .i64 e, .int .i64 0]) ∧ Below u.heap.size u w') := Lib.hid (fun u hu => parse_good hok u hu)
            have HLA2 : Hid (∀ (i : Nat) (hi : i < es.length), j + 1 ≤ i → e < es[i]) := Lib.hid (fun i hi h => by rw [he]; exact List.pairwise_iff_getElem.1 HE3.out j i hje hi h)
            have HBN : Hid (bestN (es.take (j + 1)) A = if e ≤ A then e else bestN (es.take j) A) := Lib.hid (by rw [he]; exact bestN_succ hje A)
            obtain ⟨bb, hbb⟩ : ∃ bb, bb = bestN (es.take j) A := ⟨_, rfl⟩
            rw [← hbb] at HBN ⊢
            have HLT := Lib.hid hlt
            have hwi : IntKind.i64.wrap ((j : Int) + 1) = (j : Int) + 1 := i64_id _ (by have := HDL.out; omega) (by have := HDL.out; omega)
            clear hcell hkey hob he hje hjl hok hlt hj hbb hbs
            go_upto_region 23 with (go_at_call 36; refine (HPG.out _ (HKR.out.tb.below HB.out)).mono ?_; rintro r w3 ⟨rfl, hb⟩; have HB3 := Lib.hid (HB.out.trans (hb.mono HB.out.size)); clear hb HB)
            clear hcr
            have HHAS := Lib.hid (has_any ds va ds.length vc w3 (HDS.out.kept (by decide) (Kept.of_below (fun _ => False) HB3.out) (fun _ _ _ h => h)) e)
            go_upto_region 26 with (go_at_call 40; refine HHAS.out.mono ?_; rintro r w4 ⟨rfl, rfl⟩; rw [HMEM.out])
            clear HHAS
            by_cases hle : e ≤ A
            · go_wp2_with (go_at_call 21; refine (HDA.out _).mono ?_; rintro r w4 ⟨rfl, rfl⟩)
              go_roundw
              case rel => exact ⟨j + 1, e, rfl, by rw [HBN.out, if_pos hle], by go_num, by have := HLT.out; omega, HLA2.out, HB3.out⟩
              case measure => (try go_num); (try (simp only [intOf])); have := HLT.out; omega
            · go_wp2_with (go_at_call 21; refine (HDA.out _).mono ?_; rintro r w4 ⟨rfl, rfl⟩)
              go_roundw
              case rel => exact ⟨j + 1, e, rfl, by rw [HBN.out, if_neg (by omega)], by go_num, by have := HLT.out; omega, HLA2.out, HB3.out⟩
              case measure => (try go_num); (try (simp only [intOf])); have := HLT.out; omega
          · have hlt2 : ¬ (j : Int) < (ds.length : Int) := by omega
            have HBE : Hid (bestN (es.take j) A = bestN es A) := Lib.hid (by rw [List.take_of_length_le (by rw [HDK.out.elen HE1.out]; omega)])
            rw [HBE.out]
            have hfk := floor_keys (a := A) (by rw [HA.out]; exact dayOfN_ok N) (fun e he => HDK.out.ok e (HE2.out e he)) HE1.out
            obtain ⟨be, hbe⟩ : ∃ be, be = bestN es A := ⟨_, rfl⟩
            rw [← hbe] at hfk ⊢
            obtain ⟨F, hF⟩ : ∃ F, F = floorL L (printB A) := ⟨_, rfl⟩
            rw [← hF] at hfk
            have HFLO0 : ∀ u, KI w u g t H k (.slice va ds.length vc) ds i → Calls Tryd.prog 42 #[.pointer (some ⟨g, 0, none⟩), .string (printB A)] u fun e w' => e = .returned (.tuple #[.agg (kcells (fkv F)), .bool F.isSome]) ∧ Below u.heap.size u w' := fun u hu => by rw [hF]; exact hu.flo HL2.out (printB A)
            have HKZ := Lib.hid (HKR.out.under HB.out)
            clear hlt hj HBE hbe hF HLA HPS
            cases F with
            | none =>
              obtain rfl : be = -1 := by
                obtain ⟨h1, -, h2⟩ := hfk
                rcases h2 with h | h
                · exact h
                · have h3 := h.1
                  have h4 : decide (0 ≤ be) = false := h1.symm
                  have h5 := of_decide_eq_false h4
                  omega
              clear hfk
              have HFLO : Hid (∀ u, KI w u g t H k (.slice va ds.length vc) ds i → Calls Tryd.prog 42 #[.pointer (some ⟨g, 0, none⟩), .string (printB A)] u fun e w' => e = .returned (.tuple #[.agg #[.string (emptyS), .string emptyS], .bool false]) ∧ Below u.heap.size u w') := Lib.hid HFLO0
              clear HFLO0
              go_upto_region 29 with (first
                | (go_at_call 21; refine (HDA.out _).mono ?_; rintro e w4 ⟨rfl, rfl⟩)
                | (go_at_call 24; refine (print_any A _ HKZ.out.tb).mono ?_; rintro e w4 ⟨rfl, hb⟩; have HK4 := Lib.hid (HKZ.out.under hb); clear hb HKZ)
                | (go_at_call 42; refine (HFLO.out _ HK4.out).mono ?_; rintro e w5 ⟨rfl, hb⟩; have HK5 := Lib.hid (HK4.out.under hb); clear hb HK4; have p7 : PB (w5.alloc (.cells #[.string ⟨#[]⟩, .string ⟨#[]⟩] 54)) w5.heap.size := ⟨⟨⟨#[]⟩, ⟨#[]⟩⟩, heap_new rfl⟩))
              obtain ⟨gb, hgb⟩ : ∃ gb, gb = w5.heap.size := ⟨_, rfl⟩
              obtain ⟨q, hq⟩ : ∃ q, q = (w5.alloc (.cells #[.string ⟨#[]⟩, .string ⟨#[]⟩] 54)).setRow w5.heap.size #[.string (emptyS), .string emptyS] := ⟨_, rfl⟩
              have hbq : Below w5.heap.size w5 q := by rw [hq]; exact (((Kept.refl (fun _ => False) w5).alloc _).setRow (fun h => absurd h (Nat.lt_irrefl _)) _).below (Nat.le_refl _) (fun _ _ h => h)
              have hbb : q.heap[gb]? = some (.cells #[.string (emptyS), .string emptyS] 54 (0, 0)) := by rw [hq, hgb]; exact setRow_heap _ _ _ _ _ _ (heap_new rfl)
              have HGL := Lib.hid (heap_lt hbb)
              have CQ0 : Hid (q.cell? ⟨gb, 0, none⟩ = some (.string (emptyS))) := Lib.hid (cell_of_row q gb 0 _ _ _ hbb)
              have HKQ := HK5.out.under hbq
              have HTQ := Lib.hid HKQ.tb
              have HBQ := Lib.hid HKQ.bl
              rw [← hq, ← hgb]
              clear hq hgb p7 hbq hbb HKQ HK5 HFLO
              refine Roll.region_f 19 120 Ddkn Ldkn [(11, .int .i64 (-1)), (15, .pointer (some ⟨gb, 0, none⟩)), (16, .bool false)] (fun p => Below q.heap.size q p) (fun p p2 => Below p.heap.size p p2) [fun vv p => vv = .bool false, fun vv p => vv = .int .i64 (-1), fun vv p => vv = .bool false, fun vv p => vv = .bool true, fun vv p => vv = .bool true, fun vv p => vv = .bool false, fun vv p => vv = .bool true, fun vv p => vv = .bool true, fun vv p => vv = undef, fun vv p => vv = undef, fun vv p => vv = undef, fun vv p => vv = undef, fun vv p => vv = undef, fun vv p => vv = .bool true, fun vv p => vv = .bool true, fun vv p => vv = .bool true, fun vv p => vv = .bool true, fun vv p => vv = .bool true, fun vv p => vv = .bool true] (by kernel_rfl) (by kernel_rfl) rfl ⟨rfl, rfl, rfl, trivial⟩ ((Below.refl _ _).drew) ?_ ?_ ?_
              · exact ⟨fun _ _ _ _ h => h, fun _ _ _ _ h => h, fun _ _ _ _ h => h, fun _ _ _ _ h => h, fun _ _ _ _ h => h, fun _ _ _ _ h => h, fun _ _ _ _ h => h, fun _ _ _ _ h => h, fun _ _ _ _ h => h, fun _ _ _ _ h => h, fun _ _ _ _ h => h, fun _ _ _ _ h => h, fun _ _ _ _ h => h, fun _ _ _ _ h => h, fun _ _ _ _ h => h, fun _ _ _ _ h => h, fun _ _ _ _ h => h, fun _ _ _ _ h => h, fun _ _ _ _ h => h, trivial⟩
              · intro b0 hN hlv
                refine ⟨?_, ?_, ?_, ?_, ?_, ?_, ?_, ?_, ?_, ?_, ?_, ?_, ?_, ?_, ?_, ?_, ?_, ?_, ?_, trivial⟩
                · intro vs p hI hp
                  have e16 : (Roll.putD Ddkn vs [] b0).eval (.tmp 16) = .bool false := (Roll.eval_old rfl).trans (hlv.at 2 (16, .bool false) rfl)
                  clear hp hlv hN
                  unfold Roll.Goes
                  simp only [Ldkn, List.getD_cons_zero, List.getD_cons_succ]
                  generalize Roll.putD Ddkn vs [] b0 = a1 at *
                  refine Roll.goes_val (w' := p) (.bool false) rfl ?_ ⟨hI, Below.refl _ _, rfl⟩
                  (have ec : ∀ x, a1.eval (.const x) = x := fun _ => rfl); (have ef : ∀ x, a1.eval (.func x) = .func (.func x) #[] #[] := fun _ => rfl); generalize a1.eval = ρ at *
                  skip
                  go_simp <;> (intros; first | (exfalso; omega) | rfl | omega)
                · intro vs p hI hp
                  have e11 : (Roll.putD Ddkn vs [] b0).eval (.tmp 11) = .int .i64 (-1) := (Roll.eval_old rfl).trans (hlv.at 0 (11, .int .i64 (-1)) rfl)
                  clear hp hlv hN
                  unfold Roll.Goes
                  simp only [Ldkn, List.getD_cons_zero, List.getD_cons_succ]
                  generalize Roll.putD Ddkn vs [] b0 = a1 at *
                  refine Roll.goes_val (w' := p) (.int .i64 (-1)) rfl ?_ ⟨hI, Below.refl _ _, rfl⟩
                  (have ec : ∀ x, a1.eval (.const x) = x := fun _ => rfl); (have ef : ∀ x, a1.eval (.func x) = .func (.func x) #[] #[] := fun _ => rfl); generalize a1.eval = ρ at *
                  skip
                  go_simp <;> (intros; first | (exfalso; omega) | rfl | omega)
                · intro vs p hI hp
                  have h1 : (vs 1) = .int .i64 (-1) := hp 1 (by simp [Ldkn])
                  have e103 : (Roll.putD Ddkn vs [1] b0).eval (.tmp 103) = .int .i64 (-1) := (Roll.eval_new 1 rfl (by decide) (by decide) (by omega)).trans h1
                  clear hp hlv hN
                  unfold Roll.Goes
                  simp only [Ldkn, List.getD_cons_zero, List.getD_cons_succ]
                  generalize Roll.putD Ddkn vs [1] b0 = a1 at *
                  refine Roll.goes_val (w' := p) (.bool false) rfl ?_ ⟨hI, Below.refl _ _, rfl⟩
                  (have ec : ∀ x, a1.eval (.const x) = x := fun _ => rfl); (have ef : ∀ x, a1.eval (.func x) = .func (.func x) #[] #[] := fun _ => rfl); generalize a1.eval = ρ at *
                  clear h1
                  go_simp <;> (intros; first | (exfalso; omega) | rfl | omega)
                · intro vs p hI hp
                  have h0 : (vs 0) = .bool false := hp 0 (by simp [Ldkn])
                  have h2 : (vs 2) = .bool false := hp 2 (by simp [Ldkn])
                  have e102 : (Roll.putD Ddkn vs [0, 2] b0).eval (.tmp 102) = .bool false := (Roll.eval_new 0 rfl (by decide) (by decide) (by omega)).trans h0
                  have e104 : (Roll.putD Ddkn vs [0, 2] b0).eval (.tmp 104) = .bool false := (Roll.eval_new 2 rfl (by decide) (by decide) (by omega)).trans h2
                  clear hp hlv hN
                  unfold Roll.Goes
                  simp only [Ldkn, List.getD_cons_zero, List.getD_cons_succ]
                  generalize Roll.putD Ddkn vs [0, 2] b0 = a1 at *
                  refine Roll.goes_val (w' := p) (.bool true) rfl ?_ ⟨hI, Below.refl _ _, rfl⟩
                  (have ec : ∀ x, a1.eval (.const x) = x := fun _ => rfl); (have ef : ∀ x, a1.eval (.func x) = .func (.func x) #[] #[] := fun _ => rfl); generalize a1.eval = ρ at *
                  clear h0 h2
                  go_simp <;> (intros; first | (exfalso; omega) | rfl | omega)
                · intro vs p hI hp
                  have h3 : (vs 3) = .bool true := hp 3 (by simp [Ldkn])
                  have e105 : (Roll.putD Ddkn vs [3] b0).eval (.tmp 105) = .bool true := (Roll.eval_new 3 rfl (by decide) (by decide) (by omega)).trans h3
                  clear hp hlv hN
                  unfold Roll.Goes
                  simp only [Ldkn, List.getD_cons_zero, List.getD_cons_succ]
                  generalize Roll.putD Ddkn vs [3] b0 = a1 at *
                  refine Roll.goes_val (w' := p) (.bool true) rfl ?_ ⟨hI, Below.refl _ _, rfl⟩
                  (have ec : ∀ x, a1.eval (.const x) = x := fun _ => rfl); (have ef : ∀ x, a1.eval (.func x) = .func (.func x) #[] #[] := fun _ => rfl); generalize a1.eval = ρ at *
                  clear h3
                  go_simp <;> (intros; first | (exfalso; omega) | rfl | omega)
                · intro vs p hI hp
                  have h4 : (vs 4) = .bool true := hp 4 (by simp [Ldkn])
                  have e16 : (Roll.putD Ddkn vs [4] b0).eval (.tmp 16) = .bool false := (Roll.eval_old rfl).trans (hlv.at 2 (16, .bool false) rfl)
                  clear hp hlv hN
                  refine ⟨fun hg => ?_, fun hg => absurd h4 hg⟩
                  clear hg
                  unfold Roll.Goes
                  simp only [Ldkn, List.getD_cons_zero, List.getD_cons_succ]
                  generalize Roll.putD Ddkn vs [4] b0 = a1 at *
                  refine Roll.goes_val (w' := p) (.bool false) rfl ?_ ⟨hI, Below.refl _ _, rfl⟩
                  (have ec : ∀ x, a1.eval (.const x) = x := fun _ => rfl); (have ef : ∀ x, a1.eval (.func x) = .func (.func x) #[] #[] := fun _ => rfl); generalize a1.eval = ρ at *
                  clear h4
                  go_simp <;> (intros; first | (exfalso; omega) | rfl | omega)
                · intro vs p hI hp
                  have h5 : (vs 5) = .bool false := hp 5 (by simp [Ldkn])
                  have h4 : (vs 4) = .bool true := hp 4 (by simp [Ldkn])
                  have e107 : (Roll.putD Ddkn vs [5, 4] b0).eval (.tmp 107) = .bool false := (Roll.eval_new 5 rfl (by decide) (by decide) (by omega)).trans h5
                  clear hp hlv hN
                  refine ⟨fun hg => ?_, fun hg => absurd h4 hg⟩
                  clear hg
                  unfold Roll.Goes
                  simp only [Ldkn, List.getD_cons_zero, List.getD_cons_succ]
                  generalize Roll.putD Ddkn vs [5, 4] b0 = a1 at *
                  refine Roll.goes_val (w' := p) (.bool true) rfl ?_ ⟨hI, Below.refl _ _, rfl⟩
                  (have ec : ∀ x, a1.eval (.const x) = x := fun _ => rfl); (have ef : ∀ x, a1.eval (.func x) = .func (.func x) #[] #[] := fun _ => rfl); generalize a1.eval = ρ at *
                  clear h5 h4
                  go_simp <;> (intros; first | (exfalso; omega) | rfl | omega)
                · intro vs p hI hp
                  have h6 : (vs 6) = .bool true := hp 6 (by simp [Ldkn])
                  have h4 : (vs 4) = .bool true := hp 4 (by simp [Ldkn])
                  have e108 : (Roll.putD Ddkn vs [6, 4] b0).eval (.tmp 108) = .bool true := (Roll.eval_new 6 rfl (by decide) (by decide) (by omega)).trans h6
                  clear hp hlv hN
                  refine ⟨fun hg => ?_, fun hg => absurd h4 hg⟩
                  clear hg
                  unfold Roll.Goes
                  simp only [Ldkn, List.getD_cons_zero, List.getD_cons_succ]
                  generalize Roll.putD Ddkn vs [6, 4] b0 = a1 at *
                  refine Roll.goes_val (w' := p) (.bool true) rfl ?_ ⟨hI, Below.refl _ _, rfl⟩
                  (have ec : ∀ x, a1.eval (.const x) = x := fun _ => rfl); (have ef : ∀ x, a1.eval (.func x) = .func (.func x) #[] #[] := fun _ => rfl); generalize a1.eval = ρ at *
                  clear h6 h4
                  go_simp <;> (intros; first | (exfalso; omega) | rfl | omega)
                · intro vs p hI hp
                  have h7 : (vs 7) = .bool true := hp 7 (by simp [Ldkn])
                  have e15 : (Roll.putD Ddkn vs [7] b0).eval (.tmp 15) = .pointer (some ⟨gb, 0, none⟩) := (Roll.eval_old rfl).trans (hlv.at 1 (15, .pointer (some ⟨gb, 0, none⟩)) rfl)
                  clear hp hlv hN
                  exact ⟨fun hg => absurd (h7.symm.trans hg) (by simp), fun hg => ⟨Below.refl _ _, rfl⟩⟩
                · intro vs p hI hp
                  have h8 : (vs 8) = undef := hp 8 (by simp [Ldkn])
                  have h7 : (vs 7) = .bool true := hp 7 (by simp [Ldkn])
                  have e110 : (Roll.putD Ddkn vs [8, 7] b0).eval (.tmp 110) = undef := (Roll.eval_new 8 rfl (by decide) (by decide) (by omega)).trans h8
                  clear hp hlv hN
                  exact ⟨fun hg => absurd (h7.symm.trans hg) (by simp), fun hg => ⟨Below.refl _ _, rfl⟩⟩
                · intro vs p hI hp
                  have h7 : (vs 7) = .bool true := hp 7 (by simp [Ldkn])
                  have e11 : (Roll.putD Ddkn vs [7] b0).eval (.tmp 11) = .int .i64 (-1) := (Roll.eval_old rfl).trans (hlv.at 0 (11, .int .i64 (-1)) rfl)
                  clear hp hlv hN
                  exact ⟨fun hg => absurd (h7.symm.trans hg) (by simp), fun hg => ⟨Below.refl _ _, rfl⟩⟩
                · intro vs p hI hp
                  have h10 : (vs 10) = undef := hp 10 (by simp [Ldkn])
                  have h7 : (vs 7) = .bool true := hp 7 (by simp [Ldkn])
                  have e112 : (Roll.putD Ddkn vs [10, 7] b0).eval (.tmp 112) = undef := (Roll.eval_new 10 rfl (by decide) (by decide) (by omega)).trans h10
                  clear hp hlv hN
                  exact ⟨fun hg => absurd (h7.symm.trans hg) (by simp), fun hg => ⟨Below.refl _ _, rfl⟩⟩
                · intro vs p hI hp
                  have h9 : (vs 9) = undef := hp 9 (by simp [Ldkn])
                  have h11 : (vs 11) = undef := hp 11 (by simp [Ldkn])
                  have h7 : (vs 7) = .bool true := hp 7 (by simp [Ldkn])
                  have e111 : (Roll.putD Ddkn vs [9, 11, 7] b0).eval (.tmp 111) = undef := (Roll.eval_new 9 rfl (by decide) (by decide) (by omega)).trans h9
                  have e113 : (Roll.putD Ddkn vs [9, 11, 7] b0).eval (.tmp 113) = undef := (Roll.eval_new 11 rfl (by decide) (by decide) (by omega)).trans h11
                  clear hp hlv hN
                  exact ⟨fun hg => absurd (h7.symm.trans hg) (by simp), fun hg => ⟨Below.refl _ _, rfl⟩⟩
                · intro vs p hI hp
                  have h7 : (vs 7) = .bool true := hp 7 (by simp [Ldkn])
                  have h12 : (vs 12) = undef := hp 12 (by simp [Ldkn])
                  have h4 : (vs 4) = .bool true := hp 4 (by simp [Ldkn])
                  have e109 : (Roll.putD Ddkn vs [7, 12, 4] b0).eval (.tmp 109) = .bool true := (Roll.eval_new 7 rfl (by decide) (by decide) (by omega)).trans h7
                  have e114 : (Roll.putD Ddkn vs [7, 12, 4] b0).eval (.tmp 114) = undef := (Roll.eval_new 12 rfl (by decide) (by decide) (by omega)).trans h12
                  clear hp hlv hN
                  refine ⟨fun hg => ?_, fun hg => absurd h4 hg⟩
                  clear hg
                  unfold Roll.Goes
                  simp only [Ldkn, List.getD_cons_zero, List.getD_cons_succ]
                  generalize Roll.putD Ddkn vs [7, 12, 4] b0 = a1 at *
                  refine Roll.goes_val (w' := p) (.bool true) rfl ?_ ⟨hI, Below.refl _ _, rfl⟩
                  (have ec : ∀ x, a1.eval (.const x) = x := fun _ => rfl); (have ef : ∀ x, a1.eval (.func x) = .func (.func x) #[] #[] := fun _ => rfl); generalize a1.eval = ρ at *
                  clear h7 h12 h4
                  go_simp <;> (intros; first | (exfalso; omega) | rfl | omega)
                · intro vs p hI hp
                  have h4 : (vs 4) = .bool true := hp 4 (by simp [Ldkn])
                  have h13 : (vs 13) = .bool true := hp 13 (by simp [Ldkn])
                  have e106 : (Roll.putD Ddkn vs [4, 13] b0).eval (.tmp 106) = .bool true := (Roll.eval_new 4 rfl (by decide) (by decide) (by omega)).trans h4
                  have e115 : (Roll.putD Ddkn vs [4, 13] b0).eval (.tmp 115) = .bool true := (Roll.eval_new 13 rfl (by decide) (by decide) (by omega)).trans h13
                  clear hp hlv hN
                  unfold Roll.Goes
                  simp only [Ldkn, List.getD_cons_zero, List.getD_cons_succ]
                  generalize Roll.putD Ddkn vs [4, 13] b0 = a1 at *
                  refine Roll.goes_val (w' := p) (.bool true) rfl ?_ ⟨hI, Below.refl _ _, rfl⟩
                  (have ec : ∀ x, a1.eval (.const x) = x := fun _ => rfl); (have ef : ∀ x, a1.eval (.func x) = .func (.func x) #[] #[] := fun _ => rfl); generalize a1.eval = ρ at *
                  clear h4 h13
                  go_simp <;> (intros; first | (exfalso; omega) | rfl | omega)
                · intro vs p hI hp
                  have h14 : (vs 14) = .bool true := hp 14 (by simp [Ldkn])
                  have e116 : (Roll.putD Ddkn vs [14] b0).eval (.tmp 116) = .bool true := (Roll.eval_new 14 rfl (by decide) (by decide) (by omega)).trans h14
                  clear hp hlv hN
                  unfold Roll.Goes
                  simp only [Ldkn, List.getD_cons_zero, List.getD_cons_succ]
                  generalize Roll.putD Ddkn vs [14] b0 = a1 at *
                  refine Roll.goes_val (w' := p) (.bool true) rfl ?_ ⟨hI, Below.refl _ _, rfl⟩
                  (have ec : ∀ x, a1.eval (.const x) = x := fun _ => rfl); (have ef : ∀ x, a1.eval (.func x) = .func (.func x) #[] #[] := fun _ => rfl); generalize a1.eval = ρ at *
                  clear h14
                  go_simp <;> (intros; first | (exfalso; omega) | rfl | omega)
                · intro vs p hI hp
                  have h15 : (vs 15) = .bool true := hp 15 (by simp [Ldkn])
                  clear hp hlv hN
                  refine ⟨fun hg => ?_, fun hg => absurd h15 hg⟩
                  clear hg
                  unfold Roll.Goes
                  simp only [Ldkn, List.getD_cons_zero, List.getD_cons_succ]
                  generalize Roll.putD Ddkn vs [15] b0 = a1 at *
                  refine Roll.goes_call 19 #[] p rfl (by have ec : ∀ x, a1.eval (.const x) = x := fun _ => rfl; have ef : ∀ x, a1.eval (.func x) = .func (.func x) #[] #[] := fun _ => rfl; generalize a1.eval = ρ at *; go_simp) ?_
                  refine (lives_any p (HTQ.out.below hI)).mono ?_
                  rintro z p2 ⟨rfl, hb⟩
                  exact ⟨_, rfl, hI.trans (hb.mono hI.size), hb, rfl⟩
                · intro vs p hI hp
                  have h15 : (vs 15) = .bool true := hp 15 (by simp [Ldkn])
                  have h16 : (vs 16) = .bool true := hp 16 (by simp [Ldkn])
                  have e117 : (Roll.putD Ddkn vs [15, 16] b0).eval (.tmp 117) = .bool true := (Roll.eval_new 15 rfl (by decide) (by decide) (by omega)).trans h15
                  have e118 : (Roll.putD Ddkn vs [15, 16] b0).eval (.tmp 118) = .bool true := (Roll.eval_new 16 rfl (by decide) (by decide) (by omega)).trans h16
                  clear hp hlv hN
                  unfold Roll.Goes
                  simp only [Ldkn, List.getD_cons_zero, List.getD_cons_succ]
                  generalize Roll.putD Ddkn vs [15, 16] b0 = a1 at *
                  refine Roll.goes_val (w' := p) (.bool true) rfl ?_ ⟨hI, Below.refl _ _, rfl⟩
                  (have ec : ∀ x, a1.eval (.const x) = x := fun _ => rfl); (have ef : ∀ x, a1.eval (.func x) = .func (.func x) #[] #[] := fun _ => rfl); generalize a1.eval = ρ at *
                  clear h15 h16
                  go_simp <;> (intros; first | (exfalso; omega) | rfl | omega)
                · intro vs p hI hp
                  have h17 : (vs 17) = .bool true := hp 17 (by simp [Ldkn])
                  have e119 : (Roll.putD Ddkn vs [17] b0).eval (.tmp 119) = .bool true := (Roll.eval_new 17 rfl (by decide) (by decide) (by omega)).trans h17
                  clear hp hlv hN
                  unfold Roll.Goes
                  simp only [Ldkn, List.getD_cons_zero, List.getD_cons_succ]
                  generalize Roll.putD Ddkn vs [17] b0 = a1 at *
                  refine Roll.goes_val (w' := p) (.bool true) rfl ?_ ⟨hI, Below.refl _ _, rfl⟩
                  (have ec : ∀ x, a1.eval (.const x) = x := fun _ => rfl); (have ef : ∀ x, a1.eval (.func x) = .func (.func x) #[] #[] := fun _ => rfl); generalize a1.eval = ρ at *
                  clear h17
                  go_simp <;> (intros; first | (exfalso; omega) | rfl | omega)
              · intro vs p hI hR
                have h0 : (vs 0) = .bool false := hR 0 (by omega)
                have h1 : (vs 1) = .int .i64 (-1) := hR 1 (by omega)
                have h2 : (vs 2) = .bool false := hR 2 (by omega)
                have h3 : (vs 3) = .bool true := hR 3 (by omega)
                have h4 : (vs 4) = .bool true := hR 4 (by omega)
                have h5 : (vs 5) = .bool false := hR 5 (by omega)
                have h6 : (vs 6) = .bool true := hR 6 (by omega)
                have h7 : (vs 7) = .bool true := hR 7 (by omega)
                have h8 : (vs 8) = undef := hR 8 (by omega)
                have h9 : (vs 9) = undef := hR 9 (by omega)
                have h10 : (vs 10) = undef := hR 10 (by omega)
                have h11 : (vs 11) = undef := hR 11 (by omega)
                have h12 : (vs 12) = undef := hR 12 (by omega)
                have h13 : (vs 13) = .bool true := hR 13 (by omega)
                have h14 : (vs 14) = .bool true := hR 14 (by omega)
                have h15 : (vs 15) = .bool true := hR 15 (by omega)
                have h16 : (vs 16) = .bool true := hR 16 (by omega)
                have h17 : (vs 17) = .bool true := hR 17 (by omega)
                have h18 : (vs 18) = .bool true := hR 18 (by omega)
                clear hR
                simp only [List.range_succ, List.range_zero, List.nil_append, List.cons_append, Roll.putD, Act.put, List.getD_cons_zero, List.getD_cons_succ, List.setIfInBounds_toArray, List.set_cons_zero, List.set_cons_succ, List.drop_succ_cons, List.drop_zero, Ddkn]
                simp only [h0, h1, h2, h3, h4, h5, h6, h7, h8, h9, h10, h11, h12, h13, h14, h15, h16, h17, h18]
                clear h0 h1 h2 h3 h4 h5 h6 h7 h8 h9 h10 h11 h12 h13 h14 h15 h16 h17 h18
                have HPF := Lib.hid (HBQ.out.trans (hI.mono HBQ.out.size))
                clear hI
                go_wp2
                go_ret
                exact ⟨rfl, HPF.out⟩
            | some pf =>
              obtain ⟨h1, h2, h3⟩ := hfk
              have HBE0 : Hid (0 ≤ be) := Lib.hid (of_decide_eq_true (show decide (0 ≤ be) = true from h1.symm))
              have hk := h2 pf rfl
              obtain ⟨kk, kv⟩ := pf
              obtain rfl : kk = printB be := hk
              clear h1 h2 h3
              have HFLO : Hid (∀ u, KI w u g t H k (.slice va ds.length vc) ds i → Calls Tryd.prog 42 #[.pointer (some ⟨g, 0, none⟩), .string (printB A)] u fun e w' => e = .returned (.tuple #[.agg #[.string (printB be), .string kv], .bool true]) ∧ Below u.heap.size u w') := Lib.hid HFLO0
              clear HFLO0
              go_upto_region 29 with (first
                | (go_at_call 21; refine (HDA.out _).mono ?_; rintro e w4 ⟨rfl, rfl⟩)
                | (go_at_call 24; refine (print_any A _ HKZ.out.tb).mono ?_; rintro e w4 ⟨rfl, hb⟩; have HK4 := Lib.hid (HKZ.out.under hb); clear hb HKZ)
                | (go_at_call 42; refine (HFLO.out _ HK4.out).mono ?_; rintro e w5 ⟨rfl, hb⟩; have HK5 := Lib.hid (HK4.out.under hb); clear hb HK4; have p7 : PB (w5.alloc (.cells #[.string ⟨#[]⟩, .string ⟨#[]⟩] 54)) w5.heap.size := ⟨⟨⟨#[]⟩, ⟨#[]⟩⟩, heap_new rfl⟩))
              obtain ⟨gb, hgb⟩ : ∃ gb, gb = w5.heap.size := ⟨_, rfl⟩
              obtain ⟨q, hq⟩ : ∃ q, q = (w5.alloc (.cells #[.string ⟨#[]⟩, .string ⟨#[]⟩] 54)).setRow w5.heap.size #[.string (printB be), .string kv] := ⟨_, rfl⟩
              have hbq : Below w5.heap.size w5 q := by rw [hq]; exact (((Kept.refl (fun _ => False) w5).alloc _).setRow (fun h => absurd h (Nat.lt_irrefl _)) _).below (Nat.le_refl _) (fun _ _ h => h)
              have hbb : q.heap[gb]? = some (.cells #[.string (printB be), .string kv] 54 (0, 0)) := by rw [hq, hgb]; exact setRow_heap _ _ _ _ _ _ (heap_new rfl)
              have HGL := Lib.hid (heap_lt hbb)
              have CQ0 : Hid (q.cell? ⟨gb, 0, none⟩ = some (.string (printB be))) := Lib.hid (cell_of_row q gb 0 _ _ _ hbb)
              have HKQ := HK5.out.under hbq
              have HTQ := Lib.hid HKQ.tb
              have HBQ := Lib.hid HKQ.bl
              rw [← hq, ← hgb]
              clear hq hgb p7 hbq hbb HKQ HK5 HFLO
              refine Roll.region_f 19 120 Ddks Ldks [(11, .int .i64 be), (15, .pointer (some ⟨gb, 0, none⟩)), (16, .bool true)] (fun p => Below q.heap.size q p) (fun p p2 => Below p.heap.size p p2) [fun vv p => vv = .bool true, fun vv p => vv = .int .i64 be, fun vv p => vv = .bool true, fun vv p => vv = .bool true, fun vv p => vv = .bool true, fun vv p => vv = .bool true, fun vv p => vv = .bool false, fun vv p => vv = .bool false, fun vv p => vv = .pointer (some ⟨gb, 0, none⟩), fun vv p => vv = .string (printB be), fun vv p => vv = .int .i64 be, fun vv p => vv = .string (printB be), fun vv p => vv = .bool true, fun vv p => vv = .bool true, fun vv p => vv = .bool true, fun vv p => vv = .bool true, fun vv p => vv = .bool true, fun vv p => vv = .bool true, fun vv p => vv = .bool true] (by kernel_rfl) (by kernel_rfl) rfl ⟨rfl, rfl, rfl, trivial⟩ ((Below.refl _ _).drew) ?_ ?_ ?_
              · exact ⟨fun _ _ _ _ h => h, fun _ _ _ _ h => h, fun _ _ _ _ h => h, fun _ _ _ _ h => h, fun _ _ _ _ h => h, fun _ _ _ _ h => h, fun _ _ _ _ h => h, fun _ _ _ _ h => h, fun _ _ _ _ h => h, fun _ _ _ _ h => h, fun _ _ _ _ h => h, fun _ _ _ _ h => h, fun _ _ _ _ h => h, fun _ _ _ _ h => h, fun _ _ _ _ h => h, fun _ _ _ _ h => h, fun _ _ _ _ h => h, fun _ _ _ _ h => h, fun _ _ _ _ h => h, trivial⟩
              · intro b0 hN hlv
                refine ⟨?_, ?_, ?_, ?_, ?_, ?_, ?_, ?_, ?_, ?_, ?_, ?_, ?_, ?_, ?_, ?_, ?_, ?_, ?_, trivial⟩
                · intro vs p hI hp
                  have e16 : (Roll.putD Ddks vs [] b0).eval (.tmp 16) = .bool true := (Roll.eval_old rfl).trans (hlv.at 2 (16, .bool true) rfl)
                  clear hp hlv hN
                  unfold Roll.Goes
                  simp only [Ldks, List.getD_cons_zero, List.getD_cons_succ]
                  generalize Roll.putD Ddks vs [] b0 = a1 at *
                  refine Roll.goes_val (w' := p) (.bool true) rfl ?_ ⟨hI, Below.refl _ _, rfl⟩
                  (have ec : ∀ x, a1.eval (.const x) = x := fun _ => rfl); (have ef : ∀ x, a1.eval (.func x) = .func (.func x) #[] #[] := fun _ => rfl); generalize a1.eval = ρ at *
                  skip
                  go_simp <;> (intros; first | (exfalso; omega) | rfl | omega)
                · intro vs p hI hp
                  have e11 : (Roll.putD Ddks vs [] b0).eval (.tmp 11) = .int .i64 be := (Roll.eval_old rfl).trans (hlv.at 0 (11, .int .i64 be) rfl)
                  clear hp hlv hN
                  unfold Roll.Goes
                  simp only [Ldks, List.getD_cons_zero, List.getD_cons_succ]
                  generalize Roll.putD Ddks vs [] b0 = a1 at *
                  refine Roll.goes_val (w' := p) (.int .i64 be) rfl ?_ ⟨hI, Below.refl _ _, rfl⟩
                  (have ec : ∀ x, a1.eval (.const x) = x := fun _ => rfl); (have ef : ∀ x, a1.eval (.func x) = .func (.func x) #[] #[] := fun _ => rfl); generalize a1.eval = ρ at *
                  skip
                  go_simp <;> (intros; first | (exfalso; omega) | rfl | omega)
                · intro vs p hI hp
                  have h1 : (vs 1) = .int .i64 be := hp 1 (by simp [Ldks])
                  have e103 : (Roll.putD Ddks vs [1] b0).eval (.tmp 103) = .int .i64 be := (Roll.eval_new 1 rfl (by decide) (by decide) (by omega)).trans h1
                  clear hp hlv hN
                  unfold Roll.Goes
                  simp only [Ldks, List.getD_cons_zero, List.getD_cons_succ]
                  generalize Roll.putD Ddks vs [1] b0 = a1 at *
                  have f0 := HBE0.out
                  refine Roll.goes_val (w' := p) (.bool true) rfl ?_ ⟨hI, Below.refl _ _, rfl⟩
                  (have ec : ∀ x, a1.eval (.const x) = x := fun _ => rfl); (have ef : ∀ x, a1.eval (.func x) = .func (.func x) #[] #[] := fun _ => rfl); generalize a1.eval = ρ at *
                  clear h1
                  go_simp <;> (intros; first | (exfalso; omega) | rfl | omega)
                · intro vs p hI hp
                  have h0 : (vs 0) = .bool true := hp 0 (by simp [Ldks])
                  have h2 : (vs 2) = .bool true := hp 2 (by simp [Ldks])
                  have e102 : (Roll.putD Ddks vs [0, 2] b0).eval (.tmp 102) = .bool true := (Roll.eval_new 0 rfl (by decide) (by decide) (by omega)).trans h0
                  have e104 : (Roll.putD Ddks vs [0, 2] b0).eval (.tmp 104) = .bool true := (Roll.eval_new 2 rfl (by decide) (by decide) (by omega)).trans h2
                  clear hp hlv hN
                  unfold Roll.Goes
                  simp only [Ldks, List.getD_cons_zero, List.getD_cons_succ]
                  generalize Roll.putD Ddks vs [0, 2] b0 = a1 at *
                  refine Roll.goes_val (w' := p) (.bool true) rfl ?_ ⟨hI, Below.refl _ _, rfl⟩
                  (have ec : ∀ x, a1.eval (.const x) = x := fun _ => rfl); (have ef : ∀ x, a1.eval (.func x) = .func (.func x) #[] #[] := fun _ => rfl); generalize a1.eval = ρ at *
                  clear h0 h2
                  go_simp <;> (intros; first | (exfalso; omega) | rfl | omega)
                · intro vs p hI hp
                  have h3 : (vs 3) = .bool true := hp 3 (by simp [Ldks])
                  have e105 : (Roll.putD Ddks vs [3] b0).eval (.tmp 105) = .bool true := (Roll.eval_new 3 rfl (by decide) (by decide) (by omega)).trans h3
                  clear hp hlv hN
                  unfold Roll.Goes
                  simp only [Ldks, List.getD_cons_zero, List.getD_cons_succ]
                  generalize Roll.putD Ddks vs [3] b0 = a1 at *
                  refine Roll.goes_val (w' := p) (.bool true) rfl ?_ ⟨hI, Below.refl _ _, rfl⟩
                  (have ec : ∀ x, a1.eval (.const x) = x := fun _ => rfl); (have ef : ∀ x, a1.eval (.func x) = .func (.func x) #[] #[] := fun _ => rfl); generalize a1.eval = ρ at *
                  clear h3
                  go_simp <;> (intros; first | (exfalso; omega) | rfl | omega)
                · intro vs p hI hp
                  have h4 : (vs 4) = .bool true := hp 4 (by simp [Ldks])
                  have e16 : (Roll.putD Ddks vs [4] b0).eval (.tmp 16) = .bool true := (Roll.eval_old rfl).trans (hlv.at 2 (16, .bool true) rfl)
                  clear hp hlv hN
                  refine ⟨fun hg => ?_, fun hg => absurd h4 hg⟩
                  clear hg
                  unfold Roll.Goes
                  simp only [Ldks, List.getD_cons_zero, List.getD_cons_succ]
                  generalize Roll.putD Ddks vs [4] b0 = a1 at *
                  refine Roll.goes_val (w' := p) (.bool true) rfl ?_ ⟨hI, Below.refl _ _, rfl⟩
                  (have ec : ∀ x, a1.eval (.const x) = x := fun _ => rfl); (have ef : ∀ x, a1.eval (.func x) = .func (.func x) #[] #[] := fun _ => rfl); generalize a1.eval = ρ at *
                  clear h4
                  go_simp <;> (intros; first | (exfalso; omega) | rfl | omega)
                · intro vs p hI hp
                  have h5 : (vs 5) = .bool true := hp 5 (by simp [Ldks])
                  have h4 : (vs 4) = .bool true := hp 4 (by simp [Ldks])
                  have e107 : (Roll.putD Ddks vs [5, 4] b0).eval (.tmp 107) = .bool true := (Roll.eval_new 5 rfl (by decide) (by decide) (by omega)).trans h5
                  clear hp hlv hN
                  refine ⟨fun hg => ?_, fun hg => absurd h4 hg⟩
                  clear hg
                  unfold Roll.Goes
                  simp only [Ldks, List.getD_cons_zero, List.getD_cons_succ]
                  generalize Roll.putD Ddks vs [5, 4] b0 = a1 at *
                  refine Roll.goes_val (w' := p) (.bool false) rfl ?_ ⟨hI, Below.refl _ _, rfl⟩
                  (have ec : ∀ x, a1.eval (.const x) = x := fun _ => rfl); (have ef : ∀ x, a1.eval (.func x) = .func (.func x) #[] #[] := fun _ => rfl); generalize a1.eval = ρ at *
                  clear h5 h4
                  go_simp <;> (intros; first | (exfalso; omega) | rfl | omega)
                · intro vs p hI hp
                  have h6 : (vs 6) = .bool false := hp 6 (by simp [Ldks])
                  have h4 : (vs 4) = .bool true := hp 4 (by simp [Ldks])
                  have e108 : (Roll.putD Ddks vs [6, 4] b0).eval (.tmp 108) = .bool false := (Roll.eval_new 6 rfl (by decide) (by decide) (by omega)).trans h6
                  clear hp hlv hN
                  refine ⟨fun hg => ?_, fun hg => absurd h4 hg⟩
                  clear hg
                  unfold Roll.Goes
                  simp only [Ldks, List.getD_cons_zero, List.getD_cons_succ]
                  generalize Roll.putD Ddks vs [6, 4] b0 = a1 at *
                  refine Roll.goes_val (w' := p) (.bool false) rfl ?_ ⟨hI, Below.refl _ _, rfl⟩
                  (have ec : ∀ x, a1.eval (.const x) = x := fun _ => rfl); (have ef : ∀ x, a1.eval (.func x) = .func (.func x) #[] #[] := fun _ => rfl); generalize a1.eval = ρ at *
                  clear h6 h4
                  go_simp <;> (intros; first | (exfalso; omega) | rfl | omega)
                · intro vs p hI hp
                  have h7 : (vs 7) = .bool false := hp 7 (by simp [Ldks])
                  have e15 : (Roll.putD Ddks vs [7] b0).eval (.tmp 15) = .pointer (some ⟨gb, 0, none⟩) := (Roll.eval_old rfl).trans (hlv.at 1 (15, .pointer (some ⟨gb, 0, none⟩)) rfl)
                  clear hp hlv hN
                  refine ⟨fun hg => ?_, fun hg => absurd h7 hg⟩
                  clear hg
                  unfold Roll.Goes
                  simp only [Ldks, List.getD_cons_zero, List.getD_cons_succ]
                  generalize Roll.putD Ddks vs [7] b0 = a1 at *
                  refine Roll.goes_val (w' := p) (.pointer (some ⟨gb, 0, none⟩)) rfl ?_ ⟨hI, Below.refl _ _, rfl⟩
                  (have ec : ∀ x, a1.eval (.const x) = x := fun _ => rfl); (have ef : ∀ x, a1.eval (.func x) = .func (.func x) #[] #[] := fun _ => rfl); generalize a1.eval = ρ at *
                  clear h7
                  go_simp <;> (intros; first | (exfalso; omega) | rfl | omega)
                · intro vs p hI hp
                  have h8 : (vs 8) = .pointer (some ⟨gb, 0, none⟩) := hp 8 (by simp [Ldks])
                  have h7 : (vs 7) = .bool false := hp 7 (by simp [Ldks])
                  have e110 : (Roll.putD Ddks vs [8, 7] b0).eval (.tmp 110) = .pointer (some ⟨gb, 0, none⟩) := (Roll.eval_new 8 rfl (by decide) (by decide) (by omega)).trans h8
                  clear hp hlv hN
                  refine ⟨fun hg => ?_, fun hg => absurd h7 hg⟩
                  clear hg
                  unfold Roll.Goes
                  simp only [Ldks, List.getD_cons_zero, List.getD_cons_succ]
                  generalize Roll.putD Ddks vs [8, 7] b0 = a1 at *
                  have cf : p.cell? ⟨gb, 0, none⟩ = some (.string (printB be)) := (hI.cell (p := ⟨gb, 0, none⟩) HGL.out).trans CQ0.out
                  refine Roll.goes_val (w' := p) (.string (printB be)) rfl ?_ ⟨hI, Below.refl _ _, rfl⟩
                  (have ec : ∀ x, a1.eval (.const x) = x := fun _ => rfl); (have ef : ∀ x, a1.eval (.func x) = .func (.func x) #[] #[] := fun _ => rfl); generalize a1.eval = ρ at *
                  clear h8 h7
                  go_simp <;> (intros; first | (exfalso; omega) | rfl | omega)
                · intro vs p hI hp
                  have h7 : (vs 7) = .bool false := hp 7 (by simp [Ldks])
                  have e11 : (Roll.putD Ddks vs [7] b0).eval (.tmp 11) = .int .i64 be := (Roll.eval_old rfl).trans (hlv.at 0 (11, .int .i64 be) rfl)
                  clear hp hlv hN
                  refine ⟨fun hg => ?_, fun hg => absurd h7 hg⟩
                  clear hg
                  unfold Roll.Goes
                  simp only [Ldks, List.getD_cons_zero, List.getD_cons_succ]
                  generalize Roll.putD Ddks vs [7] b0 = a1 at *
                  refine Roll.goes_val (w' := p) (.int .i64 be) rfl ?_ ⟨hI, Below.refl _ _, rfl⟩
                  (have ec : ∀ x, a1.eval (.const x) = x := fun _ => rfl); (have ef : ∀ x, a1.eval (.func x) = .func (.func x) #[] #[] := fun _ => rfl); generalize a1.eval = ρ at *
                  clear h7
                  go_simp <;> (intros; first | (exfalso; omega) | rfl | omega)
                · intro vs p hI hp
                  have h10 : (vs 10) = .int .i64 be := hp 10 (by simp [Ldks])
                  have h7 : (vs 7) = .bool false := hp 7 (by simp [Ldks])
                  have e112 : (Roll.putD Ddks vs [10, 7] b0).eval (.tmp 112) = .int .i64 be := (Roll.eval_new 10 rfl (by decide) (by decide) (by omega)).trans h10
                  clear hp hlv hN
                  refine ⟨fun hg => ?_, fun hg => absurd h7 hg⟩
                  clear hg
                  unfold Roll.Goes
                  simp only [Ldks, List.getD_cons_zero, List.getD_cons_succ]
                  generalize Roll.putD Ddks vs [10, 7] b0 = a1 at *
                  refine Roll.goes_call 24 #[.int .i64 be] p rfl (by have ec : ∀ x, a1.eval (.const x) = x := fun _ => rfl; have ef : ∀ x, a1.eval (.func x) = .func (.func x) #[] #[] := fun _ => rfl; generalize a1.eval = ρ at *; go_simp) ?_
                  refine (print_any be p (HTQ.out.below hI)).mono ?_
                  rintro z p2 ⟨rfl, hb⟩
                  exact ⟨_, rfl, hI.trans (hb.mono hI.size), hb, rfl⟩
                · intro vs p hI hp
                  have h9 : (vs 9) = .string (printB be) := hp 9 (by simp [Ldks])
                  have h11 : (vs 11) = .string (printB be) := hp 11 (by simp [Ldks])
                  have h7 : (vs 7) = .bool false := hp 7 (by simp [Ldks])
                  have e111 : (Roll.putD Ddks vs [9, 11, 7] b0).eval (.tmp 111) = .string (printB be) := (Roll.eval_new 9 rfl (by decide) (by decide) (by omega)).trans h9
                  have e113 : (Roll.putD Ddks vs [9, 11, 7] b0).eval (.tmp 113) = .string (printB be) := (Roll.eval_new 11 rfl (by decide) (by decide) (by omega)).trans h11
                  clear hp hlv hN
                  refine ⟨fun hg => ?_, fun hg => absurd h7 hg⟩
                  clear hg
                  unfold Roll.Goes
                  simp only [Ldks, List.getD_cons_zero, List.getD_cons_succ]
                  generalize Roll.putD Ddks vs [9, 11, 7] b0 = a1 at *
                  refine Roll.goes_val (w' := p) (.bool true) rfl ?_ ⟨hI, Below.refl _ _, rfl⟩
                  (have ec : ∀ x, a1.eval (.const x) = x := fun _ => rfl); (have ef : ∀ x, a1.eval (.func x) = .func (.func x) #[] #[] := fun _ => rfl); generalize a1.eval = ρ at *
                  clear h9 h11 h7
                  go_simp <;> (intros; first | (exfalso; omega) | rfl | omega)
                · intro vs p hI hp
                  have h7 : (vs 7) = .bool false := hp 7 (by simp [Ldks])
                  have h12 : (vs 12) = .bool true := hp 12 (by simp [Ldks])
                  have h4 : (vs 4) = .bool true := hp 4 (by simp [Ldks])
                  have e109 : (Roll.putD Ddks vs [7, 12, 4] b0).eval (.tmp 109) = .bool false := (Roll.eval_new 7 rfl (by decide) (by decide) (by omega)).trans h7
                  have e114 : (Roll.putD Ddks vs [7, 12, 4] b0).eval (.tmp 114) = .bool true := (Roll.eval_new 12 rfl (by decide) (by decide) (by omega)).trans h12
                  clear hp hlv hN
                  refine ⟨fun hg => ?_, fun hg => absurd h4 hg⟩
                  clear hg
                  unfold Roll.Goes
                  simp only [Ldks, List.getD_cons_zero, List.getD_cons_succ]
                  generalize Roll.putD Ddks vs [7, 12, 4] b0 = a1 at *
                  refine Roll.goes_val (w' := p) (.bool true) rfl ?_ ⟨hI, Below.refl _ _, rfl⟩
                  (have ec : ∀ x, a1.eval (.const x) = x := fun _ => rfl); (have ef : ∀ x, a1.eval (.func x) = .func (.func x) #[] #[] := fun _ => rfl); generalize a1.eval = ρ at *
                  clear h7 h12 h4
                  go_simp <;> (intros; first | (exfalso; omega) | rfl | omega)
                · intro vs p hI hp
                  have h4 : (vs 4) = .bool true := hp 4 (by simp [Ldks])
                  have h13 : (vs 13) = .bool true := hp 13 (by simp [Ldks])
                  have e106 : (Roll.putD Ddks vs [4, 13] b0).eval (.tmp 106) = .bool true := (Roll.eval_new 4 rfl (by decide) (by decide) (by omega)).trans h4
                  have e115 : (Roll.putD Ddks vs [4, 13] b0).eval (.tmp 115) = .bool true := (Roll.eval_new 13 rfl (by decide) (by decide) (by omega)).trans h13
                  clear hp hlv hN
                  unfold Roll.Goes
                  simp only [Ldks, List.getD_cons_zero, List.getD_cons_succ]
                  generalize Roll.putD Ddks vs [4, 13] b0 = a1 at *
                  refine Roll.goes_val (w' := p) (.bool true) rfl ?_ ⟨hI, Below.refl _ _, rfl⟩
                  (have ec : ∀ x, a1.eval (.const x) = x := fun _ => rfl); (have ef : ∀ x, a1.eval (.func x) = .func (.func x) #[] #[] := fun _ => rfl); generalize a1.eval = ρ at *
                  clear h4 h13
                  go_simp <;> (intros; first | (exfalso; omega) | rfl | omega)
                · intro vs p hI hp
                  have h14 : (vs 14) = .bool true := hp 14 (by simp [Ldks])
                  have e116 : (Roll.putD Ddks vs [14] b0).eval (.tmp 116) = .bool true := (Roll.eval_new 14 rfl (by decide) (by decide) (by omega)).trans h14
                  clear hp hlv hN
                  unfold Roll.Goes
                  simp only [Ldks, List.getD_cons_zero, List.getD_cons_succ]
                  generalize Roll.putD Ddks vs [14] b0 = a1 at *
                  refine Roll.goes_val (w' := p) (.bool true) rfl ?_ ⟨hI, Below.refl _ _, rfl⟩
                  (have ec : ∀ x, a1.eval (.const x) = x := fun _ => rfl); (have ef : ∀ x, a1.eval (.func x) = .func (.func x) #[] #[] := fun _ => rfl); generalize a1.eval = ρ at *
                  clear h14
                  go_simp <;> (intros; first | (exfalso; omega) | rfl | omega)
                · intro vs p hI hp
                  have h15 : (vs 15) = .bool true := hp 15 (by simp [Ldks])
                  clear hp hlv hN
                  refine ⟨fun hg => ?_, fun hg => absurd h15 hg⟩
                  clear hg
                  unfold Roll.Goes
                  simp only [Ldks, List.getD_cons_zero, List.getD_cons_succ]
                  generalize Roll.putD Ddks vs [15] b0 = a1 at *
                  refine Roll.goes_call 19 #[] p rfl (by have ec : ∀ x, a1.eval (.const x) = x := fun _ => rfl; have ef : ∀ x, a1.eval (.func x) = .func (.func x) #[] #[] := fun _ => rfl; generalize a1.eval = ρ at *; go_simp) ?_
                  refine (lives_any p (HTQ.out.below hI)).mono ?_
                  rintro z p2 ⟨rfl, hb⟩
                  exact ⟨_, rfl, hI.trans (hb.mono hI.size), hb, rfl⟩
                · intro vs p hI hp
                  have h15 : (vs 15) = .bool true := hp 15 (by simp [Ldks])
                  have h16 : (vs 16) = .bool true := hp 16 (by simp [Ldks])
                  have e117 : (Roll.putD Ddks vs [15, 16] b0).eval (.tmp 117) = .bool true := (Roll.eval_new 15 rfl (by decide) (by decide) (by omega)).trans h15
                  have e118 : (Roll.putD Ddks vs [15, 16] b0).eval (.tmp 118) = .bool true := (Roll.eval_new 16 rfl (by decide) (by decide) (by omega)).trans h16
                  clear hp hlv hN
                  unfold Roll.Goes
                  simp only [Ldks, List.getD_cons_zero, List.getD_cons_succ]
                  generalize Roll.putD Ddks vs [15, 16] b0 = a1 at *
                  refine Roll.goes_val (w' := p) (.bool true) rfl ?_ ⟨hI, Below.refl _ _, rfl⟩
                  (have ec : ∀ x, a1.eval (.const x) = x := fun _ => rfl); (have ef : ∀ x, a1.eval (.func x) = .func (.func x) #[] #[] := fun _ => rfl); generalize a1.eval = ρ at *
                  clear h15 h16
                  go_simp <;> (intros; first | (exfalso; omega) | rfl | omega)
                · intro vs p hI hp
                  have h17 : (vs 17) = .bool true := hp 17 (by simp [Ldks])
                  have e119 : (Roll.putD Ddks vs [17] b0).eval (.tmp 119) = .bool true := (Roll.eval_new 17 rfl (by decide) (by decide) (by omega)).trans h17
                  clear hp hlv hN
                  unfold Roll.Goes
                  simp only [Ldks, List.getD_cons_zero, List.getD_cons_succ]
                  generalize Roll.putD Ddks vs [17] b0 = a1 at *
                  refine Roll.goes_val (w' := p) (.bool true) rfl ?_ ⟨hI, Below.refl _ _, rfl⟩
                  (have ec : ∀ x, a1.eval (.const x) = x := fun _ => rfl); (have ef : ∀ x, a1.eval (.func x) = .func (.func x) #[] #[] := fun _ => rfl); generalize a1.eval = ρ at *
                  clear h17
                  go_simp <;> (intros; first | (exfalso; omega) | rfl | omega)
              · intro vs p hI hR
                have h0 : (vs 0) = .bool true := hR 0 (by omega)
                have h1 : (vs 1) = .int .i64 be := hR 1 (by omega)
                have h2 : (vs 2) = .bool true := hR 2 (by omega)
                have h3 : (vs 3) = .bool true := hR 3 (by omega)
                have h4 : (vs 4) = .bool true := hR 4 (by omega)
                have h5 : (vs 5) = .bool true := hR 5 (by omega)
                have h6 : (vs 6) = .bool false := hR 6 (by omega)
                have h7 : (vs 7) = .bool false := hR 7 (by omega)
                have h8 : (vs 8) = .pointer (some ⟨gb, 0, none⟩) := hR 8 (by omega)
                have h9 : (vs 9) = .string (printB be) := hR 9 (by omega)
                have h10 : (vs 10) = .int .i64 be := hR 10 (by omega)
                have h11 : (vs 11) = .string (printB be) := hR 11 (by omega)
                have h12 : (vs 12) = .bool true := hR 12 (by omega)
                have h13 : (vs 13) = .bool true := hR 13 (by omega)
                have h14 : (vs 14) = .bool true := hR 14 (by omega)
                have h15 : (vs 15) = .bool true := hR 15 (by omega)
                have h16 : (vs 16) = .bool true := hR 16 (by omega)
                have h17 : (vs 17) = .bool true := hR 17 (by omega)
                have h18 : (vs 18) = .bool true := hR 18 (by omega)
                clear hR
                simp only [List.range_succ, List.range_zero, List.nil_append, List.cons_append, Roll.putD, Act.put, List.getD_cons_zero, List.getD_cons_succ, List.setIfInBounds_toArray, List.set_cons_zero, List.set_cons_succ, List.drop_succ_cons, List.drop_zero, Ddks]
                simp only [h0, h1, h2, h3, h4, h5, h6, h7, h8, h9, h10, h11, h12, h13, h14, h15, h16, h17, h18]
                clear h0 h1 h2 h3 h4 h5 h6 h7 h8 h9 h10 h11 h12 h13 h14 h15 h16 h17 h18
                have HPF := Lib.hid (HBQ.out.trans (hI.mono HBQ.out.size))
                clear hI
                go_wp2
                go_ret
                exact ⟨rfl, HPF.out⟩
    · have hlt2 : ¬ (i : Int) < (n : Int) := by omega
      clear hlt hi hi12
      have HDA : Hid (∀ u, Calls Tryd.prog 21 #[.int .i64 N] u fun e w' => e = .returned (.int .i64 A) ∧ u = w') := Lib.hid (fun u => by rw [HA.out]; exact dayHelp_any N u HN.out.1 HN.out.2)
      go_upto_region 14 with fail
      obtain ⟨L, hL⟩ : ∃ L, L = treeL t := ⟨_, rfl⟩
      have HDK : Hid (DK L ds) := Lib.hid (by rw [hL]; exact HKI.out.dk)
      have HRNG := HKI.out.rng hL
      have HL2 := Lib.hid hL
      have HDL : Hid (ds.length ≤ 12) := Lib.hid (Nat.le_trans HKI.out.ln HKI.out.sm)
      clear hL
      obtain ⟨es, he1, he2, he3⟩ := HDK.out.days
      have HE1 := Lib.hid he1
      have HE2 := Lib.hid he2
      have HE3 := Lib.hid he3
      clear he1 he2 he3
      go_upto_region 15 with (go_at_call 41; refine HRNG.mono ?_; rintro e w2 ⟨v2, rfl, hrow, hb⟩; obtain ⟨a2, n2, c2, rfl, hps⟩ := Ps.row hrow; have HPS := Lib.hid hps; have HKR := Lib.hid (HKI.out.under hb); clear hrow hb HKI hps)
      clear HRNG
      obtain rfl : n2 = ds.length := by have := HPS.out.1; have := HDK.out.len; omega
      have hsl := HKR.out.ow.sl
      obtain ⟨va, vc, hv, hs⟩ := hsl
      subst hv
      have HDS := Lib.hid hs
      clear hs
      go_wp2_with fail
      go_loopw [10, 11, 12] (fun u v x wr => ∃ (j : Nat) (la : Int), u = .int .i64 la ∧ v = .int .i64 (bestN (es.take j) A) ∧ x = .int .i64 (j : Int) ∧ j ≤ ds.length ∧ (∀ (i : Nat) (hi : i < es.length), j ≤ i → la < es[i]) ∧ Below w2.heap.size w2 wr) (fun _ _ x _ => ds.length - (intOf x).toNat)
      case atStart => exact ⟨0, -1, rfl, rfl, rfl, Nat.zero_le _, (fun i hi _ => by have := HDK.out.ok _ (HE2.out _ (List.getElem_mem hi)); have := this.1; omega), Below.refl _ _⟩
      case round =>
        obtain ⟨j, la, rfl, rfl, rfl, hj, hla, hb⟩ := hrel
        have HLA := Lib.hid hla
        have HB := Lib.hid hb
        clear hla hb
        by_cases hlt : j < ds.length
        · have hlt2 : (j : Int) < (ds.length : Int) := by omega
          have hje : j < es.length := by rw [HDK.out.elen HE1.out]; exact hlt
          have hjl : j < L.length := by rw [HDK.out.len]; exact hlt
          obtain ⟨b, off, -, hbs, rfl, hcell⟩ := (HPS.out.below HB.out).at (by omega)
          obtain ⟨e, he⟩ : ∃ e, e = es[j]'hje := ⟨_, rfl⟩
          have hkey : (L[j]'hjl).k = printB e := by rw [he]; exact key_at HE1.out hjl hje
          have hcr := cell_key (hcell j hjl)
          rw [hkey] at hcr
          obtain ⟨ob, hob⟩ : ∃ ob, ob = off + j * 2 := ⟨_, rfl⟩
          rw [← hob] at hcr
          have hob2 : off + j * 2 = ob := hob.symm
          have hok : okN e := by rw [he]; exact HDK.out.ok _ (HE2.out _ (List.getElem_mem hje))
          have HMEM : Hid (decide (e ∈ ds) = true) := Lib.hid (decide_eq_true (by rw [he]; exact HE2.out _ (List.getElem_mem hje)))
          have hgt : ¬ e ≤ la := by have := HLA.out j hje (Nat.le_refl _); rw [← he] at this; omega
          have HPG : Hid (∀ u, Tabs u → Calls Tryd.prog 36 #[.string (printB e)] u fun r w' => r = .returned (.tuple #[.int .i64 e, .int .i64 0]) ∧ Below u.heap.size u w') := Lib.hid (fun u hu => parse_good hok u hu)
          have HLA2 : Hid (∀ (i : Nat) (hi : i < es.length), j + 1 ≤ i → e < es[i]) := Lib.hid (fun i hi h => by rw [he]; exact List.pairwise_iff_getElem.1 HE3.out j i hje hi h)
          have HBN : Hid (bestN (es.take (j + 1)) A = if e ≤ A then e else bestN (es.take j) A) := Lib.hid (by rw [he]; exact bestN_succ hje A)
          obtain ⟨bb, hbb⟩ : ∃ bb, bb = bestN (es.take j) A := ⟨_, rfl⟩
          rw [← hbb] at HBN ⊢
          have HLT := Lib.hid hlt
          have hwi : IntKind.i64.wrap ((j : Int) + 1) = (j : Int) + 1 := i64_id _ (by have := HDL.out; omega) (by have := HDL.out; omega)
          clear hcell hkey hob he hje hjl hok hlt hj hbb hbs
          go_upto_region 23 with (go_at_call 36; refine (HPG.out _ (HKR.out.tb.below HB.out)).mono ?_; rintro r w3 ⟨rfl, hb⟩; have HB3 := Lib.hid (HB.out.trans (hb.mono HB.out.size)); clear hb HB)
          clear hcr
          have HHAS := Lib.hid (has_any ds va ds.length vc w3 (HDS.out.kept (by decide) (Kept.of_below (fun _ => False) HB3.out) (fun _ _ _ h => h)) e)
          go_upto_region 26 with (go_at_call 40; refine HHAS.out.mono ?_; rintro r w4 ⟨rfl, rfl⟩; rw [HMEM.out])
          clear HHAS
          by_cases hle : e ≤ A
          · go_wp2_with (go_at_call 21; refine (HDA.out _).mono ?_; rintro r w4 ⟨rfl, rfl⟩)
            go_roundw
            case rel => exact ⟨j + 1, e, rfl, by rw [HBN.out, if_pos hle], by go_num, by have := HLT.out; omega, HLA2.out, HB3.out⟩
            case measure => (try go_num); (try (simp only [intOf])); have := HLT.out; omega
          · go_wp2_with (go_at_call 21; refine (HDA.out _).mono ?_; rintro r w4 ⟨rfl, rfl⟩)
            go_roundw
            case rel => exact ⟨j + 1, e, rfl, by rw [HBN.out, if_neg (by omega)], by go_num, by have := HLT.out; omega, HLA2.out, HB3.out⟩
            case measure => (try go_num); (try (simp only [intOf])); have := HLT.out; omega
        · have hlt2 : ¬ (j : Int) < (ds.length : Int) := by omega
          have HBE : Hid (bestN (es.take j) A = bestN es A) := Lib.hid (by rw [List.take_of_length_le (by rw [HDK.out.elen HE1.out]; omega)])
          rw [HBE.out]
          have hfk := floor_keys (a := A) (by rw [HA.out]; exact dayOfN_ok N) (fun e he => HDK.out.ok e (HE2.out e he)) HE1.out
          obtain ⟨be, hbe⟩ : ∃ be, be = bestN es A := ⟨_, rfl⟩
          rw [← hbe] at hfk ⊢
          obtain ⟨F, hF⟩ : ∃ F, F = floorL L (printB A) := ⟨_, rfl⟩
          rw [← hF] at hfk
          have HFLO0 : ∀ u, KI w u g t H k (.slice va ds.length vc) ds i → Calls Tryd.prog 42 #[.pointer (some ⟨g, 0, none⟩), .string (printB A)] u fun e w' => e = .returned (.tuple #[.agg (kcells (fkv F)), .bool F.isSome]) ∧ Below u.heap.size u w' := fun u hu => by rw [hF]; exact hu.flo HL2.out (printB A)
          have HKZ := Lib.hid (HKR.out.under HB.out)
          clear hlt hj HBE hbe hF HLA HPS
          cases F with
          | none =>
            obtain rfl : be = -1 := by
              obtain ⟨h1, -, h2⟩ := hfk
              rcases h2 with h | h
              · exact h
              · have h3 := h.1
                have h4 : decide (0 ≤ be) = false := h1.symm
                have h5 := of_decide_eq_false h4
                omega
            clear hfk
            have HFLO : Hid (∀ u, KI w u g t H k (.slice va ds.length vc) ds i → Calls Tryd.prog 42 #[.pointer (some ⟨g, 0, none⟩), .string (printB A)] u fun e w' => e = .returned (.tuple #[.agg #[.string (emptyS), .string emptyS], .bool false]) ∧ Below u.heap.size u w') := Lib.hid HFLO0
            clear HFLO0
            go_upto_region 29 with (first
              | (go_at_call 21; refine (HDA.out _).mono ?_; rintro e w4 ⟨rfl, rfl⟩)
              | (go_at_call 24; refine (print_any A _ HKZ.out.tb).mono ?_; rintro e w4 ⟨rfl, hb⟩; have HK4 := Lib.hid (HKZ.out.under hb); clear hb HKZ)
              | (go_at_call 42; refine (HFLO.out _ HK4.out).mono ?_; rintro e w5 ⟨rfl, hb⟩; have HK5 := Lib.hid (HK4.out.under hb); clear hb HK4; have p7 : PB (w5.alloc (.cells #[.string ⟨#[]⟩, .string ⟨#[]⟩] 54)) w5.heap.size := ⟨⟨⟨#[]⟩, ⟨#[]⟩⟩, heap_new rfl⟩))
            obtain ⟨gb, hgb⟩ : ∃ gb, gb = w5.heap.size := ⟨_, rfl⟩
            obtain ⟨q, hq⟩ : ∃ q, q = (w5.alloc (.cells #[.string ⟨#[]⟩, .string ⟨#[]⟩] 54)).setRow w5.heap.size #[.string (emptyS), .string emptyS] := ⟨_, rfl⟩
            have hbq : Below w5.heap.size w5 q := by rw [hq]; exact (((Kept.refl (fun _ => False) w5).alloc _).setRow (fun h => absurd h (Nat.lt_irrefl _)) _).below (Nat.le_refl _) (fun _ _ h => h)
            have hbb : q.heap[gb]? = some (.cells #[.string (emptyS), .string emptyS] 54 (0, 0)) := by rw [hq, hgb]; exact setRow_heap _ _ _ _ _ _ (heap_new rfl)
            have HGL := Lib.hid (heap_lt hbb)
            have CQ0 : Hid (q.cell? ⟨gb, 0, none⟩ = some (.string (emptyS))) := Lib.hid (cell_of_row q gb 0 _ _ _ hbb)
            have HKQ := HK5.out.under hbq
            have HTQ := Lib.hid HKQ.tb
            have HBQ := Lib.hid HKQ.bl
            rw [← hq, ← hgb]
            clear hq hgb p7 hbq hbb HKQ HK5 HFLO
            refine Roll.region_f 19 120 Ddkn Ldkn [(11, .int .i64 (-1)), (15, .pointer (some ⟨gb, 0, none⟩)), (16, .bool false)] (fun p => Below q.heap.size q p) (fun p p2 => Below p.heap.size p p2) [fun vv p => vv = .bool false, fun vv p => vv = .int .i64 (-1), fun vv p => vv = .bool false, fun vv p => vv = .bool true, fun vv p => vv = .bool true, fun vv p => vv = .bool false, fun vv p => vv = .bool true, fun vv p => vv = .bool true, fun vv p => vv = undef, fun vv p => vv = undef, fun vv p => vv = undef, fun vv p => vv = undef, fun vv p => vv = undef, fun vv p => vv = .bool true, fun vv p => vv = .bool true, fun vv p => vv = .bool true, fun vv p => vv = .bool true, fun vv p => vv = .bool true, fun vv p => vv = .bool true] (by kernel_rfl) (by kernel_rfl) rfl ⟨rfl, rfl, rfl, trivial⟩ ((Below.refl _ _).drew) ?_ ?_ ?_
            · exact ⟨fun _ _ _ _ h => h, fun _ _ _ _ h => h, fun _ _ _ _ h => h, fun _ _ _ _ h => h, fun _ _ _ _ h => h, fun _ _ _ _ h => h, fun _ _ _ _ h => h, fun _ _ _ _ h => h, fun _ _ _ _ h => h, fun _ _ _ _ h => h, fun _ _ _ _ h => h, fun _ _ _ _ h => h, fun _ _ _ _ h => h, fun _ _ _ _ h => h, fun _ _ _ _ h => h, fun _ _ _ _ h => h, fun _ _ _ _ h => h, fun _ _ _ _ h => h, fun _ _ _ _ h => h, trivial⟩
            · intro b0 hN hlv
              refine ⟨?_, ?_, ?_, ?_, ?_, ?_, ?_, ?_, ?_, ?_, ?_, ?_, ?_, ?_, ?_, ?_, ?_, ?_, ?_, trivial⟩
              · intro vs p hI hp
                have e16 : (Roll.putD Ddkn vs [] b0).eval (.tmp 16) = .bool false := (Roll.eval_old rfl).trans (hlv.at 2 (16, .bool false) rfl)
                clear hp hlv hN
                unfold Roll.Goes
                simp only [Ldkn, List.getD_cons_zero, List.getD_cons_succ]
                generalize Roll.putD Ddkn vs [] b0 = a1 at *
                refine Roll.goes_val (w' := p) (.bool false) rfl ?_ ⟨hI, Below.refl _ _, rfl⟩
                (have ec : ∀ x, a1.eval (.const x) = x := fun _ => rfl); (have ef : ∀ x, a1.eval (.func x) = .func (.func x) #[] #[] := fun _ => rfl); generalize a1.eval = ρ at *
                skip
                go_simp <;> (intros; first | (exfalso; omega) | rfl | omega)
              · intro vs p hI hp
                have e11 : (Roll.putD Ddkn vs [] b0).eval (.tmp 11) = .int .i64 (-1) := (Roll.eval_old rfl).trans (hlv.at 0 (11, .int .i64 (-1)) rfl)
                clear hp hlv hN
                unfold Roll.Goes
                simp only [Ldkn, List.getD_cons_zero, List.getD_cons_succ]
                generalize Roll.putD Ddkn vs [] b0 = a1 at *
                refine Roll.goes_val (w' := p) (.int .i64 (-1)) rfl ?_ ⟨hI, Below.refl _ _, rfl⟩
                (have ec : ∀ x, a1.eval (.const x) = x := fun _ => rfl); (have ef : ∀ x, a1.eval (.func x) = .func (.func x) #[] #[] := fun _ => rfl); generalize a1.eval = ρ at *
                skip
                go_simp <;> (intros; first | (exfalso; omega) | rfl | omega)
              · intro vs p hI hp
                have h1 : (vs 1) = .int .i64 (-1) := hp 1 (by simp [Ldkn])
                have e103 : (Roll.putD Ddkn vs [1] b0).eval (.tmp 103) = .int .i64 (-1) := (Roll.eval_new 1 rfl (by decide) (by decide) (by omega)).trans h1
                clear hp hlv hN
                unfold Roll.Goes
                simp only [Ldkn, List.getD_cons_zero, List.getD_cons_succ]
                generalize Roll.putD Ddkn vs [1] b0 = a1 at *
                refine Roll.goes_val (w' := p) (.bool false) rfl ?_ ⟨hI, Below.refl _ _, rfl⟩
                (have ec : ∀ x, a1.eval (.const x) = x := fun _ => rfl); (have ef : ∀ x, a1.eval (.func x) = .func (.func x) #[] #[] := fun _ => rfl); generalize a1.eval = ρ at *
                clear h1
                go_simp <;> (intros; first | (exfalso; omega) | rfl | omega)
              · intro vs p hI hp
                have h0 : (vs 0) = .bool false := hp 0 (by simp [Ldkn])
                have h2 : (vs 2) = .bool false := hp 2 (by simp [Ldkn])
                have e102 : (Roll.putD Ddkn vs [0, 2] b0).eval (.tmp 102) = .bool false := (Roll.eval_new 0 rfl (by decide) (by decide) (by omega)).trans h0
                have e104 : (Roll.putD Ddkn vs [0, 2] b0).eval (.tmp 104) = .bool false := (Roll.eval_new 2 rfl (by decide) (by decide) (by omega)).trans h2
                clear hp hlv hN
                unfold Roll.Goes
                simp only [Ldkn, List.getD_cons_zero, List.getD_cons_succ]
                generalize Roll.putD Ddkn vs [0, 2] b0 = a1 at *
                refine Roll.goes_val (w' := p) (.bool true) rfl ?_ ⟨hI, Below.refl _ _, rfl⟩
                (have ec : ∀ x, a1.eval (.const x) = x := fun _ => rfl); (have ef : ∀ x, a1.eval (.func x) = .func (.func x) #[] #[] := fun _ => rfl); generalize a1.eval = ρ at *
                clear h0 h2
                go_simp <;> (intros; first | (exfalso; omega) | rfl | omega)
              · intro vs p hI hp
                have h3 : (vs 3) = .bool true := hp 3 (by simp [Ldkn])
                have e105 : (Roll.putD Ddkn vs [3] b0).eval (.tmp 105) = .bool true := (Roll.eval_new 3 rfl (by decide) (by decide) (by omega)).trans h3
                clear hp hlv hN
                unfold Roll.Goes
                simp only [Ldkn, List.getD_cons_zero, List.getD_cons_succ]
                generalize Roll.putD Ddkn vs [3] b0 = a1 at *
                refine Roll.goes_val (w' := p) (.bool true) rfl ?_ ⟨hI, Below.refl _ _, rfl⟩
                (have ec : ∀ x, a1.eval (.const x) = x := fun _ => rfl); (have ef : ∀ x, a1.eval (.func x) = .func (.func x) #[] #[] := fun _ => rfl); generalize a1.eval = ρ at *
                clear h3
                go_simp <;> (intros; first | (exfalso; omega) | rfl | omega)
              · intro vs p hI hp
                have h4 : (vs 4) = .bool true := hp 4 (by simp [Ldkn])
                have e16 : (Roll.putD Ddkn vs [4] b0).eval (.tmp 16) = .bool false := (Roll.eval_old rfl).trans (hlv.at 2 (16, .bool false) rfl)
                clear hp hlv hN
                refine ⟨fun hg => ?_, fun hg => absurd h4 hg⟩
                clear hg
                unfold Roll.Goes
                simp only [Ldkn, List.getD_cons_zero, List.getD_cons_succ]
                generalize Roll.putD Ddkn vs [4] b0 = a1 at *
                refine Roll.goes_val (w' := p) (.bool false) rfl ?_ ⟨hI, Below.refl _ _, rfl⟩
                (have ec : ∀ x, a1.eval (.const x) = x := fun _ => rfl); (have ef : ∀ x, a1.eval (.func x) = .func (.func x) #[] #[] := fun _ => rfl); generalize a1.eval = ρ at *
                clear h4
                go_simp <;> (intros; first | (exfalso; omega) | rfl | omega)
              · intro vs p hI hp
                have h5 : (vs 5) = .bool false := hp 5 (by simp [Ldkn])
                have h4 : (vs 4) = .bool true := hp 4 (by simp [Ldkn])
                have e107 : (Roll.putD Ddkn vs [5, 4] b0).eval (.tmp 107) = .bool false := (Roll.eval_new 5 rfl (by decide) (by decide) (by omega)).trans h5
                clear hp hlv hN
                refine ⟨fun hg => ?_, fun hg => absurd h4 hg⟩
                clear hg
                unfold Roll.Goes
                simp only [Ldkn, List.getD_cons_zero, List.getD_cons_succ]
                generalize Roll.putD Ddkn vs [5, 4] b0 = a1 at *
                refine Roll.goes_val (w' := p) (.bool true) rfl ?_ ⟨hI, Below.refl _ _, rfl⟩
                (have ec : ∀ x, a1.eval (.const x) = x := fun _ => rfl); (have ef : ∀ x, a1.eval (.func x) = .func (.func x) #[] #[] := fun _ => rfl); generalize a1.eval = ρ at *
                clear h5 h4
                go_simp <;> (intros; first | (exfalso; omega) | rfl | omega)
              · intro vs p hI hp
                have h6 : (vs 6) = .bool true := hp 6 (by simp [Ldkn])
                have h4 : (vs 4) = .bool true := hp 4 (by simp [Ldkn])
                have e108 : (Roll.putD Ddkn vs [6, 4] b0).eval (.tmp 108) = .bool true := (Roll.eval_new 6 rfl (by decide) (by decide) (by omega)).trans h6
                clear hp hlv hN
                refine ⟨fun hg => ?_, fun hg => absurd h4 hg⟩
                clear hg
                unfold Roll.Goes
                simp only [Ldkn, List.getD_cons_zero, List.getD_cons_succ]
                generalize Roll.putD Ddkn vs [6, 4] b0 = a1 at *
                refine Roll.goes_val (w' := p) (.bool true) rfl ?_ ⟨hI, Below.refl _ _, rfl⟩
                (have ec : ∀ x, a1.eval (.const x) = x := fun _ => rfl); (have ef : ∀ x, a1.eval (.func x) = .func (.func x) #[] #[] := fun _ => rfl); generalize a1.eval = ρ at *
                clear h6 h4
                go_simp <;> (intros; first | (exfalso; omega) | rfl | omega)
              · intro vs p hI hp
                have h7 : (vs 7) = .bool true := hp 7 (by simp [Ldkn])
                have e15 : (Roll.putD Ddkn vs [7] b0).eval (.tmp 15) = .pointer (some ⟨gb, 0, none⟩) := (Roll.eval_old rfl).trans (hlv.at 1 (15, .pointer (some ⟨gb, 0, none⟩)) rfl)
                clear hp hlv hN
                exact ⟨fun hg => absurd (h7.symm.trans hg) (by simp), fun hg => ⟨Below.refl _ _, rfl⟩⟩
              · intro vs p hI hp
                have h8 : (vs 8) = undef := hp 8 (by simp [Ldkn])
                have h7 : (vs 7) = .bool true := hp 7 (by simp [Ldkn])
                have e110 : (Roll.putD Ddkn vs [8, 7] b0).eval (.tmp 110) = undef := (Roll.eval_new 8 rfl (by decide) (by decide) (by omega)).trans h8
                clear hp hlv hN
                exact ⟨fun hg => absurd (h7.symm.trans hg) (by simp), fun hg => ⟨Below.refl _ _, rfl⟩⟩
              · intro vs p hI hp
                have h7 : (vs 7) = .bool true := hp 7 (by simp [Ldkn])
                have e11 : (Roll.putD Ddkn vs [7] b0).eval (.tmp 11) = .int .i64 (-1) := (Roll.eval_old rfl).trans (hlv.at 0 (11, .int .i64 (-1)) rfl)
                clear hp hlv hN
                exact ⟨fun hg => absurd (h7.symm.trans hg) (by simp), fun hg => ⟨Below.refl _ _, rfl⟩⟩
              · intro vs p hI hp
                have h10 : (vs 10) = undef := hp 10 (by simp [Ldkn])
                have h7 : (vs 7) = .bool true := hp 7 (by simp [Ldkn])
                have e112 : (Roll.putD Ddkn vs [10, 7] b0).eval (.tmp 112) = undef := (Roll.eval_new 10 rfl (by decide) (by decide) (by omega)).trans h10
                clear hp hlv hN
                exact ⟨fun hg => absurd (h7.symm.trans hg) (by simp), fun hg => ⟨Below.refl _ _, rfl⟩⟩
              · intro vs p hI hp
                have h9 : (vs 9) = undef := hp 9 (by simp [Ldkn])
                have h11 : (vs 11) = undef := hp 11 (by simp [Ldkn])
                have h7 : (vs 7) = .bool true := hp 7 (by simp [Ldkn])
                have e111 : (Roll.putD Ddkn vs [9, 11, 7] b0).eval (.tmp 111) = undef := (Roll.eval_new 9 rfl (by decide) (by decide) (by omega)).trans h9
                have e113 : (Roll.putD Ddkn vs [9, 11, 7] b0).eval (.tmp 113) = undef := (Roll.eval_new 11 rfl (by decide) (by decide) (by omega)).trans h11
                clear hp hlv hN
                exact ⟨fun hg => absurd (h7.symm.trans hg) (by simp), fun hg => ⟨Below.refl _ _, rfl⟩⟩
              · intro vs p hI hp
                have h7 : (vs 7) = .bool true := hp 7 (by simp [Ldkn])
                have h12 : (vs 12) = undef := hp 12 (by simp [Ldkn])
                have h4 : (vs 4) = .bool true := hp 4 (by simp [Ldkn])
                have e109 : (Roll.putD Ddkn vs [7, 12, 4] b0).eval (.tmp 109) = .bool true := (Roll.eval_new 7 rfl (by decide) (by decide) (by omega)).trans h7
                have e114 : (Roll.putD Ddkn vs [7, 12, 4] b0).eval (.tmp 114) = undef := (Roll.eval_new 12 rfl (by decide) (by decide) (by omega)).trans h12
                clear hp hlv hN
                refine ⟨fun hg => ?_, fun hg => absurd h4 hg⟩
                clear hg
                unfold Roll.Goes
                simp only [Ldkn, List.getD_cons_zero, List.getD_cons_succ]
                generalize Roll.putD Ddkn vs [7, 12, 4] b0 = a1 at *
                refine Roll.goes_val (w' := p) (.bool true) rfl ?_ ⟨hI, Below.refl _ _, rfl⟩
                (have ec : ∀ x, a1.eval (.const x) = x := fun _ => rfl); (have ef : ∀ x, a1.eval (.func x) = .func (.func x) #[] #[] := fun _ => rfl); generalize a1.eval = ρ at *
                clear h7 h12 h4
                go_simp <;> (intros; first | (exfalso; omega) | rfl | omega)
              · intro vs p hI hp
                have h4 : (vs 4) = .bool true := hp 4 (by simp [Ldkn])
                have h13 : (vs 13) = .bool true := hp 13 (by simp [Ldkn])
                have e106 : (Roll.putD Ddkn vs [4, 13] b0).eval (.tmp 106) = .bool true := (Roll.eval_new 4 rfl (by decide) (by decide) (by omega)).trans h4
                have e115 : (Roll.putD Ddkn vs [4, 13] b0).eval (.tmp 115) = .bool true := (Roll.eval_new 13 rfl (by decide) (by decide) (by omega)).trans h13
                clear hp hlv hN
                unfold Roll.Goes
                simp only [Ldkn, List.getD_cons_zero, List.getD_cons_succ]
                generalize Roll.putD Ddkn vs [4, 13] b0 = a1 at *
                refine Roll.goes_val (w' := p) (.bool true) rfl ?_ ⟨hI, Below.refl _ _, rfl⟩
                (have ec : ∀ x, a1.eval (.const x) = x := fun _ => rfl); (have ef : ∀ x, a1.eval (.func x) = .func (.func x) #[] #[] := fun _ => rfl); generalize a1.eval = ρ at *
                clear h4 h13
                go_simp <;> (intros; first | (exfalso; omega) | rfl | omega)
              · intro vs p hI hp
                have h14 : (vs 14) = .bool true := hp 14 (by simp [Ldkn])
                have e116 : (Roll.putD Ddkn vs [14] b0).eval (.tmp 116) = .bool true := (Roll.eval_new 14 rfl (by decide) (by decide) (by omega)).trans h14
                clear hp hlv hN
                unfold Roll.Goes
                simp only [Ldkn, List.getD_cons_zero, List.getD_cons_succ]
                generalize Roll.putD Ddkn vs [14] b0 = a1 at *
                refine Roll.goes_val (w' := p) (.bool true) rfl ?_ ⟨hI, Below.refl _ _, rfl⟩
                (have ec : ∀ x, a1.eval (.const x) = x := fun _ => rfl); (have ef : ∀ x, a1.eval (.func x) = .func (.func x) #[] #[] := fun _ => rfl); generalize a1.eval = ρ at *
                clear h14
                go_simp <;> (intros; first | (exfalso; omega) | rfl | omega)
              · intro vs p hI hp
                have h15 : (vs 15) = .bool true := hp 15 (by simp [Ldkn])
                clear hp hlv hN
                refine ⟨fun hg => ?_, fun hg => absurd h15 hg⟩
                clear hg
                unfold Roll.Goes
                simp only [Ldkn, List.getD_cons_zero, List.getD_cons_succ]
                generalize Roll.putD Ddkn vs [15] b0 = a1 at *
                refine Roll.goes_call 19 #[] p rfl (by have ec : ∀ x, a1.eval (.const x) = x := fun _ => rfl; have ef : ∀ x, a1.eval (.func x) = .func (.func x) #[] #[] := fun _ => rfl; generalize a1.eval = ρ at *; go_simp) ?_
                refine (lives_any p (HTQ.out.below hI)).mono ?_
                rintro z p2 ⟨rfl, hb⟩
                exact ⟨_, rfl, hI.trans (hb.mono hI.size), hb, rfl⟩
              · intro vs p hI hp
                have h15 : (vs 15) = .bool true := hp 15 (by simp [Ldkn])
                have h16 : (vs 16) = .bool true := hp 16 (by simp [Ldkn])
                have e117 : (Roll.putD Ddkn vs [15, 16] b0).eval (.tmp 117) = .bool true := (Roll.eval_new 15 rfl (by decide) (by decide) (by omega)).trans h15
                have e118 : (Roll.putD Ddkn vs [15, 16] b0).eval (.tmp 118) = .bool true := (Roll.eval_new 16 rfl (by decide) (by decide) (by omega)).trans h16
                clear hp hlv hN
                unfold Roll.Goes
                simp only [Ldkn, List.getD_cons_zero, List.getD_cons_succ]
                generalize Roll.putD Ddkn vs [15, 16] b0 = a1 at *
                refine Roll.goes_val (w' := p) (.bool true) rfl ?_ ⟨hI, Below.refl _ _, rfl⟩
                (have ec : ∀ x, a1.eval (.const x) = x := fun _ => rfl); (have ef : ∀ x, a1.eval (.func x) = .func (.func x) #[] #[] := fun _ => rfl); generalize a1.eval = ρ at *
                clear h15 h16
                go_simp <;> (intros; first | (exfalso; omega) | rfl | omega)
              · intro vs p hI hp
                have h17 : (vs 17) = .bool true := hp 17 (by simp [Ldkn])
                have e119 : (Roll.putD Ddkn vs [17] b0).eval (.tmp 119) = .bool true := (Roll.eval_new 17 rfl (by decide) (by decide) (by omega)).trans h17
                clear hp hlv hN
                unfold Roll.Goes
                simp only [Ldkn, List.getD_cons_zero, List.getD_cons_succ]
                generalize Roll.putD Ddkn vs [17] b0 = a1 at *
                refine Roll.goes_val (w' := p) (.bool true) rfl ?_ ⟨hI, Below.refl _ _, rfl⟩
                (have ec : ∀ x, a1.eval (.const x) = x := fun _ => rfl); (have ef : ∀ x, a1.eval (.func x) = .func (.func x) #[] #[] := fun _ => rfl); generalize a1.eval = ρ at *
                clear h17
                go_simp <;> (intros; first | (exfalso; omega) | rfl | omega)
            · intro vs p hI hR
              have h0 : (vs 0) = .bool false := hR 0 (by omega)
              have h1 : (vs 1) = .int .i64 (-1) := hR 1 (by omega)
              have h2 : (vs 2) = .bool false := hR 2 (by omega)
              have h3 : (vs 3) = .bool true := hR 3 (by omega)
              have h4 : (vs 4) = .bool true := hR 4 (by omega)
              have h5 : (vs 5) = .bool false := hR 5 (by omega)
              have h6 : (vs 6) = .bool true := hR 6 (by omega)
              have h7 : (vs 7) = .bool true := hR 7 (by omega)
              have h8 : (vs 8) = undef := hR 8 (by omega)
              have h9 : (vs 9) = undef := hR 9 (by omega)
              have h10 : (vs 10) = undef := hR 10 (by omega)
              have h11 : (vs 11) = undef := hR 11 (by omega)
              have h12 : (vs 12) = undef := hR 12 (by omega)
              have h13 : (vs 13) = .bool true := hR 13 (by omega)
              have h14 : (vs 14) = .bool true := hR 14 (by omega)
              have h15 : (vs 15) = .bool true := hR 15 (by omega)
              have h16 : (vs 16) = .bool true := hR 16 (by omega)
              have h17 : (vs 17) = .bool true := hR 17 (by omega)
              have h18 : (vs 18) = .bool true := hR 18 (by omega)
              clear hR
              simp only [List.range_succ, List.range_zero, List.nil_append, List.cons_append, Roll.putD, Act.put, List.getD_cons_zero, List.getD_cons_succ, List.setIfInBounds_toArray, List.set_cons_zero, List.set_cons_succ, List.drop_succ_cons, List.drop_zero, Ddkn]
              simp only [h0, h1, h2, h3, h4, h5, h6, h7, h8, h9, h10, h11, h12, h13, h14, h15, h16, h17, h18]
              clear h0 h1 h2 h3 h4 h5 h6 h7 h8 h9 h10 h11 h12 h13 h14 h15 h16 h17 h18
              have HPF := Lib.hid (HBQ.out.trans (hI.mono HBQ.out.size))
              clear hI
              go_wp2
              go_ret
              exact ⟨rfl, HPF.out⟩
          | some pf =>
            obtain ⟨h1, h2, h3⟩ := hfk
            have HBE0 : Hid (0 ≤ be) := Lib.hid (of_decide_eq_true (show decide (0 ≤ be) = true from h1.symm))
            have hk := h2 pf rfl
            obtain ⟨kk, kv⟩ := pf
            obtain rfl : kk = printB be := hk
            clear h1 h2 h3
            have HFLO : Hid (∀ u, KI w u g t H k (.slice va ds.length vc) ds i → Calls Tryd.prog 42 #[.pointer (some ⟨g, 0, none⟩), .string (printB A)] u fun e w' => e = .returned (.tuple #[.agg #[.string (printB be), .string kv], .bool true]) ∧ Below u.heap.size u w') := Lib.hid HFLO0
            clear HFLO0
            go_upto_region 29 with (first
              | (go_at_call 21; refine (HDA.out _).mono ?_; rintro e w4 ⟨rfl, rfl⟩)
              | (go_at_call 24; refine (print_any A _ HKZ.out.tb).mono ?_; rintro e w4 ⟨rfl, hb⟩; have HK4 := Lib.hid (HKZ.out.under hb); clear hb HKZ)
              | (go_at_call 42; refine (HFLO.out _ HK4.out).mono ?_; rintro e w5 ⟨rfl, hb⟩; have HK5 := Lib.hid (HK4.out.under hb); clear hb HK4; have p7 : PB (w5.alloc (.cells #[.string ⟨#[]⟩, .string ⟨#[]⟩] 54)) w5.heap.size := ⟨⟨⟨#[]⟩, ⟨#[]⟩⟩, heap_new rfl⟩))
            obtain ⟨gb, hgb⟩ : ∃ gb, gb = w5.heap.size := ⟨_, rfl⟩
            obtain ⟨q, hq⟩ : ∃ q, q = (w5.alloc (.cells #[.string ⟨#[]⟩, .string ⟨#[]⟩] 54)).setRow w5.heap.size #[.string (printB be), .string kv] := ⟨_, rfl⟩
            have hbq : Below w5.heap.size w5 q := by rw [hq]; exact (((Kept.refl (fun _ => False) w5).alloc _).setRow (fun h => absurd h (Nat.lt_irrefl _)) _).below (Nat.le_refl _) (fun _ _ h => h)
            have hbb : q.heap[gb]? = some (.cells #[.string (printB be), .string kv] 54 (0, 0)) := by rw [hq, hgb]; exact setRow_heap _ _ _ _ _ _ (heap_new rfl)
            have HGL := Lib.hid (heap_lt hbb)
            have CQ0 : Hid (q.cell? ⟨gb, 0, none⟩ = some (.string (printB be))) := Lib.hid (cell_of_row q gb 0 _ _ _ hbb)
            have HKQ := HK5.out.under hbq
            have HTQ := Lib.hid HKQ.tb
            have HBQ := Lib.hid HKQ.bl
            rw [← hq, ← hgb]
            clear hq hgb p7 hbq hbb HKQ HK5 HFLO
            refine Roll.region_f 19 120 Ddks Ldks [(11, .int .i64 be), (15, .pointer (some ⟨gb, 0, none⟩)), (16, .bool true)] (fun p => Below q.heap.size q p) (fun p p2 => Below p.heap.size p p2) [fun vv p => vv = .bool true, fun vv p => vv = .int .i64 be, fun vv p => vv = .bool true, fun vv p => vv = .bool true, fun vv p => vv = .bool true, fun vv p => vv = .bool true, fun vv p => vv = .bool false, fun vv p => vv = .bool false, fun vv p => vv = .pointer (some ⟨gb, 0, none⟩), fun vv p => vv = .string (printB be), fun vv p => vv = .int .i64 be, fun vv p => vv = .string (printB be), fun vv p => vv = .bool true, fun vv p => vv = .bool true, fun vv p => vv = .bool true, fun vv p => vv = .bool true, fun vv p => vv = .bool true, fun vv p => vv = .bool true, fun vv p => vv = .bool true] (by kernel_rfl) (by kernel_rfl) rfl ⟨rfl, rfl, rfl, trivial⟩ ((Below.refl _ _).drew) ?_ ?_ ?_
            · exact ⟨fun _ _ _ _ h => h, fun _ _ _ _ h => h, fun _ _ _ _ h => h, fun _ _ _ _ h => h, fun _ _ _ _ h => h, fun _ _ _ _ h => h, fun _ _ _ _ h => h, fun _ _ _ _ h => h, fun _ _ _ _ h => h, fun _ _ _ _ h => h, fun _ _ _ _ h => h, fun _ _ _ _ h => h, fun _ _ _ _ h => h, fun _ _ _ _ h => h, fun _ _ _ _ h => h, fun _ _ _ _ h => h, fun _ _ _ _ h => h, fun _ _ _ _ h => h, fun _ _ _ _ h => h, trivial⟩
            · intro b0 hN hlv
              refine ⟨?_, ?_, ?_, ?_, ?_, ?_, ?_, ?_, ?_, ?_, ?_, ?_, ?_, ?_, ?_, ?_, ?_, ?_, ?_, trivial⟩
              · intro vs p hI hp
                have e16 : (Roll.putD Ddks vs [] b0).eval (.tmp 16) = .bool true := (Roll.eval_old rfl).trans (hlv.at 2 (16, .bool true) rfl)
                clear hp hlv hN
                unfold Roll.Goes
                simp only [Ldks, List.getD_cons_zero, List.getD_cons_succ]
                generalize Roll.putD Ddks vs [] b0 = a1 at *
                refine Roll.goes_val (w' := p) (.bool true) rfl ?_ ⟨hI, Below.refl _ _, rfl⟩
                (have ec : ∀ x, a1.eval (.const x) = x := fun _ => rfl); (have ef : ∀ x, a1.eval (.func x) = .func (.func x) #[] #[] := fun _ => rfl); generalize a1.eval = ρ at *
                skip
                go_simp <;> (intros; first | (exfalso; omega) | rfl | omega)
              · intro vs p hI hp
                have e11 : (Roll.putD Ddks vs [] b0).eval (.tmp 11) = .int .i64 be := (Roll.eval_old rfl).trans (hlv.at 0 (11, .int .i64 be) rfl)
                clear hp hlv hN
                unfold Roll.Goes
                simp only [Ldks, List.getD_cons_zero, List.getD_cons_succ]
                generalize Roll.putD Ddks vs [] b0 = a1 at *
                refine Roll.goes_val (w' := p) (.int .i64 be) rfl ?_ ⟨hI, Below.refl _ _, rfl⟩
                (have ec : ∀ x, a1.eval (.const x) = x := fun _ => rfl); (have ef : ∀ x, a1.eval (.func x) = .func (.func x) #[] #[] := fun _ => rfl); generalize a1.eval = ρ at *
                skip
                go_simp <;> (intros; first | (exfalso; omega) | rfl | omega)
              · intro vs p hI hp
                have h1 : (vs 1) = .int .i64 be := hp 1 (by simp [Ldks])
                have e103 : (Roll.putD Ddks vs [1] b0).eval (.tmp 103) = .int .i64 be := (Roll.eval_new 1 rfl (by decide) (by decide) (by omega)).trans h1
                clear hp hlv hN
                unfold Roll.Goes
                simp only [Ldks, List.getD_cons_zero, List.getD_cons_succ]
                generalize Roll.putD Ddks vs [1] b0 = a1 at *
                have f0 := HBE0.out
                refine Roll.goes_val (w' := p) (.bool true) rfl ?_ ⟨hI, Below.refl _ _, rfl⟩
                (have ec : ∀ x, a1.eval (.const x) = x := fun _ => rfl); (have ef : ∀ x, a1.eval (.func x) = .func (.func x) #[] #[] := fun _ => rfl); generalize a1.eval = ρ at *
                clear h1
                go_simp <;> (intros; first | (exfalso; omega) | rfl | omega)
              · intro vs p hI hp
                have h0 : (vs 0) = .bool true := hp 0 (by simp [Ldks])
                have h2 : (vs 2) = .bool true := hp 2 (by simp [Ldks])
                have e102 : (Roll.putD Ddks vs [0, 2] b0).eval (.tmp 102) = .bool true := (Roll.eval_new 0 rfl (by decide) (by decide) (by omega)).trans h0
                have e104 : (Roll.putD Ddks vs [0, 2] b0).eval (.tmp 104) = .bool true := (Roll.eval_new 2 rfl (by decide) (by decide) (by omega)).trans h2
                clear hp hlv hN
                unfold Roll.Goes
                simp only [Ldks, List.getD_cons_zero, List.getD_cons_succ]
                generalize Roll.putD Ddks vs [0, 2] b0 = a1 at *
                refine Roll.goes_val (w' := p) (.bool true) rfl ?_ ⟨hI, Below.refl _ _, rfl⟩
                (have ec : ∀ x, a1.eval (.const x) = x := fun _ => rfl); (have ef : ∀ x, a1.eval (.func x) = .func (.func x) #[] #[] := fun _ => rfl); generalize a1.eval = ρ at *
                clear h0 h2
                go_simp <;> (intros; first | (exfalso; omega) | rfl | omega)
              · intro vs p hI hp
                have h3 : (vs 3) = .bool true := hp 3 (by simp [Ldks])
                have e105 : (Roll.putD Ddks vs [3] b0).eval (.tmp 105) = .bool true := (Roll.eval_new 3 rfl (by decide) (by decide) (by omega)).trans h3
                clear hp hlv hN
                unfold Roll.Goes
                simp only [Ldks, List.getD_cons_zero, List.getD_cons_succ]
                generalize Roll.putD Ddks vs [3] b0 = a1 at *
                refine Roll.goes_val (w' := p) (.bool true) rfl ?_ ⟨hI, Below.refl _ _, rfl⟩
                (have ec : ∀ x, a1.eval (.const x) = x := fun _ => rfl); (have ef : ∀ x, a1.eval (.func x) = .func (.func x) #[] #[] := fun _ => rfl); generalize a1.eval = ρ at *
                clear h3
                go_simp <;> (intros; first | (exfalso; omega) | rfl | omega)
              · intro vs p hI hp
                have h4 : (vs 4) = .bool true := hp 4 (by simp [Ldks])
                have e16 : (Roll.putD Ddks vs [4] b0).eval (.tmp 16) = .bool true := (Roll.eval_old rfl).trans (hlv.at 2 (16, .bool true) rfl)
                clear hp hlv hN
                refine ⟨fun hg => ?_, fun hg => absurd h4 hg⟩
                clear hg
                unfold Roll.Goes
                simp only [Ldks, List.getD_cons_zero, List.getD_cons_succ]
                generalize Roll.putD Ddks vs [4] b0 = a1 at *
                refine Roll.goes_val (w' := p) (.bool true) rfl ?_ ⟨hI, Below.refl _ _, rfl⟩
                (have ec : ∀ x, a1.eval (.const x) = x := fun _ => rfl); (have ef : ∀ x, a1.eval (.func x) = .func (.func x) #[] #[] := fun _ => rfl); generalize a1.eval = ρ at *
                clear h4
                go_simp <;> (intros; first | (exfalso; omega) | rfl | omega)
              · intro vs p hI hp
                have h5 : (vs 5) = .bool true := hp 5 (by simp [Ldks])
                have h4 : (vs 4) = .bool true := hp 4 (by simp [Ldks])
                have e107 : (Roll.putD Ddks vs [5, 4] b0).eval (.tmp 107) = .bool true := (Roll.eval_new 5 rfl (by decide) (by decide) (by omega)).trans h5
                clear hp hlv hN
                refine ⟨fun hg => ?_, fun hg => absurd h4 hg⟩
                clear hg
                unfold Roll.Goes
                simp only [Ldks, List.getD_cons_zero, List.getD_cons_succ]
                generalize Roll.putD Ddks vs [5, 4] b0 = a1 at *
                refine Roll.goes_val (w' := p) (.bool false) rfl ?_ ⟨hI, Below.refl _ _, rfl⟩
                (have ec : ∀ x, a1.eval (.const x) = x := fun _ => rfl); (have ef : ∀ x, a1.eval (.func x) = .func (.func x) #[] #[] := fun _ => rfl); generalize a1.eval = ρ at *
                clear h5 h4
                go_simp <;> (intros; first | (exfalso; omega) | rfl | omega)
              · intro vs p hI hp
                have h6 : (vs 6) = .bool false := hp 6 (by simp [Ldks])
                have h4 : (vs 4) = .bool true := hp 4 (by simp [Ldks])
                have e108 : (Roll.putD Ddks vs [6, 4] b0).eval (.tmp 108) = .bool false := (Roll.eval_new 6 rfl (by decide) (by decide) (by omega)).trans h6
                clear hp hlv hN
                refine ⟨fun hg => ?_, fun hg => absurd h4 hg⟩
                clear hg
                unfold Roll.Goes
                simp only [Ldks, List.getD_cons_zero, List.getD_cons_succ]
                generalize Roll.putD Ddks vs [6, 4] b0 = a1 at *
                refine Roll.goes_val (w' := p) (.bool false) rfl ?_ ⟨hI, Below.refl _ _, rfl⟩
                (have ec : ∀ x, a1.eval (.const x) = x := fun _ => rfl); (have ef : ∀ x, a1.eval (.func x) = .func (.func x) #[] #[] := fun _ => rfl); generalize a1.eval = ρ at *
                clear h6 h4
                go_simp <;> (intros; first | (exfalso; omega) | rfl | omega)
              · intro vs p hI hp
                have h7 : (vs 7) = .bool false := hp 7 (by simp [Ldks])
                have e15 : (Roll.putD Ddks vs [7] b0).eval (.tmp 15) = .pointer (some ⟨gb, 0, none⟩) := (Roll.eval_old rfl).trans (hlv.at 1 (15, .pointer (some ⟨gb, 0, none⟩)) rfl)
                clear hp hlv hN
                refine ⟨fun hg => ?_, fun hg => absurd h7 hg⟩
                clear hg
                unfold Roll.Goes
                simp only [Ldks, List.getD_cons_zero, List.getD_cons_succ]
                generalize Roll.putD Ddks vs [7] b0 = a1 at *
                refine Roll.goes_val (w' := p) (.pointer (some ⟨gb, 0, none⟩)) rfl ?_ ⟨hI, Below.refl _ _, rfl⟩
                (have ec : ∀ x, a1.eval (.const x) = x := fun _ => rfl); (have ef : ∀ x, a1.eval (.func x) = .func (.func x) #[] #[] := fun _ => rfl); generalize a1.eval = ρ at *
                clear h7
                go_simp <;> (intros; first | (exfalso; omega) | rfl | omega)
              · intro vs p hI hp
                have h8 : (vs 8) = .pointer (some ⟨gb, 0, none⟩) := hp 8 (by simp [Ldks])
                have h7 : (vs 7) = .bool false := hp 7 (by simp [Ldks])
                have e110 : (Roll.putD Ddks vs [8, 7] b0).eval (.tmp 110) = .pointer (some ⟨gb, 0, none⟩) := (Roll.eval_new 8 rfl (by decide) (by decide) (by omega)).trans h8
                clear hp hlv hN
                refine ⟨fun hg => ?_, fun hg => absurd h7 hg⟩
                clear hg
                unfold Roll.Goes
                simp only [Ldks, List.getD_cons_zero, List.getD_cons_succ]
                generalize Roll.putD Ddks vs [8, 7] b0 = a1 at *
                have cf : p.cell? ⟨gb, 0, none⟩ = some (.string (printB be)) := (hI.cell (p := ⟨gb, 0, none⟩) HGL.out).trans CQ0.out
                refine Roll.goes_val (w' := p) (.string (printB be)) rfl ?_ ⟨hI, Below.refl _ _, rfl⟩
                (have ec : ∀ x, a1.eval (.const x) = x := fun _ => rfl); (have ef : ∀ x, a1.eval (.func x) = .func (.func x) #[] #[] := fun _ => rfl); generalize a1.eval = ρ at *
                clear h8 h7
                go_simp <;> (intros; first | (exfalso; omega) | rfl | omega)
              · intro vs p hI hp
                have h7 : (vs 7) = .bool false := hp 7 (by simp [Ldks])
                have e11 : (Roll.putD Ddks vs [7] b0).eval (.tmp 11) = .int .i64 be := (Roll.eval_old rfl).trans (hlv.at 0 (11, .int .i64 be) rfl)
                clear hp hlv hN
                refine ⟨fun hg => ?_, fun hg => absurd h7 hg⟩
                clear hg
                unfold Roll.Goes
                simp only [Ldks, List.getD_cons_zero, List.getD_cons_succ]
                generalize Roll.putD Ddks vs [7] b0 = a1 at *
                refine Roll.goes_val (w' := p) (.int .i64 be) rfl ?_ ⟨hI, Below.refl _ _, rfl⟩
                (have ec : ∀ x, a1.eval (.const x) = x := fun _ => rfl); (have ef : ∀ x, a1.eval (.func x) = .func (.func x) #[] #[] := fun _ => rfl); generalize a1.eval = ρ at *
                clear h7
                go_simp <;> (intros; first | (exfalso; omega) | rfl | omega)
              · intro vs p hI hp
                have h10 : (vs 10) = .int .i64 be := hp 10 (by simp [Ldks])
                have h7 : (vs 7) = .bool false := hp 7 (by simp [Ldks])
                have e112 : (Roll.putD Ddks vs [10, 7] b0).eval (.tmp 112) = .int .i64 be := (Roll.eval_new 10 rfl (by decide) (by decide) (by omega)).trans h10
                clear hp hlv hN
                refine ⟨fun hg => ?_, fun hg => absurd h7 hg⟩
                clear hg
                unfold Roll.Goes
                simp only [Ldks, List.getD_cons_zero, List.getD_cons_succ]
                generalize Roll.putD Ddks vs [10, 7] b0 = a1 at *
                refine Roll.goes_call 24 #[.int .i64 be] p rfl (by have ec : ∀ x, a1.eval (.const x) = x := fun _ => rfl; have ef : ∀ x, a1.eval (.func x) = .func (.func x) #[] #[] := fun _ => rfl; generalize a1.eval = ρ at *; go_simp) ?_
                refine (print_any be p (HTQ.out.below hI)).mono ?_
                rintro z p2 ⟨rfl, hb⟩
                exact ⟨_, rfl, hI.trans (hb.mono hI.size), hb, rfl⟩
              · intro vs p hI hp
                have h9 : (vs 9) = .string (printB be) := hp 9 (by simp [Ldks])
                have h11 : (vs 11) = .string (printB be) := hp 11 (by simp [Ldks])
                have h7 : (vs 7) = .bool false := hp 7 (by simp [Ldks])
                have e111 : (Roll.putD Ddks vs [9, 11, 7] b0).eval (.tmp 111) = .string (printB be) := (Roll.eval_new 9 rfl (by decide) (by decide) (by omega)).trans h9
                have e113 : (Roll.putD Ddks vs [9, 11, 7] b0).eval (.tmp 113) = .string (printB be) := (Roll.eval_new 11 rfl (by decide) (by decide) (by omega)).trans h11
                clear hp hlv hN
                refine ⟨fun hg => ?_, fun hg => absurd h7 hg⟩
                clear hg
                unfold Roll.Goes
                simp only [Ldks, List.getD_cons_zero, List.getD_cons_succ]
                generalize Roll.putD Ddks vs [9, 11, 7] b0 = a1 at *
                refine Roll.goes_val (w' := p) (.bool true) rfl ?_ ⟨hI, Below.refl _ _, rfl⟩
                (have ec : ∀ x, a1.eval (.const x) = x := fun _ => rfl); (have ef : ∀ x, a1.eval (.func x) = .func (.func x) #[] #[] := fun _ => rfl); generalize a1.eval = ρ at *
                clear h9 h11 h7
                go_simp <;> (intros; first | (exfalso; omega) | rfl | omega)
              · intro vs p hI hp
                have h7 : (vs 7) = .bool false := hp 7 (by simp [Ldks])
                have h12 : (vs 12) = .bool true := hp 12 (by simp [Ldks])
                have h4 : (vs 4) = .bool true := hp 4 (by simp [Ldks])
                have e109 : (Roll.putD Ddks vs [7, 12, 4] b0).eval (.tmp 109) = .bool false := (Roll.eval_new 7 rfl (by decide) (by decide) (by omega)).trans h7
                have e114 : (Roll.putD Ddks vs [7, 12, 4] b0).eval (.tmp 114) = .bool true := (Roll.eval_new 12 rfl (by decide) (by decide) (by omega)).trans h12
                clear hp hlv hN
                refine ⟨fun hg => ?_, fun hg => absurd h4 hg⟩
                clear hg
                unfold Roll.Goes
                simp only [Ldks, List.getD_cons_zero, List.getD_cons_succ]
                generalize Roll.putD Ddks vs [7, 12, 4] b0 = a1 at *
                refine Roll.goes_val (w' := p) (.bool true) rfl ?_ ⟨hI, Below.refl _ _, rfl⟩
                (have ec : ∀ x, a1.eval (.const x) = x := fun _ => rfl); (have ef : ∀ x, a1.eval (.func x) = .func (.func x) #[] #[] := fun _ => rfl); generalize a1.eval = ρ at *
                clear h7 h12 h4
                go_simp <;> (intros; first | (exfalso; omega) | rfl | omega)
              · intro vs p hI hp
                have h4 : (vs 4) = .bool true := hp 4 (by simp [Ldks])
                have h13 : (vs 13) = .bool true := hp 13 (by simp [Ldks])
                have e106 : (Roll.putD Ddks vs [4, 13] b0).eval (.tmp 106) = .bool true := (Roll.eval_new 4 rfl (by decide) (by decide) (by omega)).trans h4
                have e115 : (Roll.putD Ddks vs [4, 13] b0).eval (.tmp 115) = .bool true := (Roll.eval_new 13 rfl (by decide) (by decide) (by omega)).trans h13
                clear hp hlv hN
                unfold Roll.Goes
                simp only [Ldks, List.getD_cons_zero, List.getD_cons_succ]
                generalize Roll.putD Ddks vs [4, 13] b0 = a1 at *
                refine Roll.goes_val (w' := p) (.bool true) rfl ?_ ⟨hI, Below.refl _ _, rfl⟩
                (have ec : ∀ x, a1.eval (.const x) = x := fun _ => rfl); (have ef : ∀ x, a1.eval (.func x) = .func (.func x) #[] #[] := fun _ => rfl); generalize a1.eval = ρ at *
                clear h4 h13
                go_simp <;> (intros; first | (exfalso; omega) | rfl | omega)
              · intro vs p hI hp
                have h14 : (vs 14) = .bool true := hp 14 (by simp [Ldks])
                have e116 : (Roll.putD Ddks vs [14] b0).eval (.tmp 116) = .bool true := (Roll.eval_new 14 rfl (by decide) (by decide) (by omega)).trans h14
                clear hp hlv hN
                unfold Roll.Goes
                simp only [Ldks, List.getD_cons_zero, List.getD_cons_succ]
                generalize Roll.putD Ddks vs [14] b0 = a1 at *
                refine Roll.goes_val (w' := p) (.bool true) rfl ?_ ⟨hI, Below.refl _ _, rfl⟩
                (have ec : ∀ x, a1.eval (.const x) = x := fun _ => rfl); (have ef : ∀ x, a1.eval (.func x) = .func (.func x) #[] #[] := fun _ => rfl); generalize a1.eval = ρ at *
                clear h14
                go_simp <;> (intros; first | (exfalso; omega) | rfl | omega)
              · intro vs p hI hp
                have h15 : (vs 15) = .bool true := hp 15 (by simp [Ldks])
                clear hp hlv hN
                refine ⟨fun hg => ?_, fun hg => absurd h15 hg⟩
                clear hg
                unfold Roll.Goes
                simp only [Ldks, List.getD_cons_zero, List.getD_cons_succ]
                generalize Roll.putD Ddks vs [15] b0 = a1 at *
                refine Roll.goes_call 19 #[] p rfl (by have ec : ∀ x, a1.eval (.const x) = x := fun _ => rfl; have ef : ∀ x, a1.eval (.func x) = .func (.func x) #[] #[] := fun _ => rfl; generalize a1.eval = ρ at *; go_simp) ?_
                refine (lives_any p (HTQ.out.below hI)).mono ?_
                rintro z p2 ⟨rfl, hb⟩
                exact ⟨_, rfl, hI.trans (hb.mono hI.size), hb, rfl⟩
              · intro vs p hI hp
                have h15 : (vs 15) = .bool true := hp 15 (by simp [Ldks])
                have h16 : (vs 16) = .bool true := hp 16 (by simp [Ldks])
                have e117 : (Roll.putD Ddks vs [15, 16] b0).eval (.tmp 117) = .bool true := (Roll.eval_new 15 rfl (by decide) (by decide) (by omega)).trans h15
                have e118 : (Roll.putD Ddks vs [15, 16] b0).eval (.tmp 118) = .bool true := (Roll.eval_new 16 rfl (by decide) (by decide) (by omega)).trans h16
                clear hp hlv hN
                unfold Roll.Goes
                simp only [Ldks, List.getD_cons_zero, List.getD_cons_succ]
                generalize Roll.putD Ddks vs [15, 16] b0 = a1 at *
                refine Roll.goes_val (w' := p) (.bool true) rfl ?_ ⟨hI, Below.refl _ _, rfl⟩
                (have ec : ∀ x, a1.eval (.const x) = x := fun _ => rfl); (have ef : ∀ x, a1.eval (.func x) = .func (.func x) #[] #[] := fun _ => rfl); generalize a1.eval = ρ at *
                clear h15 h16
                go_simp <;> (intros; first | (exfalso; omega) | rfl | omega)
              · intro vs p hI hp
                have h17 : (vs 17) = .bool true := hp 17 (by simp [Ldks])
                have e119 : (Roll.putD Ddks vs [17] b0).eval (.tmp 119) = .bool true := (Roll.eval_new 17 rfl (by decide) (by decide) (by omega)).trans h17
                clear hp hlv hN
                unfold Roll.Goes
                simp only [Ldks, List.getD_cons_zero, List.getD_cons_succ]
                generalize Roll.putD Ddks vs [17] b0 = a1 at *
                refine Roll.goes_val (w' := p) (.bool true) rfl ?_ ⟨hI, Below.refl _ _, rfl⟩
                (have ec : ∀ x, a1.eval (.const x) = x := fun _ => rfl); (have ef : ∀ x, a1.eval (.func x) = .func (.func x) #[] #[] := fun _ => rfl); generalize a1.eval = ρ at *
                clear h17
                go_simp <;> (intros; first | (exfalso; omega) | rfl | omega)
            · intro vs p hI hR
              have h0 : (vs 0) = .bool true := hR 0 (by omega)
              have h1 : (vs 1) = .int .i64 be := hR 1 (by omega)
              have h2 : (vs 2) = .bool true := hR 2 (by omega)
              have h3 : (vs 3) = .bool true := hR 3 (by omega)
              have h4 : (vs 4) = .bool true := hR 4 (by omega)
              have h5 : (vs 5) = .bool true := hR 5 (by omega)
              have h6 : (vs 6) = .bool false := hR 6 (by omega)
              have h7 : (vs 7) = .bool false := hR 7 (by omega)
              have h8 : (vs 8) = .pointer (some ⟨gb, 0, none⟩) := hR 8 (by omega)
              have h9 : (vs 9) = .string (printB be) := hR 9 (by omega)
              have h10 : (vs 10) = .int .i64 be := hR 10 (by omega)
              have h11 : (vs 11) = .string (printB be) := hR 11 (by omega)
              have h12 : (vs 12) = .bool true := hR 12 (by omega)
              have h13 : (vs 13) = .bool true := hR 13 (by omega)
              have h14 : (vs 14) = .bool true := hR 14 (by omega)
              have h15 : (vs 15) = .bool true := hR 15 (by omega)
              have h16 : (vs 16) = .bool true := hR 16 (by omega)
              have h17 : (vs 17) = .bool true := hR 17 (by omega)
              have h18 : (vs 18) = .bool true := hR 18 (by omega)
              clear hR
              simp only [List.range_succ, List.range_zero, List.nil_append, List.cons_append, Roll.putD, Act.put, List.getD_cons_zero, List.getD_cons_succ, List.setIfInBounds_toArray, List.set_cons_zero, List.set_cons_succ, List.drop_succ_cons, List.drop_zero, Ddks]
              simp only [h0, h1, h2, h3, h4, h5, h6, h7, h8, h9, h10, h11, h12, h13, h14, h15, h16, h17, h18]
              clear h0 h1 h2 h3 h4 h5 h6 h7 h8 h9 h10 h11 h12 h13 h14 h15 h16 h17 h18
              have HPF := Lib.hid (HBQ.out.trans (hI.mono HBQ.out.size))
              clear hI
              go_wp2
              go_ret
              exact ⟨rfl, HPF.out⟩
end Go.Proofs.YtcoijmggfkjcjaaDoor

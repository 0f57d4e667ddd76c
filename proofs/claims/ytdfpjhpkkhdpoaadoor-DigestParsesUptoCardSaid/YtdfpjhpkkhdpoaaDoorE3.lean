/-
  The reference's Sorted.
-/
import Derived.Test.YtdfpjhpkkhdpoaaDoorE2
import Derived.BigQuiet
namespace Go.Proofs.YtdfpjhpkkhdpoaaDoor
open Go.RowKit
attribute [local go_sem ↓] exec_isliceF exec_isliceT
theorem iown_weaken {w : World} {b b' : Nat} {v : Value} {n : Nat} {xs : List Value} (h : w.ownsRow b' 3 1 v n xs) (hb : b ≤ b') : w.ownsRow b 3 1 v n xs := by
  obtain ⟨h1, h2 | ⟨g, cap, cur, e, hg, r⟩⟩ := h
  · exact ⟨h1, .inl h2⟩
  · exact ⟨h1, .inr ⟨g, cap, cur, e, by omega, r⟩⟩
theorem Is_one (w : World) (x : Int) : Is (w.alloc (.cells #[.int .i64 x] 3)) (some ⟨w.heap.size, 0, none⟩) 1 1 [x] := by
  refine ⟨rfl, Nat.le_refl _, by unfold maxLen; omega, (fun h => by cases h), fun _ => ⟨w.heap.size, 0, rfl, fun i hi => ?_⟩⟩
  obtain rfl : i = 0 := by omega
  rw [Nat.zero_add, cell_of_row _ w.heap.size 0 _ _ _ (heap_new rfl)]
  rfl
theorem Is_same {w : World} {a : Option Addr} {n c : Nat} {l : List Int} (h : Is w a n c l) (k : Nat) : Is (w.drewN k) a n c l := h
set_option maxRecDepth 100000 in
set_option maxHeartbeats 1000000 in
theorem sorted_any (a : Option Addr) (n c : Nat) (l : List Int) (B : Int) (w : World) (hI : Is w a n c l) (hn : n ≤ 1000) (hB : ∀ y ∈ l, 0 ≤ y ∧ y < B) :
    Calls Tryd.prog 23 #[.slice a n c] w fun e w' => ∃ a' c' out, e = .returned (.slice a' n c') ∧ Is w' a' n c' out ∧ out.Pairwise (· ≤ ·) ∧ (∀ y ∈ out, 0 ≤ y ∧ y < B) ∧ Below w.heap.size w w' := by
  have HI := Lib.hid hI
  have HBd := Lib.hid hB
  clear hI hB
  go_enter Tryd.func23, Tryd.ntmps23
  go_wp2
  go_loopw [3, 4, 5, 6] (fun v i _ _ wr => ∃ (j : Nat) (out : List Int), j ≤ n ∧ i = .int .i64 j ∧ out.length = j ∧ out.Pairwise (· ≤ ·) ∧ (∀ y ∈ out, 0 ≤ y ∧ y < B) ∧ wr.ownsRow w.heap.size 3 1 v out.length (ivals out) ∧ Below w.heap.size w wr) (fun _ i _ _ _ => n - (intOf i).toNat)
  case atStart => exact ⟨0, [], Nat.zero_le _, rfl, rfl, List.Pairwise.nil, by simp, iown_nil _ _, Below.refl _ _⟩
  case round =>
    obtain ⟨j, out, hj, rfl, hol, hos, hob, hown, hb⟩ := hrel
    have HS := Lib.hid hos
    have HO := Lib.hid hob
    have HBel := Lib.hid hb
    obtain ⟨va, vc, rfl, hIo⟩ := Is_of_own hown
    have HIo := Lib.hid hIo
    have Hol := Lib.hid hol
    rw [hol] at HIo ⊢
    clear hos hob hb hown hIo hol
    by_cases hlj : j < n
    · obtain ⟨b, off, rfl, hcs⟩ := HI.out.2.2.2.2 (by omega)
      have hc0 := hcs j hlj
      have hc : wr.cell? ⟨b, off + j, none⟩ = some (.int .i64 (l.getD j 0)) := (HBel.out.cell (p := ⟨b, off + j, none⟩) (block_lt_of_cell hc0)).trans hc0
      have hx : 0 ≤ l.getD j 0 ∧ l.getD j 0 < B := by
        have hjl : j < l.length := by rw [HI.out.1]; exact hlj
        have e : l.getD j 0 = l[j] := by simp [List.getD, hjl]
        rw [e]; exact HBd.out _ (List.getElem_mem hjl)
      clear hcs
      generalize l.getD j 0 = x at *
      have Hc0 := Lib.hid hc0
      have Hx := Lib.hid hx
      have Hbl := Lib.hid (block_lt_of_cell hc0)
      clear hc0 hx
      go_wp2
      go_loopw [5] (fun kv w2 => ∃ k : Nat, k ≤ j ∧ kv = .int .i64 k ∧ (∀ y ∈ out.take k, y ≤ x) ∧ Is w2 va j vc out ∧ Below wr.heap.size wr w2) (fun kv _ => j - (intOf kv).toNat)
      case atStart => exact ⟨0, Nat.zero_le _, rfl, by simp, HIo.out, Below.refl _ _⟩
      case round =>
        obtain ⟨k, hk, rfl, hle, hIs, hb2⟩ := hrel
        rename World => w2
        have hc2 : w2.cell? ⟨b, off + j, none⟩ = some (.int .i64 x) := ((HBel.out.trans (hb2.mono HBel.out.size)).cell (p := ⟨b, off + j, none⟩) Hbl.out).trans Hc0.out
        clear HIo
        by_cases hkj : k < j
        · obtain ⟨ob, oo, hva, hcs2⟩ := hIs.2.2.2.2 (by omega)
          have hck := hcs2 k hkj
          have hko : k < out.length := by rw [Hol.out]; exact hkj
          have hyo : out.getD k 0 = out[k] := by simp [List.getD, hko]
          obtain ⟨y, hy⟩ : ∃ y, y = out.getD k 0 := ⟨_, rfl⟩
          rw [← hy] at hck
          have Hy := Lib.hid (hy.trans hyo)
          subst hva
          clear hcs2 hy hyo
          by_cases hyx : y < x
          · have hd : decide (y < x) = true := by simpa using hyx
            have hle2 : Hid (∀ z ∈ out.take (k + 1), z ≤ x) := Lib.hid (fun z hz => by
              rw [List.take_succ_eq_append_getElem hko, List.mem_append, List.mem_singleton] at hz
              rcases hz with h | rfl
              · exact hle z h
              · have := Hy.out; omega)
            clear hle hyx
            go_upto_region 6 with (fail)
            go_quiet (fail)
            have HI3 := Lib.hid (Is_same hIs nq)
            have HB3 := Lib.hid (below_drewN hb2 nq)
            generalize w2.drewN nq = w3 at *
            clear hIs hb2 hck hc2
            go_wp2
            go_roundw
            case rel => exact ⟨k + 1, by omega, by go_num, hle2.out, HI3.out, HB3.out⟩
            case measure => simp [intOf]; omega
          · have hd : decide (y < x) = false := by simpa using hyx
            have hdr : ∀ z ∈ out.drop k, x ≤ z := fun z hz => by
              have hp := List.Pairwise.sublist (List.drop_sublist k out) HS.out
              rw [List.drop_eq_getElem_cons hko] at hz hp
              rcases List.mem_cons.1 hz with rfl | h
              · have := Hy.out; omega
              · have h3 := (List.pairwise_cons.1 hp).1 z h
                have := Hy.out; omega
            clear hyx
            go_upto_region 6 with (fail)
            go_quiet (fail)
            have HI3 := Lib.hid (Is_same hIs nq)
            have HB3 := Lib.hid (below_drewN hb2 nq)
            generalize w2.drewN nq = w3 at *
            obtain ⟨sT, hT⟩ := run_isliceT HI3.out k hk
            obtain ⟨fa, fc, sF, hF⟩ := run_isliceF HI3.out k hk
            obtain ⟨q, hq⟩ : ∃ q, q = j - k := ⟨_, rfl⟩
            rw [← hq] at sF hF
            have hqb : q ≤ 1000 := by omega
            have Hq := Lib.hid hq
            have HT := Lib.hid hT
            have HF := Lib.hid hF
            have Hdr := Lib.hid hdr
            have Hle := Lib.hid hle
            clear hIs hb2 hT hF hq hdr hle hc2
            go_upto_region 10 with (at_builtin; refine append_is rfl (.tmp 30) (.tmp 33) rfl w3.heap.size _ 0 [] rfl (iown_nil w3 _) (some ⟨ob, oo, none⟩) k vc (out.take k) rfl HT.out (by omega) (Nat.le_refl _) ?_; intro v1 w4 hown1 hg1; have BA := Lib.hid (iown_below (Below.refl _ _) (iown_nil w3 _) hg1 (Nat.le_refl _)); have OW1 := Lib.hid hown1; clear hown1 hg1)
            have S3 : Hid (Below w.heap.size w w3) := Lib.hid (HBel.out.trans (HB3.out.mono HBel.out.size))
            have S4 : Hid (Below w.heap.size w w4) := Lib.hid (S3.out.trans (BA.out.mono S3.out.size))
            have hc4 : w4.cell? ⟨b, off + j, none⟩ = some (.int .i64 x) := (S4.out.cell (p := ⟨b, off + j, none⟩) Hbl.out).trans Hc0.out
            go_upto_region 11 with (at_builtin; refine append_is rfl (.tmp 35) (.tmp 40) rfl w3.heap.size _ _ _ rfl (OW1.out.alloc _) _ 1 1 [x] rfl (Is_one w4 x) (by omega) (Nat.le_trans BA.out.size (by simp)) ?_; intro v2 w5 hown2 hg2; have BB := Lib.hid (iown_below (BA.out.alloc BA.out.size _) (OW1.out.alloc _) hg2 (Nat.le_trans BA.out.size (by simp))); have OW2 := Lib.hid hown2; clear hown2 hg2)
            go_wp2_with (at_builtin; refine append_is rfl (.tmp 42) (.tmp 45) rfl w3.heap.size _ _ _ rfl OW2.out fa q fc (out.drop k) rfl (HF.out.below BB.out) (by omega) BB.out.size ?_; intro v3 w6 hown3 hg3; have BC := Lib.hid (iown_below BB.out OW2.out hg3 BB.out.size); have OW3 := Lib.hid hown3; clear hown3 hg3)
            have el : (insAt x out k).length = j + 1 := by rw [insAt_len x out k (by rw [Hol.out]; exact hk), Hol.out]
            have R : Hid (w6.ownsRow w.heap.size 3 1 v3 (insAt x out k).length (ivals (insAt x out k))) := Lib.hid (by
              have := iown_weaken OW3.out S3.out.size
              rw [el, show j + 1 = 0 + k + 1 + q by have := Hq.out; omega]
              unfold insAt
              rw [ivals_app, ivals_app]
              simpa using this)
            have S6 : Hid (Below w.heap.size w w6) := Lib.hid (S3.out.trans (BC.out.mono S3.out.size))
            have Hel := Lib.hid el
            clear el
            go_roundw
            case rel => exact ⟨j + 1, insAt x out k, by omega, by go_num, Hel.out, insAt_sorted x out k HS.out Hle.out Hdr.out, (fun y hy => by rcases insAt_mem x out k y hy with rfl | h; exact Hx.out; exact HO.out y h), R.out, S6.out⟩
            case measure => simp [intOf]; omega
        · obtain rfl : k = j := by omega
          have hdr : ∀ z ∈ out.drop k, x ≤ z := fun z hz => by rw [List.drop_eq_nil_of_le (by rw [Hol.out]; exact Nat.le_refl _)] at hz; cases hz
          go_upto_region 6 with (fail)
          go_quiet (fail)
          have HI3 := Lib.hid (Is_same hIs nq)
          have HB3 := Lib.hid (below_drewN hb2 nq)
          generalize w2.drewN nq = w3 at *
          obtain ⟨sT, hT⟩ := run_isliceT HI3.out k hk
          obtain ⟨fa, fc, sF, hF⟩ := run_isliceF HI3.out k hk
          obtain ⟨q, hq⟩ : ∃ q, q = k - k := ⟨_, rfl⟩
          rw [← hq] at sF hF
          have hqb : q ≤ 1000 := by omega
          have Hq := Lib.hid hq
          have HT := Lib.hid hT
          have HF := Lib.hid hF
          have Hdr := Lib.hid hdr
          have Hle := Lib.hid hle
          clear hIs hb2 hT hF hq hdr hle hc2
          go_upto_region 10 with (at_builtin; refine append_is rfl (.tmp 30) (.tmp 33) rfl w3.heap.size _ 0 [] rfl (iown_nil w3 _) va k vc (out.take k) rfl HT.out (by omega) (Nat.le_refl _) ?_; intro v1 w4 hown1 hg1; have BA := Lib.hid (iown_below (Below.refl _ _) (iown_nil w3 _) hg1 (Nat.le_refl _)); have OW1 := Lib.hid hown1; clear hown1 hg1)
          have S3 : Hid (Below w.heap.size w w3) := Lib.hid (HBel.out.trans (HB3.out.mono HBel.out.size))
          have S4 : Hid (Below w.heap.size w w4) := Lib.hid (S3.out.trans (BA.out.mono S3.out.size))
          have hc4 : w4.cell? ⟨b, off + k, none⟩ = some (.int .i64 x) := (S4.out.cell (p := ⟨b, off + k, none⟩) Hbl.out).trans Hc0.out
          go_upto_region 11 with (at_builtin; refine append_is rfl (.tmp 35) (.tmp 40) rfl w3.heap.size _ _ _ rfl (OW1.out.alloc _) _ 1 1 [x] rfl (Is_one w4 x) (by omega) (Nat.le_trans BA.out.size (by simp)) ?_; intro v2 w5 hown2 hg2; have BB := Lib.hid (iown_below (BA.out.alloc BA.out.size _) (OW1.out.alloc _) hg2 (Nat.le_trans BA.out.size (by simp))); have OW2 := Lib.hid hown2; clear hown2 hg2)
          go_wp2_with (at_builtin; refine append_is rfl (.tmp 42) (.tmp 45) rfl w3.heap.size _ _ _ rfl OW2.out fa q fc (out.drop k) rfl (HF.out.below BB.out) (by omega) BB.out.size ?_; intro v3 w6 hown3 hg3; have BC := Lib.hid (iown_below BB.out OW2.out hg3 BB.out.size); have OW3 := Lib.hid hown3; clear hown3 hg3)
          have el : (insAt x out k).length = k + 1 := by rw [insAt_len x out k (by rw [Hol.out]; exact hk), Hol.out]
          have R : Hid (w6.ownsRow w.heap.size 3 1 v3 (insAt x out k).length (ivals (insAt x out k))) := Lib.hid (by
            have := iown_weaken OW3.out S3.out.size
            rw [el, show k + 1 = 0 + k + 1 + q by have := Hq.out; omega]
            unfold insAt
            rw [ivals_app, ivals_app]
            simpa using this)
          have S6 : Hid (Below w.heap.size w w6) := Lib.hid (S3.out.trans (BC.out.mono S3.out.size))
          have Hel := Lib.hid el
          clear el
          go_roundw
          case rel => exact ⟨k + 1, insAt x out k, by omega, by go_num, Hel.out, insAt_sorted x out k HS.out Hle.out Hdr.out, (fun y hy => by rcases insAt_mem x out k y hy with rfl | h; exact Hx.out; exact HO.out y h), R.out, S6.out⟩
          case measure => simp [intOf]; omega
    · obtain rfl : j = n := by omega
      go_wp2
      go_ret
      exact ⟨va, vc, out, rfl, HIo.out, HS.out, HO.out, HBel.out⟩
end Go.Proofs.YtdfpjhpkkhdpoaaDoor

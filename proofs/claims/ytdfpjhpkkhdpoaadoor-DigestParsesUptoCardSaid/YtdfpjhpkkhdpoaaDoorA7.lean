/-
  Walks over the digest seat: slices.Concat.
-/
import Derived.Test.YtdfpjhpkkhdpoaaDoorA6
namespace Go.Proofs.YtdfpjhpkkhdpoaaDoor
open Go.RowKit
/-- a piece: a slice value and the bytes that it reads as -/
structure Pc where
  a : Option Addr
  n : Nat
  c : Nat
  l : List UInt8
def Pc.val (p : Pc) : Value := .slice p.a p.n p.c
def joined (ps : List Pc) : List UInt8 := ps.flatMap Pc.l
def Pcs (w : World) (S : Nat) (ps : List Pc) : Prop := (∀ i (h : i < ps.length), w.cell? ⟨S, i, none⟩ = some ps[i].val) ∧ ∀ p ∈ ps, Bs w p.a p.n p.c p.l
theorem Pcs.below {w w' : World} {S : Nat} {ps : List Pc} (h : Pcs w S ps) (hS : S < w.heap.size) (hb : Below w.heap.size w w') : Pcs w' S ps :=
  ⟨fun i hi => (hb.cell (p := ⟨S, i, none⟩) hS).trans (h.1 i hi), fun p hp => (h.2 p hp).below hb⟩
theorem joined_take (ps : List Pc) (k : Nat) (h : k < ps.length) : joined (ps.take (k + 1)) = joined (ps.take k) ++ ps[k].l := by
  unfold joined
  rw [List.take_succ_eq_append_getElem h, List.flatMap_append]
  simp
theorem joined_len_le (ps : List Pc) (k : Nat) : (joined (ps.take k)).length ≤ (joined ps).length := by
  unfold joined
  rw [← List.take_append_drop k ps, List.flatMap_append]
  simp
set_option maxRecDepth 100000 in
set_option maxHeartbeats 400000 in
theorem concat_any (ps : List Pc) (S : Nat) (w : World) (hP : Pcs w S ps) (hS : S < w.heap.size) (hk : ps.length ≤ 1000000) (hn : (joined ps).length ≤ 140737488355328) :
    Calls Tryd.prog 36 #[.slice (some ⟨S, 0, none⟩) ps.length ps.length] w fun e w' => ∃ a c, e = .returned (.slice a (joined ps).length c) ∧ Bs w' a (joined ps).length c (joined ps) ∧ Below w.heap.size w w' := by
  obtain ⟨K, hK⟩ : ∃ K, K = ps.length := ⟨_, rfl⟩
  rw [← hK] at hk ⊢
  have HK := Lib.hid hK
  clear hK
  go_enter Tryd.func36, Tryd.ntmps36
  go_wp2
  go_loop [3, 5, 11] (fun s _ i => ∃ k : Nat, k ≤ K ∧ i = .int .i64 k ∧ s = .int .i64 ((joined (ps.take k)).length : Nat)) (fun _ _ i => K - (intOf i).toNat)
  case atStart => exact ⟨0, Nat.zero_le _, rfl, rfl⟩
  case round =>
    obtain ⟨k, hk2, rfl, rfl⟩ := hrel
    by_cases hlt : k < K
    · have hkl : k < ps.length := by have := HK.out; omega
      have hc : w.cell? ⟨S, k, none⟩ = some (.slice ps[k].a ps[k].n ps[k].c) := hP.1 k hkl
      have hl : ps[k].l.length = ps[k].n := (hP.2 _ (List.getElem_mem hkl)).1
      have hj := joined_take ps k hkl
      have hb := joined_len_le ps (k + 1)
      have hlen : (joined (ps.take k)).length + ps[k].n = (joined (ps.take (k + 1))).length := by rw [hj, List.length_append, hl]
      generalize ps[k] = p at *
      generalize (joined (ps.take k)).length = A at *
      generalize hA2 : (joined (ps.take (k + 1))).length = A2 at *
      have hA3 : A + p.n ≤ 140737488355328 := by omega
      have HA2 := Lib.hid hA2
      have HL := Lib.hid hlen
      have HP := Lib.hid hP
      clear hA2 hlen hj hl hb hP hn
      go_wp2
      go_round
      case rel => exact ⟨k + 1, by omega, by go_num, by rw [HA2.out, ← HL.out]; go_num⟩
      case measure => simp [intOf]; omega
    · obtain rfl : k = K := by omega
      have e1 : joined (ps.take k) = joined ps := by rw [HK.out, List.take_length]
      have HP := Lib.hid hP
      have hn2 := hn
      obtain ⟨N, hN⟩ : ∃ N, N = (joined ps).length := ⟨_, rfl⟩
      rw [e1, ← hN]
      rw [← hN] at hn
      have HN := Lib.hid hN
      clear e1 hP hN hn2
      go_wp2_with (go_at_call 45; refine (grow_any _ _ hn).mono ?_; rintro e w1 ⟨v, rfl, hown, hb1⟩)
      have Hown := Lib.hid hown
      have HB := Lib.hid hb1
      clear hown hb1
      go_loopw [6, 8, 27] (fun v _ i wr => ∃ j : Nat, j ≤ k ∧ i = .int .i64 j ∧ wr.ownsRow w.heap.size 5 1 v (joined (ps.take j)).length (vals (joined (ps.take j))) ∧ Below w.heap.size w wr) (fun _ _ i _ => k - (intOf i).toNat)
      case atStart => exact ⟨0, Nat.zero_le _, rfl, Hown.out, HB.out⟩
      case round =>
        clear Hown HB
        obtain ⟨j, hj, rfl, hown, hb⟩ := hrel
        have Hown := Lib.hid hown
        have HB := Lib.hid hb
        clear hown hb
        by_cases hlj : j < k
        · have hkl : j < ps.length := by have := HK.out; omega
          have hc : wr.cell? ⟨S, j, none⟩ = some (.slice ps[j].a ps[j].n ps[j].c) := (HB.out.cell (p := ⟨S, j, none⟩) hS).trans (HP.out.1 j hkl)
          have hBs : Bs wr ps[j].a ps[j].n ps[j].c ps[j].l := (HP.out.2 _ (List.getElem_mem hkl)).below HB.out
          have hjj := joined_take ps j hkl
          have hbd := joined_len_le ps (j + 1)
          have hlen : (joined (ps.take j)).length + ps[j].n = (joined (ps.take (j + 1))).length := by rw [hjj, List.length_append, hBs.1]
          have hlow : (joined (ps.take j)).length + ps[j].n ≤ 140737488355328 := by have := HN.out; omega
          generalize ps[j] = p at *
          have HBs := Lib.hid hBs
          have Hjj := Lib.hid hjj
          have Hlen := Lib.hid hlen
          have Hlow := Lib.hid hlow
          clear hBs hjj hlen hbd hlow
          go_wp2_with (at_builtin; refine append_bs rfl (.tmp 31) (.tmp 32) rfl w.heap.size _ _ _ rfl Hown.out p.a p.n p.c p.l rfl HBs.out Hlow.out HB.out.size ?_)
          intro v' w5 hown5 hgrow
          have R : w5.ownsRow w.heap.size 5 1 v' (joined (ps.take (j + 1))).length (vals (joined (ps.take (j + 1)))) := by
            rw [Hjj.out, vals_app, List.length_append, HBs.out.1]; exact hown5
          have B5 := own_below HB.out Hown.out hgrow HB.out.size
          have HR := Lib.hid R
          have HB5 := Lib.hid B5
          clear R B5 hown5 hgrow hc
          go_wp2
          go_roundw
          case rel => exact ⟨j + 1, by omega, by go_num, HR.out, HB5.out⟩
          case measure => simp [intOf]; omega
        · obtain rfl : j = k := by omega
          have e1 : joined (ps.take j) = joined ps := by rw [HK.out, List.take_length]
          have R := Hown.out
          rw [e1] at R
          obtain ⟨a, c, rfl, hBs⟩ := Bs_of_own R
          have HBs := Lib.hid hBs
          clear hBs R e1 Hown
          go_wp2
          go_ret
          exact ⟨a, c, rfl, HBs.out, HB.out⟩
end Go.Proofs.YtdfpjhpkkhdpoaaDoor

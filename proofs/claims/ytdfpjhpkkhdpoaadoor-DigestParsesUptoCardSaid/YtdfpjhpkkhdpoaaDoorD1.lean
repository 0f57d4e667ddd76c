/-
  Lists of parts; the law's own 'all'; SameBytes.
-/
import Derived.Test.YtdfpjhpkkhdpoaaDoorC2
namespace Go.Proofs.YtdfpjhpkkhdpoaaDoor
open Go.RowKit
/-- a slice of slices of bytes reads as these pieces -/
def Ps (w : World) (a : Option Addr) (n : Nat) (ps : List Pc) : Prop :=
  ps.length = n ∧ (0 < n → ∃ b off, a = some ⟨b, off, none⟩ ∧ ∀ i (h : i < ps.length), w.cell? ⟨b, off + i, none⟩ = some (.slice ps[i].a ps[i].n ps[i].c)) ∧ ∀ p ∈ ps, Bs w p.a p.n p.c p.l
theorem Ps.below {w w' : World} {a : Option Addr} {n : Nat} {ps : List Pc} (h : Ps w a n ps) (hb : Below w.heap.size w w') : Ps w' a n ps := by
  obtain ⟨h1, h2, h3⟩ := h
  refine ⟨h1, fun hn => ?_, fun p hp => (h3 p hp).below hb⟩
  obtain ⟨b, off, ha, hc⟩ := h2 hn
  exact ⟨b, off, ha, fun i hi => (hb.cell (p := ⟨b, off + i, none⟩) (block_lt_of_cell (hc i hi))).trans (hc i hi)⟩
theorem own_nil (w : World) (base : Nat) : w.ownsRow base 5 1 (.slice none 0 0) 0 [] := ⟨by simp, .inl ⟨rfl, rfl⟩⟩
set_option maxRecDepth 100000 in
set_option maxHeartbeats 1000000 in
theorem all_any (a : Option Addr) (n c : Nat) (ps : List Pc) (w : World) (hP : Ps w a n ps) (hn : n ≤ 1048576) (hb : (joined ps).length ≤ 1048576) :
    Calls Tryd.prog 21 #[.slice a n c] w fun e w' => ∃ a' c', e = .returned (.slice a' (joined ps).length c') ∧ Bs w' a' (joined ps).length c' (joined ps) ∧ Below w.heap.size w w' := by
  have HP := Lib.hid hP
  have HN := Lib.hid hb
  have hK := hP.1
  have HK := Lib.hid hK
  clear hP hb hK
  go_enter Tryd.func21, Tryd.ntmps21
  go_wp2
  go_loopw [3, 4] (fun v i wr => ∃ j : Nat, j ≤ n ∧ i = .int .i64 j ∧ wr.ownsRow w.heap.size 5 1 v (joined (ps.take j)).length (vals (joined (ps.take j))) ∧ Below w.heap.size w wr) (fun _ i _ => n - (intOf i).toNat)
  case atStart => exact ⟨0, Nat.zero_le _, rfl, own_nil _ _, Below.refl _ _⟩
  case round =>
    obtain ⟨j, hj, rfl, hown, hb⟩ := hrel
    have Hown := Lib.hid hown
    have HB := Lib.hid hb
    clear hown hb
    by_cases hlj : j < n
    · have hkl : j < ps.length := by have := HK.out; omega
      obtain ⟨b, off, rfl, hcs⟩ := HP.out.2.1 (by omega)
      have hc : wr.cell? ⟨b, off + j, none⟩ = some (.slice ps[j].a ps[j].n ps[j].c) := (HB.out.cell (p := ⟨b, off + j, none⟩) (block_lt_of_cell (hcs j hkl))).trans (hcs j hkl)
      have hBs : Bs wr ps[j].a ps[j].n ps[j].c ps[j].l := (HP.out.2.2 _ (List.getElem_mem hkl)).below HB.out
      have hjj := joined_take ps j hkl
      have hbd := joined_len_le ps (j + 1)
      have hlen : (joined (ps.take j)).length + ps[j].n = (joined (ps.take (j + 1))).length := by rw [hjj, List.length_append, hBs.1]
      have hlow : (joined (ps.take j)).length + ps[j].n ≤ 140737488355328 := by have := HN.out; omega
      clear hcs
      generalize ps[j] = p at *
      have HBs := Lib.hid hBs
      have Hjj := Lib.hid hjj
      have Hlow := Lib.hid hlow
      clear hBs hjj hlen hbd hlow
      go_wp2_with (at_builtin; refine append_bs rfl (.tmp 11) (.tmp 15) rfl w.heap.size _ _ _ rfl Hown.out p.a p.n p.c p.l rfl HBs.out Hlow.out HB.out.size ?_)
      intro v' w5 hown5 hgrow
      have R : w5.ownsRow w.heap.size 5 1 v' (joined (ps.take (j + 1))).length (vals (joined (ps.take (j + 1)))) := by
        rw [Hjj.out, vals_app, List.length_append, HBs.out.1]; exact hown5
      have B5 := own_below HB.out Hown.out hgrow HB.out.size
      have HR := Lib.hid R
      have HB5 := Lib.hid B5
      clear R B5 hown5 hgrow hc
      go_wp2
      go_roundw
      case rel => exact ⟨j + 1, by omega, by go_num, HR.out, HB5.out⟩
      case measure => simp [intOf]; omega
    · obtain rfl : j = n := by omega
      have e1 : joined (ps.take j) = joined ps := by rw [← HK.out, List.take_length]
      have R := Hown.out
      rw [e1] at R
      obtain ⟨a', c', rfl, hBs⟩ := Bs_of_own R
      have HBs := Lib.hid hBs
      clear hBs R e1 Hown
      go_wp2
      go_ret
      exact ⟨a', c', rfl, HBs.out, HB.out⟩
/-- SameBytes of equal bytes -/
theorem same_bytes (a1 : Option Addr) (n1 c1 : Nat) (a2 : Option Addr) (n2 c2 : Nat) (l : List UInt8) (w : World) (h1 : Bs w a1 n1 c1 l) (h2 : Bs w a2 n2 c2 l) :
    Calls Tryd.prog 24 #[.slice a1 n1 c1, .slice a2 n2 c2] w fun e w' => e = .returned (.bool true) ∧ w = w' := by
  have r1 := run_str h1
  have r2 := run_str h2
  clear h1 h2
  go_enter Tryd.func24, Tryd.ntmps24
  go_wp2
  go_ret
  exact ⟨rfl, rfl⟩
end Go.Proofs.YtdfpjhpkkhdpoaaDoor

/-
  The laws' written and lives.
-/
import Derived.Test.YtdnbkiaolimfjaaB3
namespace Go.Proofs.Ytdnbkiaolimfjaa
open Go.RowKit
set_option linter.unusedSimpArgs false
set_option linter.unusedVariables false
theorem encV_len (D : Nat → Prop) (w : World) (m : VM) (h : VOk D w m) (hs : VShort m) : (encV m).length ≤ 20000000 := by
  unfold encV
  have h1 := encU_len10 m.u h.u
  have h2 := encI_len m.n h.n1 h.n2
  have h3 := hs.1
  have h4 := hs.2
  have h5 : m.s.data.toList.length = m.s.size := by rw [Array.length_toList]; rfl
  have h6 := encIs_len m.l h.l64
  have h7 := h.l.1
  split
  · omega
  · split
    · omega
    · split
      · unfold encB; split <;> simp
      · split
        · unfold encT
          have := encU_len10 m.s.data.toList.length (by omega)
          rw [List.length_append]; omega
        · unfold encL
          have := encU_len10 m.l.length (by omega)
          rw [List.length_append]; omega
theorem Vs.dom2 {D D' : Nat → Prop} {w : World} {a : Option Addr} {n c : Nat} {ms : List VM} (h : Vs D w a n c ms) (hd : ∀ b, b < w.heap.size → D b → D' b) : Vs D' w a n c ms := ⟨h.1, h.2.1.dom2 (by decide) hd, fun m hm => (h.2.2 m hm).dom2 hd⟩
theorem take_encV (ms : List VM) (i : Nat) (h : i < ms.length) : (ms.take (i + 1)).flatMap encV = (ms.take i).flatMap encV ++ encV ms[i] := by
  rw [List.take_succ_eq_append_getElem h, List.flatMap_append]; simp
theorem encVs_len (D : Nat → Prop) (w : World) (ms : List VM) : (∀ m ∈ ms, VOk D w m ∧ VShort m) → (ms.flatMap encV).length ≤ 20000000 * ms.length := by
  induction ms with
  | nil => intro _; simp
  | cons m r ih =>
    intro h
    have h1 := encV_len D w m (h m (by simp)).1 (h m (by simp)).2
    have h2 := ih (fun x hx => h x (by simp [hx]))
    simp only [List.flatMap_cons, List.length_append, List.length_cons]
    omega
theorem Wr.new (w : World) : Wr (w.alloc (.cells #[.slice none 0 0] 27)) w.heap.size none [] := ⟨_, heap_new rfl, Own.nil _ _ _, by simp⟩
set_option maxRecDepth 100000 in
set_option maxHeartbeats 800000 in
theorem written_any (D : Nat → Prop) (a : Option Addr) (n c : Nat) (ms : List VM) (w : World) (hV : Vs D w a n c ms) (hs : ∀ m ∈ ms, VShort m) (hn : n ≤ 1000) :
    Calls Try.prog 16 #[.slice a n c] w fun x w' => ∃ v, x = .returned v ∧ Made w v (ms.flatMap encV) w' := by
  have hV2 : Vs (fun b => b < w.heap.size) w a n c ms := hV.dom2 (fun b hb _ => hb)
  have HV := Lib.hid hV2
  have HS := Lib.hid hs
  have HL := Lib.hid hV.1
  have hc1 : n ≤ c := hV.2.1.2.1
  have hc2 : c ≤ 9223372036854775807 := hV.2.1.2.2.1
  clear hV hV2 hs
  go_enter Try.func16, Try.ntmps16
  go_wp2
  obtain ⟨w1, hw1⟩ : ∃ w1, w1 = w.alloc (.cells #[.slice none 0 0] 27) := ⟨_, rfl⟩
  have hb1 : Below w.heap.size w w1 := by rw [hw1]; exact (Below.refl _ _).alloc (Nat.le_refl _) _
  have hz1 : w1.heap.size = w.heap.size + 1 := by rw [hw1, size_alloc1]
  have hN : Wr w1 w.heap.size none [] := by rw [hw1]; exact Wr.new w
  have HN := Lib.hid (Wrote.refl hN)
  have HB1 := Lib.hid hb1
  have HZ1 := Lib.hid hz1
  rw [← hw1]
  clear hw1 hb1 hz1 hN
  go_loopw [4] (fun t wr => ∃ j : Nat, j ≤ n ∧ t = .int .i64 (j : Int) ∧ Wrote w.heap.size none w1 ((ms.take j).flatMap encV) wr) (fun t _ => n - (intOf t).toNat)
  case atStart => exact ⟨0, Nat.zero_le _, rfl, HN.out⟩
  case round =>
    obtain ⟨j, hj, rfl, hA⟩ := hrel
    have HA := Lib.hid hA
    clear hA HN
    by_cases hlt : j < n
    · have hjm : j < ms.length := by have := HL.out; omega
      obtain ⟨k1, hw, hlk⟩ := HA.out
      have hkept : Kept (fun b => b = w.heap.size ∨ none = some b) w wr := (Kept.of_below _ HB1.out).trans hlk.kept (fun _ _ h => h)
      have hV3 : Vs (fun b => b < w.heap.size) wr a n c ms := HV.out.kept hkept (fun b hb hd => by simp; omega)
      obtain ⟨b, off, hDb, hbw, rfl, hr⟩ := hV3.at (by omega)
      have hr2 := hr j hjm
      have hOk := hV3.2.2 ms[j] (List.getElem_mem hjm)
      have hSh := HS.out ms[j] (List.getElem_mem hjm)
      have htk := take_encV ms j hjm
      have hlen : ((ms.take j).flatMap encV).length ≤ 100000000000 := by
        have h1 := encVs_len _ _ (ms.take j) (fun m hm => ⟨hV3.2.2 m (List.mem_of_mem_take hm), HS.out m (List.mem_of_mem_take hm)⟩)
        rw [List.length_take] at h1
        omega
      have hdis : ∀ b, b < w.heap.size → b ≠ w.heap.size ∧ k1 ≠ some b := fun b hb => ⟨by omega, fun e => by
        rcases hlk.fresh b e with h | h
        · cases h
        · have := HZ1.out; omega⟩
      generalize ms[j] = m at *
      have Hw := Lib.hid hw
      have Hlk := Lib.hid hlk
      have Hr2 := Lib.hid hr2
      have HOk := Lib.hid hOk
      have HSh := Lib.hid hSh
      have Htk := Lib.hid htk
      have Hlen := Lib.hid hlen
      have Hdis := Lib.hid hdis
      clear hw hlk hkept hV3 hr hr2 hOk hSh htk hlen hdis HA
      go_wp2_with (first
        | (refine wpList_load_mid rfl 34 (.tmp 13) rfl b (off + j * 6) rfl _ _ Hr2.out Try.underlying34 rfl (by rw [VM.cells_len]; kernel_rfl) ?_; rw [VM.cells_arr])
        | (go_at_call 12; refine (write_any w.heap.size k1 _ _ m _ Hw.out Hlen.out HOk.out HSh.out Hdis.out).mono ?_; rintro e w3 ⟨rfl, h3⟩; have H3 := Lib.hid h3; clear h3))
      go_roundw
      case rel => exact ⟨j + 1, by omega, by go_num, by rw [Htk.out]; exact H3.out.after Hlk.out⟩
      case measure => simp [intOf]; omega
    · obtain rfl : j = n := by omega
      have hA := HA.out
      rw [List.take_of_length_le (by have := HL.out; omega)] at hA
      obtain ⟨k1, hw, hlk⟩ := hA
      have hlen : (ms.flatMap encV).length ≤ 100000000000000 := by
        have h1 := encVs_len _ _ ms (fun m hm => ⟨HV.out.2.2 m hm, HS.out m hm⟩)
        have := HL.out
        omega
      have Hw := Lib.hid hw
      have Hlk := Lib.hid hlk
      clear hw hlk HA
      go_wp2_with (go_at_call 15; refine (done_any w.heap.size k1 _ _ Hw.out hlen).mono ?_; rintro e w3 ⟨v, rfl, k3, h3, hf3, hb3⟩; have H3 := Lib.hid h3; have HF3 := Lib.hid hf3; have HB3 := Lib.hid hb3; clear h3 hf3 hb3)
      go_ret
      have hsz : w.heap.size ≤ wr.heap.size := by have := Hlk.out.kept.size; have := HZ1.out; omega
      refine ⟨_, rfl, k3, H3.out, fun i hi => Nat.le_trans hsz (HF3.out i hi), ?_⟩
      exact (HB1.out.trans (Hlk.out.kept.below (by have := HZ1.out; omega) (fun i hi e => by
        rcases e with e | e
        · omega
        · cases e))).trans (HB3.out.mono hsz)
end Go.Proofs.Ytdnbkiaolimfjaa

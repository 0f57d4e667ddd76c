/-
  Slices of Values; the laws' few.
-/
import Derived.Test.YtdnbkiaolimfjaaB2
namespace Go.Proofs.Ytdnbkiaolimfjaa
open Go.RowKit
set_option linter.unusedSimpArgs false
set_option linter.unusedVariables false
theorem Sl.dom2 {D D' : Nat → Prop} {w : World} {a : Option Addr} {n c : Nat} {xs : List Value} {size : Nat} (h : Sl D w a n c xs size) (hz : 0 < size) (hd : ∀ b, b < w.heap.size → D b → D' b) : Sl D' w a n c xs size := by
  obtain ⟨h1, h2, h3, h4, h5⟩ := h
  refine ⟨h1, h2, h3, h4, fun hn => ?_⟩
  obtain ⟨b, off, hD, ha, hr⟩ := h5 hn
  exact ⟨b, off, hd b (range_lt hr (by rw [h1]; exact Nat.mul_pos hn hz)) hD, ha, hr⟩
theorem VOk.dom2 {D D' : Nat → Prop} {w : World} {m : VM} (h : VOk D w m) (hd : ∀ b, b < w.heap.size → D b → D' b) : VOk D' w m := ⟨h.k, h.u, h.n1, h.n2, h.s, ⟨h.l.1, h.l.2.dom2 (by decide) hd⟩, h.l64⟩
def vcells (ms : List VM) : List Value := ms.flatMap VM.cells
theorem vcells_len (ms : List VM) : (vcells ms).length = ms.length * 6 := by
  unfold vcells
  induction ms with
  | nil => rfl
  | cons m r ih => rw [List.flatMap_cons, List.length_append, ih, List.length_cons]; simp [VM.cells]; omega
theorem vcells_app (ms ns : List VM) : vcells (ms ++ ns) = vcells ms ++ vcells ns := by simp [vcells]
theorem VM.cells_len (m : VM) : m.cells.length = 6 := rfl
theorem vcells_get (ms : List VM) : ∀ (i j : Nat) (hi : i < ms.length), j < 6 → (vcells ms)[i * 6 + j]? = ms[i].cells[j]? := by
  induction ms with
  | nil => intro i j hi; simp at hi
  | cons m r ih =>
    intro i j hi hj
    have e : vcells (m :: r) = m.cells ++ vcells r := rfl
    cases i with
    | zero => rw [e, List.getElem?_append_left (by rw [VM.cells_len]; omega)]; simp
    | succ i =>
      rw [e, List.getElem?_append_right (by rw [VM.cells_len]; omega), VM.cells_len, show (i + 1) * 6 + j - 6 = i * 6 + j by omega]
      simpa using ih i j (by simpa using hi) hj
/-- a slice of Values -/
def Vs (D : Nat → Prop) (w : World) (a : Option Addr) (n c : Nat) (ms : List VM) : Prop := ms.length = n ∧ Sl D w a n c (vcells ms) 6 ∧ ∀ m ∈ ms, VOk D w m
theorem Vs.kept {D S : Nat → Prop} {w w' : World} {a : Option Addr} {n c : Nat} {ms : List VM} (h : Vs D w a n c ms) (hk : Kept S w w') (hd : ∀ b, b < w.heap.size → D b → ¬ S b) : Vs D w' a n c ms := ⟨h.1, h.2.1.kept (by decide) hk hd, fun m hm => (h.2.2 m hm).kept hk hd⟩
theorem Vs.at {D : Nat → Prop} {w : World} {a : Option Addr} {n c : Nat} {ms : List VM} (h : Vs D w a n c ms) (hn : 0 < n) : ∃ b off, D b ∧ b < w.heap.size ∧ a = some ⟨b, off, none⟩ ∧ ∀ i (hi : i < ms.length), w.rangeAt b (off + i * 6) ms[i].cells := by
  obtain ⟨h1, ⟨h2, h3, h4, h5, h6⟩, h7⟩ := h
  obtain ⟨b, off, hD, ha, hr⟩ := h6 hn
  refine ⟨b, off, hD, range_lt hr (by rw [h2]; omega), ha, fun i hi j v hv => ?_⟩
  have hj : j < 6 := by have := (List.getElem?_eq_some_iff.1 hv).1; rwa [VM.cells_len] at this
  rw [Nat.add_assoc]
  exact hr (i * 6 + j) v (by rw [vcells_get ms i j hi hj]; exact hv)
theorem info34 : (Try.prog.info? 34).map (fun i => (i.zero, i.size, i.bytes)) = some (some (.agg rzero), 6, 72) := by kernel_rfl
/-- the kind and the fields -/
def VM.kp (m : VM) : Nat × PV := (m.k, m.pv)
def PV.cut (p : PV) : PV := { p with s := p.s.take 20, l := p.l.take 20 }
def cutkp (x : Nat × PV) : Nat × PV := (x.1, x.2.cut)
def FewAt (w : World) (ms : List VM) (j : Nat) (v : Value) (wr : World) : Prop :=
  ∃ kk ns, Own wr 34 6 kk v ns.length (vcells ns) ∧ (∀ i, kk = some i → w.heap.size ≤ i) ∧ (∀ m ∈ ns, VOk (fun b => w.heap.size ≤ b ∧ kk ≠ some b) wr m) ∧ ns.map VM.kp = ((ms.take j).map VM.kp).map cutkp ∧ Below w.heap.size w wr
theorem vcells_one (ms : List VM) : ∀ u ∈ vcells ms, u.oneCell' = true := by
  intro u hu
  obtain ⟨m, _, hm⟩ := List.mem_flatMap.1 hu
  simp [VM.cells] at hm
  rcases hm with rfl | rfl | rfl | rfl | rfl | rfl <;> rfl
/-- append of one Value, in a block of its own, onto a row of one's own -/
theorem append_val {q : World} {ops : Array Oper} {rest : List Oper} {o : Oper} {act : Act} {Q : Exit → Act → World → Prop} (m : VM) (hgd : o.guard = none) (s x : Operand)
    (ho : o.op = .call { callee := .builtin .append, args := #[s, x], argTypes := #[22, 22] })
    (k : Option Nat) (v : Value) (n : Nat) (xs : List Value) (hv : act.eval s = v) (Z : Nat) (hx : act.eval x = .slice (some ⟨Z, 0, none⟩) 1 1) (hZ : Z = q.heap.size) (hown : Own q 34 6 k v n xs) (hn : n ≤ 1000000)
    (h : ∀ k' v' w', Own w' 34 6 k' v' (n + 1) (xs ++ m.cells) → (∀ j, k' = some j → k = some j ∨ q.heap.size ≤ j) → Kept (fun j => k = some j) q w' → wpList Try.prog ops Q rest (act.put o.dst v') w') :
    wpList Try.prog ops Q (o :: rest) act (q.alloc (.cells #[.int .u8 (m.k : Int), .int .u64 (m.u : Int), .int .i64 m.n, .bool m.b, .string m.s, .slice m.a m.ln m.c] 34)) := by
  subst hZ
  obtain ⟨i0, hi, hz0, hz1, hz2⟩ := info_parts info34
  have hmade := Own.made q 34 6 #[.int .u8 (m.k : Int), .int .u64 (m.u : Int), .int .i64 m.n, .bool m.b, .string m.s, .slice m.a m.ln m.c] 1 (by decide) rfl
  obtain ⟨a, c, e, hs⟩ := hmade.sl
  cases e
  have hsrc := hs.src (P := Try.prog) (tx := 22) Try.underlying22 (by
    intro u hu
    have : u ∈ vcells [m] := by simpa [vcells, VM.cells] using hu
    exact vcells_one [m] u this)
  refine wpList_append_any _ hgd s x 22 22 ho 34 i0 (.agg rzero) 6 72 Try.underlying22 hi hz0 hz1 hz2 rfl k v n xs hv (hown.kept ((Kept.refl (fun _ => False) q).alloc _) (fun _ _ h => h)) 1 _ (by rw [hx]; exact hsrc) (by unfold maxLen; omega) (by omega) (fun k' v' w' h1 h2 h3 _ => h k' v' w' h1 (fun j hj => (h2 j hj).imp id (fun hh => by rw [size_alloc1] at hh; omega)) (((Kept.refl (fun j => k = some j) q).alloc _).trans h3 (fun _ _ h => h)))
theorem copied20 (D : Nat → Prop) (a : Option Addr) (n c : Nat) (l : List Int) (w : World) (hB : Is D w a n c l) :
    Calls Try.prog 29 #[.slice a n c, .int .i64 20] w fun e w' => ∃ v, e = .returned v ∧ MadeI w v (l.take 20) w' := copiedI_any D a n c 20 l w hB (by omega)
theorem Is.reach {D : Nat → Prop} {w : World} {a : Option Addr} {n c : Nat} {l : List Int} (h : Is D w a n c l) : n ≤ c ∧ c ≤ maxLen := ⟨h.2.2.1, h.2.2.2.1⟩
set_option maxRecDepth 100000 in
set_option maxHeartbeats 1000000 in
theorem few_vals (D : Nat → Prop) (a : Option Addr) (n c : Nat) (ms : List VM) (w : World) (hV : Vs D w a n c ms) (hD : ∀ b, D b → b < w.heap.size) :
    Calls Try.prog 11 #[.slice a n c] w fun x w' => ∃ v, x = .returned v ∧ FewAt w ms 12 v w' := by
  obtain ⟨i0, hi, hz0, hz1, hz2⟩ := info_parts info34
  have HV := Lib.hid hV
  have HL := Lib.hid hV.1
  have HD := Lib.hid hD
  have hc1 : n ≤ c := hV.2.1.2.1
  have hc2 : c ≤ 9223372036854775807 := hV.2.1.2.2.1
  clear hV hD
  go_enter Try.func11, Try.ntmps11
  go_wp2
  go_loopw [3, 4] (fun v t wr => ∃ j : Nat, j ≤ n ∧ j ≤ 12 ∧ t = .int .i64 (j : Int) ∧ FewAt w ms j v wr) (fun _ t _ => 12 - (intOf t).toNat)
  case atStart => exact ⟨0, Nat.zero_le _, by omega, rfl, none, [], Own.nil _ _ _, (fun _ h => by cases h), (fun _ h => by cases h), rfl, Below.refl _ _⟩
  case round =>
    obtain ⟨j, hj, hj12, rfl, hA⟩ := hrel
    have HA := Lib.hid hA
    clear hA
    by_cases hlt : j < n ∧ j < 12
    · obtain ⟨hlt1, hlt2⟩ := hlt
      have hjm : j < ms.length := by have := HL.out; omega
      obtain ⟨b, off, hDb, hbw, rfl, hr⟩ := HV.out.at (by omega)
      obtain ⟨kk, ns, hown, hkk, hns, hmap, hbel⟩ := HA.out
      have hr2 : wr.rangeAt b (off + j * 6) ms[j].cells := fun i v hv => (hbel.cell (p := ⟨b, off + j * 6 + i, none⟩) hbw).trans (hr j hjm i v hv)
      have hOk := HV.out.2.2 ms[j] (List.getElem_mem hjm)
      have htk : ((ms.take (j + 1)).map VM.kp).map cutkp = ((ms.take j).map VM.kp).map cutkp ++ [cutkp ms[j].kp] := by rw [List.take_succ_eq_append_getElem hjm, List.map_append, List.map_append]; rfl
      have hIs : Is D wr ms[j].a ms[j].ln ms[j].c ms[j].l := hOk.l.kept (Kept.of_below (fun _ => False) hbel) (fun _ _ _ h => h)
      generalize ms[j] = m at *
      obtain ⟨mk, mu, mn, mb, msx, ma, ml, mc, mz⟩ := m
      simp only at hIs
      have Hr2 := Lib.hid hr2
      have Hown := Lib.hid hown
      have Hkk := Lib.hid hkk
      have Hns := Lib.hid hns
      have Hmap := Lib.hid hmap
      have Hbel := Lib.hid hbel
      have HOk := Lib.hid hOk
      have Htk := Lib.hid htk
      have HIs := Lib.hid hIs
      have hnl : ns.length ≤ 12 := by
        have h1 := congrArg List.length hmap
        simp only [List.length_map, List.length_take] at h1
        omega
      clear hr hr2 hown hkk hns hmap hbel hOk htk hIs HA
      go_wp2_with (first
        | (go_at_call 28; refine (short_any msx _ HOk.out.s).mono ?_; rintro e w4 ⟨rfl, rfl⟩)
        | (refine wpList_load_mid rfl 34 (.tmp 18) rfl b (off + j * 6) rfl _ _ Hr2.out Try.underlying34 rfl (by rw [VM.cells_len]; kernel_rfl) ?_; rw [VM.cells_arr]))
      obtain ⟨z2, hz2x⟩ : ∃ z2, z2 = mz.take 20 := ⟨_, rfl⟩
      have hcp := fun o => copied20 D ma ml mc mz _ (HIs.out.kept ((Kept.refl (fun _ => False) wr).alloc o) (fun _ _ _ h => h))
      rw [← hz2x] at hcp
      have Hz2 := Lib.hid hz2x
      have hcp2 := Lib.hid hcp
      clear hz2x hcp
      refine (hcp2.out _).mono ?_; rintro e w5 ⟨v5, rfl, ⟨k5, ho5, hf5⟩, hb5⟩; obtain ⟨va, vc, rfl, hs5⟩ := ho5.sl; have Ho5 := Lib.hid ho5; have Hs5 := Lib.hid hs5; have Hf5 := Lib.hid hf5; have HB5 := Lib.hid hb5; have hg5 := hb5.block wr.heap.size (by simp); rw [heap_new rfl] at hg5; have c5 : w5.cell? ⟨wr.heap.size, 5, none⟩ = some (.slice ma ml mc) := by rw [cell_of_row w5 _ 5 _ _ _ hg5]; rfl
      have f5 := frozen_of_row w5 _ 5 _ _ hg5; have HG6 : Hid ((w5.setCell ⟨wr.heap.size, 5, none⟩ (.slice va z2.length vc)).heap[wr.heap.size]? = some (.cells (VM.cells ⟨mk, mu, mn, mb, short msx 20, va, z2.length, vc, z2⟩).toArray 34 (0, 0))) := Lib.hid (by rw [heap_setCell_same w5 _ 5 _ _ _ hg5]; rfl); clear ho5 hs5 hf5 hb5 hg5
      go_wp2_with (first
        | (at_builtin; (refine append_val ⟨mk, mu, mn, mb, short msx 20, va, z2.length, vc, z2⟩ rfl (.tmp 28) (.tmp 30) rfl kk _ ns.length (vcells ns) rfl w5.heap.size rfl (by simp) (((Hown.out.kept ((Kept.refl (fun _ => False) wr).alloc _) (fun _ _ h => h)).kept (Kept.of_below (fun _ => False) HB5.out) (fun _ _ h => h)).kept ((Kept.refl (fun b => b = wr.heap.size) w5).setCell (fun _ => rfl) _) (fun i hi e => by have := Hown.out.lt i hi; omega)) (by omega) ?_))
        | (refine wpList_load_row rfl 34 (.tmp 5) rfl wr.heap.size rfl 34 _ (0, 0) _ HG6.out Try.underlying34 rfl (by rw [List.size_toArray, VM.cells_len]; kernel_rfl) ?_; rw [VM.cells_arr]))
      intro k' v' w' ho6 hf6 hK6
      have hq : Kept (fun b => b = wr.heap.size) wr (w5.setCell ⟨wr.heap.size, 5, none⟩ (.slice va z2.length vc)) := (((Kept.refl (fun b => b = wr.heap.size) wr).alloc _).trans (Kept.of_below _ HB5.out) (fun _ _ h => h)).setCell (fun _ => rfl) _
      have hq5 : Kept (fun b => b = wr.heap.size) w5 (w5.setCell ⟨wr.heap.size, 5, none⟩ (.slice va z2.length vc)) := (Kept.refl (fun b => b = wr.heap.size) w5).setCell (fun _ => rfl) _
      have hall : Kept (fun b => kk = some b) wr w' := (hq.mono (T := fun b => kk = some b) (fun i hi h => by omega)).trans hK6 (fun _ _ h => h)
      have hsz5 : wr.heap.size + 1 ≤ w5.heap.size := by have := HB5.out.size; simpa using this
      have hsw := Hbel.out.size
      have hns2 : ∀ m ∈ ns, VOk (fun b => w.heap.size ≤ b ∧ k' ≠ some b) w' m := fun m hm =>
        (((Hns.out m hm).dom2 (D' := fun b => (w.heap.size ≤ b ∧ k' ≠ some b) ∧ kk ≠ some b) (fun b hb hd => ⟨⟨hd.1, fun e => (hf6 b e).elim hd.2 (fun h => by omega)⟩, hd.2⟩)).kept hall (fun b _ hd => hd.2)).dom (fun b hd => hd.1)
      have hnew : VOk (fun b => w.heap.size ≤ b ∧ k' ≠ some b) w' ⟨mk, mu, mn, mb, short msx 20, va, z2.length, vc, z2⟩ := by
        refine ⟨HOk.out.k, HOk.out.u, HOk.out.n1, HOk.out.n2, ?_, ⟨rfl, ?_⟩, ?_⟩
        · show (msx.data.toList.take 20).toArray.size ≤ _
          simp only [List.size_toArray, List.length_take]
          omega
        · have h5 := (Hs5.out.dom2 (D' := fun b => wr.heap.size + 1 ≤ b ∧ b < w5.heap.size) (by decide) (fun b hb hd => ⟨by have := Hf5.out b hd; simpa using this, hb⟩)).kept (by decide) hq5 (fun b _ hd e => by omega)
          exact (h5.kept (by decide) hK6 (fun b _ hd e => by have := Hown.out.lt b e; omega)).dom (fun b hd => ⟨by omega, fun e => (hf6 b e).elim (fun h => by have := Hown.out.lt b h; omega) (fun h => by omega)⟩)
        · show Ok64 z2
          rw [Hz2.out]
          exact HOk.out.l64.take 20
      have R : FewAt w ms (j + 1) v' w' := by
        refine ⟨k', ns ++ [⟨mk, mu, mn, mb, short msx 20, va, z2.length, vc, z2⟩], ?_, fun i hi => (hf6 i hi).elim (fun h => Hkk.out i h) (fun h => by omega), ?_, ?_, Hbel.out.trans (hall.below hsw (fun i hi e => by have := Hkk.out i e; omega))⟩
        · rw [vcells_app, List.length_append]
          have e : vcells [VM.mk mk mu mn mb (short msx 20) va z2.length vc z2] = VM.cells ⟨mk, mu, mn, mb, short msx 20, va, z2.length, vc, z2⟩ := by simp [vcells]
          rw [e]
          exact ho6
        · intro m hm
          rcases List.mem_append.1 hm with h | h
          · exact hns2 m h
          · rw [List.mem_singleton.1 h]; exact hnew
        · rw [Htk.out, List.map_append, Hmap.out]
          have e : [VM.mk mk mu mn mb (short msx 20) va z2.length vc z2].map VM.kp = [cutkp (VM.kp ⟨mk, mu, mn, mb, msx, ma, ml, mc, mz⟩)] := by
            simp only [List.map_cons, List.map_nil, VM.kp, VM.pv, cutkp, PV.cut, short, Hz2.out]
          rw [e]
      have HR := Lib.hid R
      clear R hnew hns2 hall hq hq5 ho6 hf6 hK6 HG6 Hs5 Ho5 Hf5 HB5 Hown Hkk Hns Hmap Hbel HOk Htk HIs Hr2 c5 f5 hsz5
      go_wp2
      go_roundw
      case rel => exact ⟨j + 1, by omega, by omega, by go_num, HR.out⟩
      case measure => simp [intOf]; omega
    · have hE : FewAt w ms 12 u3 wr := by
        obtain ⟨kk, ns, h1, h2, h3, h4, h5⟩ := HA.out
        refine ⟨kk, ns, h1, h2, h3, ?_, h5⟩
        have e : ms.take 12 = ms.take j := by
          rcases Nat.lt_or_ge j 12 with h | h
          · rw [List.take_of_length_le (by have := HL.out; omega), List.take_of_length_le (by have := HL.out; omega)]
          · rw [show j = 12 by omega]
        rw [e]; exact h4
      have HE := Lib.hid hE
      clear hE HA
      by_cases hjn : j < n
      · obtain rfl : j = 12 := by omega
        go_wp2
        go_ret
        exact ⟨_, rfl, HE.out⟩
      · go_wp2
        go_ret
        exact ⟨_, rfl, HE.out⟩
end Go.Proofs.Ytdnbkiaolimfjaa

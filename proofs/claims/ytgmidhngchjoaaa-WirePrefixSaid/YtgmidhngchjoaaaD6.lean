/-
  The law WirePrefix: its walk.
-/
import Derived.Test.YtgmidhngchjoaaaM5
import Derived.Deep.Cut
import Derived.StillTailTactics
namespace Go.Proofs.Ytgmidhngchjoaaa
open Go.RowKit
set_option linter.unusedSimpArgs false
set_option linter.unusedVariables false
theorem encP_same (k : Nat) (p q : PV) (h : psame k p q = true) : encP k p = encP k q := by
  unfold psame at h
  unfold encP
  by_cases h0 : k % 5 = 0
  · simp only [if_pos h0, beq_iff_eq] at h ⊢; rw [h]
  · simp only [if_neg h0] at h ⊢
    by_cases h1 : k % 5 = 1
    · simp only [if_pos h1, beq_iff_eq] at h ⊢; rw [h]
    · simp only [if_neg h1] at h ⊢
      by_cases h2 : k % 5 = 2
      · simp only [if_pos h2, beq_iff_eq] at h ⊢; rw [h]
      · simp only [if_neg h2] at h ⊢
        by_cases h3 : k % 5 = 3
        · simp only [if_pos h3, beq_iff_eq] at h ⊢; rw [h]
        · simp only [if_neg h3, beq_iff_eq] at h ⊢; rw [h]
theorem strip_same (k : Nat) (p q : PV) (h : strip k p = strip k q) : psame k p q = true := by
  unfold strip at h
  unfold psame
  by_cases h0 : k % 5 = 0
  · simp only [if_pos h0, beq_iff_eq] at h ⊢; exact (PV.mk.inj h).1
  · simp only [if_neg h0] at h ⊢
    by_cases h1 : k % 5 = 1
    · simp only [if_pos h1, beq_iff_eq] at h ⊢; exact (PV.mk.inj h).2.1
    · simp only [if_neg h1] at h ⊢
      by_cases h2 : k % 5 = 2
      · simp only [if_pos h2, beq_iff_eq] at h ⊢; exact (PV.mk.inj h).2.2.1
      · simp only [if_neg h2] at h ⊢
        by_cases h3 : k % 5 = 3
        · simp only [if_pos h3, beq_iff_eq] at h ⊢; exact (PV.mk.inj h).2.2.2.1
        · simp only [if_neg h3, beq_iff_eq] at h ⊢; exact (PV.mk.inj h).2.2.2.2
theorem enc_prefix (k : Nat) (p q : PV) (hp : PFits p 20) (hq : PFits q 20) (r : List UInt8) (h : encP k q = encP k p ++ r) : psame k p q = true := by
  have h1 := rVal_enc k p r 20 hp (by omega)
  have h2 := rVal_enc k q [] 20 hq (by omega)
  rw [List.append_nil, h, h1] at h2
  exact strip_same k p q (congrArg Prod.fst h2)
theorem psame_symm (k : Nat) (p q : PV) (h : psame k q p = true) : psame k p q = true := by
  unfold psame at h ⊢
  by_cases h0 : k % 5 = 0
  · simp only [if_pos h0, beq_iff_eq] at h ⊢; exact h.symm
  · simp only [if_neg h0] at h ⊢
    by_cases h1 : k % 5 = 1
    · simp only [if_pos h1, beq_iff_eq] at h ⊢; exact h.symm
    · simp only [if_neg h1] at h ⊢
      by_cases h2 : k % 5 = 2
      · simp only [if_pos h2, beq_iff_eq] at h ⊢; exact h.symm
      · simp only [if_neg h2] at h ⊢
        by_cases h3 : k % 5 = 3
        · simp only [if_pos h3, beq_iff_eq] at h ⊢; exact h.symm
        · simp only [if_neg h3, beq_iff_eq] at h ⊢; exact h.symm
theorem enc_apart (k : Nat) (p q : PV) (hp : PFits p 20) (hq : PFits q 20) (h : psame k p q = false) (F : Nat) (hF : F = min (encP k p).length (encP k q).length) : ((encP k p).take F == (encP k q).take F) = false := by
  rw [beq_eq_false_iff_ne]
  intro e
  rcases Nat.le_total (encP k p).length (encP k q).length with hl | hl
  · have e2 : F = (encP k p).length := by omega
    rw [e2, List.take_length] at e
    have := enc_prefix k p q hp hq ((encP k q).drop (encP k p).length) (by
      conv => lhs; rw [← List.take_append_drop (encP k p).length (encP k q), ← e])
    rw [h] at this
    cases this
  · have e2 : F = (encP k q).length := by omega
    rw [e2, List.take_length] at e
    have := psame_symm k p q (enc_prefix k q p hq hp ((encP k p).drop (encP k q).length) (by
      conv => lhs; rw [← List.take_append_drop (encP k q).length (encP k p), e]))
    rw [h] at this
    cases this
theorem vcells_take (ms : List VM) (k : Nat) : vcells (ms.take k) = (vcells ms).take (k * 6) := by
  induction ms generalizing k with
  | nil => simp [vcells]
  | cons m r ih =>
    cases k with
    | zero => simp [vcells]
    | succ k =>
      have e : vcells (m :: r) = m.cells ++ vcells r := rfl
      have e2 : vcells (m :: r.take k) = m.cells ++ vcells (r.take k) := rfl
      rw [List.take_succ_cons, e, e2, ih k, List.take_append, VM.cells_len, List.take_of_length_le (l := m.cells) (by rw [VM.cells_len]; omega), show (k + 1) * 6 - 6 = k * 6 by omega]
theorem Vs.upto {D : Nat → Prop} {w : World} {a : Option Addr} {n c : Nat} {ms : List VM} (h : Vs D w a n c ms) (F : Nat) (hF : F ≤ n) : Vs D w a F c (ms.take F) := by
  obtain ⟨h1, ⟨h2, h3, h4, h5, h6⟩, h7⟩ := h
  refine ⟨by rw [List.length_take]; omega, ⟨?_, by omega, h4, h5, fun hp => ?_⟩, fun m hm => h7 m (List.mem_of_mem_take hm)⟩
  · rw [vcells_len, List.length_take]; congr 1; omega
  · obtain ⟨b, off, hD, ha, hr⟩ := h6 (by omega)
    refine ⟨b, off, hD, ha, fun j v hv => hr j v ?_⟩
    rw [vcells_take, List.getElem?_take] at hv
    split at hv
    · exact hv
    · cases hv
theorem vcells_drop (ms : List VM) (k : Nat) : vcells (ms.drop k) = (vcells ms).drop (k * 6) := by
  induction ms generalizing k with
  | nil => simp [vcells]
  | cons m r ih =>
    cases k with
    | zero => simp [vcells]
    | succ k =>
      have e : vcells (m :: r) = m.cells ++ vcells r := rfl
      rw [List.drop_succ_cons, e, ih k, List.drop_append, VM.cells_len, List.drop_of_length_le (l := m.cells) (by rw [VM.cells_len]; omega), show (k + 1) * 6 - 6 = k * 6 by omega, List.nil_append]
theorem Vs.from {D : Nat → Prop} {w : World} {a : Option Addr} {n c : Nat} {ms : List VM} (h : Vs D w a n c ms) (F : Nat) (hF : F ≤ n) (hc : c ≠ F) : Vs D w (a.map (fun x => x.add (F * 6))) (n - F) (c - F) (ms.drop F) := by
  obtain ⟨h1, ⟨h2, h3, h4, h5, h6⟩, h7⟩ := h
  refine ⟨by rw [List.length_drop]; omega, ⟨?_, by omega, by unfold maxLen at *; omega, ?_, fun hp => ?_⟩, fun m hm => h7 m (List.mem_of_mem_drop hm)⟩
  · rw [vcells_len, List.length_drop, h1]
  · intro ha
    cases a with
    | none => have := h5 rfl; omega
    | some x => cases ha
  · obtain ⟨b, off, hD, rfl, hr⟩ := h6 (by omega)
    refine ⟨b, off + F * 6, hD, by rw [Option.map_some, Addr.add_mid], fun j v hv => ?_⟩
    rw [vcells_drop, List.getElem?_drop] at hv
    rw [Nat.add_assoc]
    exact hr (F * 6 + j) v hv
theorem Vs.two (w : World) (D : Nat → Prop) (m1 m2 : VM) (h1 : VOk D w m1) (h2 : VOk D w m2) :
    Vs (fun b => D b ∨ b = w.heap.size) (w.alloc (.cells #[.int .u8 (m1.k : Int), .int .u64 (m1.u : Int), .int .i64 m1.n, .bool m1.b, .string m1.s, .slice m1.a m1.ln m1.c, .int .u8 (m2.k : Int), .int .u64 (m2.u : Int), .int .i64 m2.n, .bool m2.b, .string m2.s, .slice m2.a m2.ln m2.c] 34)) (some ⟨w.heap.size, 0, none⟩) 2 2 [m1, m2] := by
  have h := Own.made w 34 6 #[.int .u8 (m1.k : Int), .int .u64 (m1.u : Int), .int .i64 m1.n, .bool m1.b, .string m1.s, .slice m1.a m1.ln m1.c, .int .u8 (m2.k : Int), .int .u64 (m2.u : Int), .int .i64 m2.n, .bool m2.b, .string m2.s, .slice m2.a m2.ln m2.c] 2 (by decide) rfl
  obtain ⟨a, c, e, hs⟩ := h.sl
  cases e
  refine ⟨rfl, hs.dom (fun b h => .inr (Option.some.inj h).symm), fun m hm => ?_⟩
  have hk : ∀ o, VOk D (w.alloc o) m1 ∧ VOk D (w.alloc o) m2 := fun o => ⟨h1.kept ((Kept.refl (fun _ => False) w).alloc o) (fun _ _ _ h => h), h2.kept ((Kept.refl (fun _ => False) w).alloc o) (fun _ _ _ h => h)⟩
  simp at hm
  rcases hm with rfl | rfl
  · exact (hk _).1.dom (fun b h => .inl h)
  · exact (hk _).2.dom (fun b h => .inl h)
theorem range_of_heap {w : World} {b : Nat} {cs : List Value} {t : TypeId} {fr : Nat × Nat} (h : w.heap[b]? = some (.cells cs.toArray t fr)) : w.rangeAt b 0 cs := fun j v hv => by
  rw [Nat.zero_add, cell_of_row w b j _ _ _ h]
  simpa using hv
attribute [local go_sem ↓] exec_load34 exec_at_zero exec_at_succ Go.wp_at_zero Go.wp_at_succ
set_option maxRecDepth 100000 in
set_option maxHeartbeats 2000000 in
theorem prefix_any (m1 m2 : VM) (w : World) (h1 : VOk (Old w) w m1) (h2 : VOk (Old w) w m2) :
    Calls Try.prog 8 #[m1.val, m2.val] w fun x w' => x = .returned (.bool true) ∧ Below w.heap.size w w' := by
  obtain ⟨mk, mu, mn, mb, msx, ma, ml, mc, mz⟩ := m1
  obtain ⟨nk, nu, nn, nb, nsx, na, nl, nc, nz⟩ := m2
  simp only [VM.val]
  have H1 := Lib.hid h1
  have H2 : Hid (VOk (Old w) w ⟨mk, nu, nn, nb, nsx, na, nl, nc, nz⟩) := Lib.hid ⟨h1.k, h2.u, h2.n1, h2.n2, h2.s, h2.l, h2.l64⟩
  clear h1 h2
  go_enter Try.func8, Try.ntmps8
  go_upto_region 2 with (fail)
  obtain ⟨w1, hw1⟩ : ∃ w1, w1 = (w.alloc (.cells #[.int .u8 (mk : Int), .int .u64 (mu : Int), .int .i64 mn, .bool mb, .string msx, .slice ma ml mc] 34)).alloc (.cells #[.int .u8 (mk : Int), .int .u64 (nu : Int), .int .i64 nn, .bool nb, .string nsx, .slice na nl nc] 34) := ⟨_, rfl⟩
  have hb1 : Below w.heap.size w w1 := by rw [hw1]; exact ((Below.refl _ _).alloc (Nat.le_refl _) _).alloc (by simp) _
  have g1 : w1.heap[w.heap.size]? = some (.cells (VM.cells ⟨mk, mu, mn, mb, msx, ma, ml, mc, mz⟩).toArray 34 (0, 0)) := by rw [hw1]; exact heap_old (heap_new rfl)
  have g2 : w1.heap[w.heap.size + 1]? = some (.cells (VM.cells ⟨mk, nu, nn, nb, nsx, na, nl, nc, nz⟩).toArray 34 (0, 0)) := by rw [hw1]; exact heap_new (by rw [size_alloc1])
  have ld1 := run_load34 (m := ⟨mk, mu, mn, mb, msx, ma, ml, mc, mz⟩) (range_of_heap g1)
  have ld2 := run_load34 (m := ⟨mk, nu, nn, nb, nsx, na, nl, nc, nz⟩) (range_of_heap g2)
  simp only at ld1 ld2
  have hv := Vs.two w1 (fun b => b < w1.heap.size) ⟨mk, mu, mn, mb, msx, ma, ml, mc, mz⟩ ⟨mk, nu, nn, nb, nsx, na, nl, nc, nz⟩ ((H1.out.kept (Kept.of_below (fun _ => False) hb1) (fun _ _ _ h => h)).dom (fun b hb => by have hb2 : b < w.heap.size := hb; have := hb1.size; omega)) ((H2.out.kept (Kept.of_below (fun _ => False) hb1) (fun _ _ _ h => h)).dom (fun b hb => by have hb2 : b < w.heap.size := hb; have := hb1.size; omega))
  have HVt := Lib.hid hv
  have HB1 := Lib.hid hb1
  rw [← hw1]
  clear hw1 hb1 g1 g2 hv
  go_upto_region 3 with (first
    | (go_at_call 11; refine (few_vals _ _ 2 2 _ _ HVt.out (fun b hb => by rw [size_alloc1]; omega)).mono ?_; rintro e w2 ⟨v2, rfl, hf2⟩; obtain ⟨va, vc, ns, rfl, he2, hmap⟩ := hf2.few12; have E2 := Lib.hid he2; have HMap := Lib.hid hmap; clear hf2 he2 hmap))
  have hns : ∃ x y : VM, ns = [x, y] ∧ x.k = mk ∧ y.k = mk := by
    have h := HMap.out
    have hl := congrArg List.length h
    simp only [List.length_map, List.take, List.length_cons, List.length_nil] at hl
    match ns, hl with
    | [x, y], _ =>
      refine ⟨x, y, rfl, ?_, ?_⟩
      · have h0 := congrArg (fun l => (l[0]?).map Prod.fst) h
        simpa [VM.kp, cutkp] using h0
      · have h0 := congrArg (fun l => (l[1]?).map Prod.fst) h
        simpa [VM.kp, cutkp] using h0
  obtain ⟨x, y, rfl, hxk, hyk⟩ := hns
  have hE := E2.out
  simp only [List.length_cons, List.length_nil, Nat.zero_add, Nat.reduceAdd] at hE
  have E3 := Lib.hid hE
  clear E2 hE HMap
  have hvc : 2 ≤ vc := E3.out.vs.2.1.2.1
  have hvm : vc ≤ 9223372036854775807 := E3.out.vs.2.1.2.2.1
  obtain ⟨b, off, hDb, hbw, rfl, hr⟩ := E3.out.vs.at (by decide)
  have hrx : w2.rangeAt b (off + 0 * 6) x.cells := hr 0 (by simp)
  have hry : w2.rangeAt b (off + 1 * 6) y.cells := hr 1 (by simp)
  have hV0 := E3.out.vs.upto 1 (by omega)
  have hV1 : Vs (fun b => (w1.heap.size + 1) ≤ b ∧ b < w2.heap.size) w2 (some ⟨b, off + 6, none⟩) 1 (vc - 1) [y] := by
    have h := E3.out.vs.from 1 (by omega) (by omega)
    rw [Option.map_some, Addr.add_mid, size_alloc1] at h
    exact h
  have hCx := written_any _ _ 1 vc [x] w2 hV0 (fun m hm => by rw [List.mem_singleton.1 hm]; exact (E3.out.fit x (by simp)).2) (by omega)
  have hCy := fun w' (hb : Below w2.heap.size w2 w') => written_any _ _ 1 (vc - 1) [y] w' (hV1.below hb) (fun m hm => by rw [List.mem_singleton.1 hm]; exact (E3.out.fit y (by simp)).2) (by omega)
  obtain ⟨X, hX⟩ : ∃ X, X = [x].flatMap encV := ⟨_, rfl⟩
  obtain ⟨Y, hY⟩ : ∃ Y, Y = [y].flatMap encV := ⟨_, rfl⟩
  rw [← hX] at hCx
  simp only [← hY] at hCy
  have hXl : X.length ≤ 20000000 * 1 := by rw [hX]; exact encVs_len _ w2 [x] (fun m hm => by rw [List.mem_singleton.1 hm]; exact ⟨E3.out.vs.2.2 x (by simp), (E3.out.fit x (by simp)).2⟩)
  have hYl : Y.length ≤ 20000000 * 1 := by rw [hY]; exact encVs_len _ w2 [y] (fun m hm => by rw [List.mem_singleton.1 hm]; exact ⟨E3.out.vs.2.2 y (by simp), (E3.out.fit y (by simp)).2⟩)
  have HX := Lib.hid hX
  have HY := Lib.hid hY
  have HCx := Lib.hid hCx
  have HCy := Lib.hid hCy
  have HRx := Lib.hid hrx
  have HRy := Lib.hid hry
  have HDb := Lib.hid hDb
  have HBw := Lib.hid hbw
  clear hr hrx hry hV0 hV1 hCx hCy hX hY hDb hbw ld1 ld2
  go_upto_region 5 with (first
    | (go_at_call 16; refine (HCy.out _ B3.out).mono ?_; rintro e w4 ⟨v4, rfl, h4⟩; obtain ⟨a4, c4, rfl, hs4⟩ := h4.bs; obtain ⟨-, -, -, hb4⟩ := h4; have S4 := Lib.hid hs4; have B4 := Lib.hid hb4; clear hs4 hb4)
    | (go_at_call 16; refine HCx.out.mono ?_; rintro e w3 ⟨v3, rfl, h3⟩; obtain ⟨a3, c3, rfl, hs3⟩ := h3.bs; obtain ⟨-, -, -, hb3⟩ := h3; have S3 := Lib.hid hs3; have B3 := Lib.hid hb3; clear hs3 hb3))
  obtain ⟨F, hF⟩ : ∃ F, F = min X.length Y.length := ⟨_, rfl⟩
  have e1 : (if Y.length < X.length then (Y.length : Int) else (X.length : Int)) = (F : Int) := by split <;> omega
  have hFx : F ≤ X.length := by omega
  have hFy : F ≤ Y.length := by omega
  have HF := Lib.hid hF
  have hb24 : Below w2.heap.size w2 w4 := B3.out.trans (B4.out.mono B3.out.size)
  have hrx4 : w4.rangeAt b off x.cells := by have h := range_kept HRx.out HBw.out (Kept.of_below (fun _ => False) hb24) (fun h => h); simpa using h
  have hry4 : w4.rangeAt b (off + 6) y.cells := by have h := range_kept HRy.out HBw.out (Kept.of_below (fun _ => False) hb24) (fun h => h); simpa using h
  have hox : VOk (fun b => (w1.heap.size + 1) ≤ b ∧ b < w2.heap.size) w4 x := by have h := (E3.out.vs.below hb24).2.2 x (by simp); rw [size_alloc1] at h; exact h
  have hoy : VOk (fun b => (w1.heap.size + 1) ≤ b ∧ b < w2.heap.size) w4 y := by have h := (E3.out.vs.below hb24).2.2 y (by simp); rw [size_alloc1] at h; exact h
  have hs := same_any _ _ x y w4.drew (hox.kept (Kept.refl (fun _ => False) w4).drew (fun _ _ _ h => h)) (hoy.kept (Kept.refl (fun _ => False) w4).drew (fun _ _ _ h => h))
  have ex : X = encP mk x.pv := by rw [HX.out, List.flatMap_cons, List.flatMap_nil, List.append_nil, encV_eq, hxk]
  have ey : Y = encP mk y.pv := by rw [HY.out, List.flatMap_cons, List.flatMap_nil, List.append_nil, encV_eq, hyk]
  rw [hxk] at hs
  obtain ⟨B, hB⟩ : ∃ B, B = psame mk x.pv y.pv := ⟨_, rfl⟩
  rw [← hB] at hs
  have hT : B = true → X = Y := fun h => by rw [ex, ey]; exact encP_same mk x.pv y.pv (by rw [← hB]; exact h)
  have hFa : B = false → (X.take F == Y.take F) = false := fun h => by
    rw [ex, ey] at hF ⊢
    exact enc_apart mk x.pv y.pv (E3.out.fit x (by simp)).1 (E3.out.fit y (by simp)).1 (by rw [← hB]; exact h) F hF
  have hbw : Below w.heap.size w w4 := by
    have h1 : Below w.heap.size w1 w2 := ((Below.refl _ _).alloc HB1.out.size _).trans (E3.out.bel.mono (by rw [size_alloc1]; have := HB1.out.size; omega))
    have h2 := E3.out.bel.size
    rw [size_alloc1] at h2
    exact (HB1.out.trans h1).trans (hb24.mono (by have := HB1.out.size; omega))
  have hS3 := S3.out.kept (Kept.of_below (fun _ => False) B4.out) (fun _ _ _ h => h)
  have ldx := run_load34 hrx4
  have ldy := run_load34 hry4
  have ldxd := run_load34 (w := w4.drew) hrx4
  have ldyd := run_load34 (w := w4.drew) hry4
  have Hs := Lib.hid hs
  have HT := Lib.hid hT
  have HFa := Lib.hid hFa
  have HBw4 := Lib.hid hbw
  have HS3 := Lib.hid hS3
  clear hF hb24 hrx4 hry4 hox hoy hs ex ey hB hT hFa hbw hS3 hxk hyk
  cases B
  · have HFa2 := Lib.hid (HFa.out rfl)
    clear HFa HT
    go_upto_region 6 with (fail)
    go_still_tail 6, (by kernel_rfl)
    change wpList _ _ _ _ _ w4.drew
    go_upto_region 8 with (first
      | (go_at_call 23; refine Hs.out.mono ?_; rintro e w5 ⟨rfl, hb5⟩; have B5 := Lib.hid hb5; clear hb5))
    have B5b : Below w4.heap.size w4 w5 := (Below.refl _ _).drew.trans B5.out
    have r3 := run_str ((HS3.out.kept (Kept.of_below (fun _ => False) B5b) (fun _ _ _ h => h)).upto F hFx)
    have r4 := run_str ((S4.out.kept (Kept.of_below (fun _ => False) B5b) (fun _ _ _ h => h)).upto F hFy)
    have r3d := run_str (w := w5.drew) (((HS3.out.kept (Kept.of_below (fun _ => False) B5b) (fun _ _ _ h => h)).upto F hFx).kept (Kept.refl (fun _ => False) w5).drew (fun _ _ _ h => h))
    have r4d := run_str (w := w5.drew) (((S4.out.kept (Kept.of_below (fun _ => False) B5b) (fun _ _ _ h => h)).upto F hFy).kept (Kept.refl (fun _ => False) w5).drew (fun _ _ _ h => h))
    have HB5 := Lib.hid (HBw4.out.trans (B5b.mono HBw4.out.size))
    have l3 : X.length ≤ c3 := HS3.out.2.2.1
    have l3' : c3 ≤ 9223372036854775807 := HS3.out.2.2.2.1
    have l4 : Y.length ≤ c4 := S4.out.2.2.1
    have l4' : c4 ≤ 9223372036854775807 := S4.out.2.2.2.1
    obtain ⟨X2, hX2⟩ : ∃ X2, X2 = X.take F := ⟨_, rfl⟩
    obtain ⟨Y2, hY2⟩ : ∃ Y2, Y2 = Y.take F := ⟨_, rfl⟩
    have hfa := HFa2.out
    rw [← hX2] at r3 r3d hfa
    rw [← hY2] at r4 r4d hfa
    have hfa2 : (X2 != Y2) = true := by rw [bne, hfa]; rfl
    have r3e : (convert 23 9 (.slice a3 F c3)).run Try.prog { heap := w5.heap, tape := w5.tape, drawn := w5.drawn + 1, os := w5.os, output := w5.output } = .ok (.string ⟨X2.toArray⟩) { heap := w5.heap, tape := w5.tape, drawn := w5.drawn + 1, os := w5.os, output := w5.output } := r3d
    have r4e : (convert 23 9 (.slice a4 F c4)).run Try.prog { heap := w5.heap, tape := w5.tape, drawn := w5.drawn + 1, os := w5.os, output := w5.output } = .ok (.string ⟨Y2.toArray⟩) { heap := w5.heap, tape := w5.tape, drawn := w5.drawn + 1, os := w5.os, output := w5.output } := r4d
    clear ldx ldy ldxd ldyd B5b hX2 hY2
    have z1 : (0 : Int) ≤ (F : Int) := by omega
    have z2 : (F : Int) ≤ (c3 : Int) := by omega
    have z3 : (F : Int) ≤ (c4 : Int) := by omega
    have z4 : F ≤ c3 := by omega
    have z5 : F ≤ c4 := by omega
    go_still_tail 10, (by kernel_rfl)
    change wpList _ _ _ _ _ w5.drew
    go_wp2_with (first
      | (go_at_call 17; refine (lives_any _).mono ?_; rintro e w7 ⟨rfl, hb7⟩; have B7 := Lib.hid hb7; clear hb7))
    go_ret
    exact ⟨rfl, (HB5.out.trans ((Below.refl _ w5).drew.mono HB5.out.size)).trans (B7.out.mono HB5.out.size)⟩
  · obtain rfl : X = Y := HT.out rfl
    clear HFa HT
    go_upto_region 6 with (fail)
    go_region_with (first
      | (go_at_call 23; refine Hs.out.mono ?_; rintro e w5 ⟨rfl, hb5⟩; have B5 := Lib.hid hb5; clear hb5))
    all_goals
      have B5b : Below w4.heap.size w4 w5 := (Below.refl _ _).drew.trans B5.out
      have r3 := run_str (HS3.out.kept (Kept.of_below (fun _ => False) B5b) (fun _ _ _ h => h))
      have r4 := run_str (S4.out.kept (Kept.of_below (fun _ => False) B5b) (fun _ _ _ h => h))
      have HB5 := Lib.hid (HBw4.out.trans (B5b.mono HBw4.out.size))
      clear ldx ldy ldxd ldyd B5b
      go_wp2_with (first
        | (go_at_call 17; refine (lives_any _).mono ?_; rintro e w7 ⟨rfl, hb7⟩; have B7 := Lib.hid hb7; clear hb7))
      go_ret
      exact ⟨rfl, HB5.out.trans (B7.out.mono HB5.out.size)⟩
end Go.Proofs.Ytgmidhngchjoaaa

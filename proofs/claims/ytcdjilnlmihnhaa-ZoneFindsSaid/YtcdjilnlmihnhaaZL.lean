/-
  The reference's Instants (written by gen_ZL.py).
-/
import Derived.Test.YtcdjilnlmihnhaaZK
import Derived.Laws.AppendOwnNone
import Derived.StillTailTactics
namespace Go.Proofs.Ytcdjilnlmihnhaa
open Go.RowKit
set_option linter.unusedSimpArgs false
set_option linter.unusedVariables false
attribute [local go_sem ↓] exec_loadShift exec_storeShift exec_loadSeg exec_storeSeg exec_loadZone exec_storeZone
attribute [local go_sem] run_storeShift run_storeSeg run_storeZone
/-- which instants the segments have -/
theorem mem_insP {n c : Int} : ∀ (l : List SM) (f o : Int), Far f l → (c ∈ insP n (segL f o l) ↔ f ≤ c ∧ c < maxI ∧ offZ c o l = n - c)
  | [], f, o, _ => by
    rw [segL_nil, insP_cons]
    constructor
    · intro h
      split at h
      · rename_i hh
        have hc : c = n - o := by simpa [insP] using h
        subst hc
        exact ⟨hh.1, hh.2, by rw [offZ]; omega⟩
      · simp [insP] at h
    · rintro ⟨h1, h2, h3⟩
      rw [offZ] at h3
      have hc : c = n - o := by omega
      subst hc
      rw [if_pos ⟨h1, h2⟩]
      exact List.mem_cons_self
  | s :: l, f, o, hF => by
    have h1 := hF.1
    have ih := mem_insP (n := n) (c := c) l s.t s.o (hF.2.2.mono (by omega))
    have hm : s.t < maxI := by unfold maxI; omega
    rw [segL_cons, insP_cons, offZ]
    constructor
    · intro h
      have hc : (c = n - o ∧ f ≤ c ∧ c < s.t) ∨ c ∈ insP n (segL s.t s.o l) := by
        split at h
        · rename_i hh
          rcases List.mem_cons.1 h with h | h
          · exact .inl ⟨h, by rw [h]; exact hh⟩
          · exact .inr h
        · exact .inr h
      rcases hc with ⟨e, h2, h3⟩ | h
      · exact ⟨h2, by omega, by rw [if_pos h3]; omega⟩
      · have := ih.1 h
        exact ⟨by omega, this.2.1, by rw [if_neg (by omega)]; exact this.2.2⟩
    · rintro ⟨h2, h3, h4⟩
      by_cases hc : c < s.t
      · rw [if_pos hc] at h4
        have e : c = n - o := by omega
        subst e
        rw [if_pos ⟨h2, hc⟩]
        exact List.mem_cons_self
      · rw [if_neg hc] at h4
        have := ih.2 ⟨by omega, h3, h4⟩
        split
        · exact List.mem_cons_of_mem _ this
        · exact this
/-- the offsets of a zone -/
def offs (O : Int) (L : List SM) : List Int := O :: L.map (·.o)
theorem offZ_mem (c : Int) : ∀ (L : List SM) (O : Int), offZ c O L ∈ offs O L
  | [], O => List.mem_cons_self
  | s :: l, O => by
    rw [offZ]
    split
    · exact List.mem_cons_self
    · have := offZ_mem c l s.o
      exact List.mem_cons_of_mem _ this
/-- what the reference's loop does with an offset -/
def stepI (n O : Int) (L : List SM) (out : List Int) (x : Int) : List Int := if offZ (n - x) O L = x ∧ n - x ∉ out then out ++ [n - x] else out
def refI (n O : Int) (L : List SM) (xs : List Int) : List Int := xs.foldl (stepI n O L) []
theorem refI_snoc (n O : Int) (L : List SM) (xs : List Int) (x : Int) : refI n O L (xs ++ [x]) = stepI n O L (refI n O L xs) x := by unfold refI; rw [List.foldl_append]; rfl
theorem mem_fold {n O c : Int} {L : List SM} : ∀ (xs out : List Int), (c ∈ xs.foldl (stepI n O L) out ↔ c ∈ out ∨ ∃ x ∈ xs, c = n - x ∧ offZ c O L = x)
  | [], out => by simp
  | x :: xs, out => by
    rw [List.foldl_cons, mem_fold xs]
    unfold stepI
    constructor
    · rintro (h | ⟨y, hy, h⟩)
      · split at h
        · rename_i hh
          rcases List.mem_append.1 h with h | h
          · exact .inl h
          · have e : c = n - x := by simpa using h
            exact .inr ⟨x, List.mem_cons_self, e, by rw [e]; exact hh.1⟩
        · exact .inl h
      · exact .inr ⟨y, List.mem_cons_of_mem _ hy, h⟩
    · rintro (h | ⟨y, hy, h⟩)
      · left
        split
        · exact List.mem_append_left _ h
        · exact h
      · rcases List.mem_cons.1 hy with e | hy
        · left
          rw [← e, ← h.1]
          by_cases hc : c ∈ out
          · split
            · exact List.mem_append_left _ hc
            · exact hc
          · rw [if_pos ⟨h.2, hc⟩]
            simp
        · exact .inr ⟨y, hy, h⟩
theorem nodup_fold {n O : Int} {L : List SM} : ∀ (xs out : List Int), out.Nodup → (xs.foldl (stepI n O L) out).Nodup
  | [], out, h => h
  | x :: xs, out, h => by
    rw [List.foldl_cons]
    refine nodup_fold xs _ ?_
    unfold stepI
    split
    · rename_i hh
      rw [List.nodup_append]
      refine ⟨h, by simp, fun a ha b hb => ?_⟩
      have e : b = n - x := by simpa using hb
      rintro rfl
      exact hh.2 (e ▸ ha)
    · exact h
/-- two instants in order -/
def fixI : List Int → List Int
  | [a, b] => if b < a then [b, a] else [a, b]
  | l => l
theorem two_same {P R : List Int} (hP : P.Pairwise (· < ·)) (h2 : P.length ≤ 2) (hR : R.Nodup) (hm : ∀ c, c ∈ R ↔ c ∈ P) : fixI R = P := by
  match P, hP, h2, hm with
  | [], _, _, hm =>
    match R, hm with
    | [], _ => rfl
    | x :: r, hm => exact absurd ((hm x).1 List.mem_cons_self) (by simp)
  | [a], _, _, hm =>
    match R, hR, hm with
    | [], _, hm => exact absurd ((hm a).2 List.mem_cons_self) (by simp)
    | [x], _, hm =>
      have := (hm x).1 List.mem_cons_self
      rw [List.mem_singleton.1 this]
      rfl
    | x :: y :: r, hR, hm =>
      have h1 := List.mem_singleton.1 ((hm x).1 List.mem_cons_self)
      have h2 := List.mem_singleton.1 ((hm y).1 (by simp))
      rw [List.nodup_cons] at hR
      exact absurd (by rw [h1, h2]; exact List.mem_cons_self) hR.1
  | [a, b], hP, _, hm =>
    have hab : a < b := (List.pairwise_cons.1 hP).1 b List.mem_cons_self
    have ha := (hm a).2 List.mem_cons_self
    have hb := (hm b).2 (by simp)
    have hin : ∀ c ∈ R, c = a ∨ c = b := fun c hc => by simpa using (hm c).1 hc
    match R, hR, ha, hb, hin with
    | [x], _, ha, hb, _ => have h1 := List.mem_singleton.1 ha; have h2 := List.mem_singleton.1 hb; omega
    | [x, y], hR, ha, hb, hin =>
      have hx := hin x List.mem_cons_self
      have hy := hin y (by simp)
      have hxy : x ≠ y := by rintro rfl; simp at hR
      unfold fixI
      rcases hx with rfl | rfl <;> rcases hy with rfl | rfl
      · exact absurd rfl hxy
      · simp only [if_neg (show ¬ y < x by omega)]
      · simp only [if_pos hab]
      · exact absurd rfl hxy
    | x :: y :: z :: r, hR, _, _, hin =>
      exfalso
      have hx := hin x List.mem_cons_self
      have hy := hin y (by simp)
      have hz := hin z (by simp)
      simp only [List.nodup_cons, List.mem_cons, not_or] at hR
      have h1 := hR.1.1
      have h2 := hR.1.2.1
      have h3 := hR.2.1.1
      omega
  | _ :: _ :: _ :: _, _, h2, _ => simp at h2
theorem refI_eq {n O : Int} {L : List SM} (hF : Far 0 L) (h1 : -900 ≤ O) (h2 : O ≤ 900) (hn : -1099511627776 ≤ n ∧ n ≤ 1099511627776) : fixI (refI n O L (offs O L)) = insP n (segL minI O L) := by
  refine two_same (insP_sorted L minI O (far_min hF)) (insP_two L minI O (far_min hF) h1 h2) (nodup_fold _ _ List.nodup_nil) (fun c => ?_)
  rw [mem_insP L minI O (far_min hF)]
  unfold refI
  rw [mem_fold]
  have hb := offZ_bd (t := c) L 0 O hF h1 h2
  constructor
  · rintro (h | ⟨x, hx, hc, h⟩)
    · cases h
    · exact ⟨by unfold minI; omega, by unfold maxI; omega, by omega⟩
  · rintro ⟨-, -, h⟩
    exact .inr ⟨offZ c O L, offZ_mem c L O, by omega, rfl⟩
theorem fixI_two (a b : Int) : fixI [a, b] = if b < a then [b, a] else [a, b] := rfl
theorem fixI_other {l : List Int} (h : l.length ≠ 2) : fixI l = l := by
  match l, h with
  | [], _ => rfl
  | [_], _ => rfl
  | [_, _], h => simp at h
  | _ :: _ :: _ :: _, _ => rfl
theorem refI_len (n O : Int) (L : List SM) : ∀ (xs out : List Int), (xs.foldl (stepI n O L) out).length ≤ out.length + xs.length
  | [], out => Nat.le_refl _
  | x :: xs, out => by
    rw [List.foldl_cons]
    have := refI_len n O L xs (stepI n O L out x)
    have h2 : (stepI n O L out x).length ≤ out.length + 1 := by
      unfold stepI
      split
      · rw [List.length_append, List.length_singleton]; exact Nat.le_refl _
      · omega
    rw [List.length_cons]
    omega
set_option maxRecDepth 100000 in
set_option maxHeartbeats 4000000 in
theorem refInstants_any {w : World} {D : Nat → Prop} {O day minute N : Int} {az : Option Addr} {nz cz : Nat} {L : List SM} (h : Ss D w az nz cz L) (hnz : nz ≤ 1000) (ho : -900 ≤ O ∧ O ≤ 900) (hF : Far 0 L) (hd : -1000000 ≤ day ∧ day ≤ 1000000) (hm0 : 0 ≤ minute) (hm1 : minute < 1440) (hN : N = 1440 * day + minute) :
    Calls Try.prog 23 #[zV O az nz cz, .int .i64 day, .int .i64 minute] w fun e w' => ∃ a n c, e = .returned (.slice a n c) ∧ Is (fun _ => True) w' a n c (insP N (segL minI O L)) ∧ Below w.heap.size w w' := by
  obtain ⟨i0, hi0, hz0, hz1, hz2⟩ := info_parts info3
  obtain ⟨W1, hW1⟩ : ∃ W1, W1 = w.alloc (.cells #[.int .i64 O, .slice az nz cz] 24) := ⟨_, rfl⟩
  obtain ⟨gz, hgz⟩ : ∃ gz, gz = w.heap.size := ⟨_, rfl⟩
  have hr1 : W1.heap[gz]? = some (.cells #[.int .i64 O, .slice az nz cz] 24 (0, 0)) := by rw [hW1, hgz]; exact heap_newZ
  have hb1 : Below w.heap.size w W1 := by rw [hW1]; exact (Below.refl _ w).alloc (Nat.le_refl _) _
  have HS := Lib.hid (h.below hb1)
  have HW := Lib.hid hb1
  have HGZ1 := Lib.hid hr1
  have HGZL := Lib.hid (heap_lt hr1)
  have HLEN := Lib.hid h.1
  have HN1 := Lib.hid hnz
  have HF := Lib.hid hF
  have HO := Lib.hid ho
  have hmz1 : nz ≤ cz := h.2.2.1
  have hmz2 : cz ≤ 9223372036854775807 := h.2.2.2.1
  have HEQ := Lib.hid (refI_eq (n := N) hF ho.1 ho.2 (by omega))
  have HNB : Hid (-1500000000 ≤ N ∧ N ≤ 1500000000) := Lib.hid (by omega)
  have j1 : IntKind.i64.wrap (1440 * day) = 1440 * day := i64_id _ (by omega) (by omega)
  have j2 : IntKind.i64.wrap (1440 * day + minute) = N := by rw [i64_id _ (by omega) (by omega), hN]
  have HIN : Hid (∀ u, Calls Try.prog 31 #[.int .i64 minute, .int .i64 0, .int .i64 1439] u fun e w' => e = .returned (.bool true) ∧ u = w') := Lib.hid (fun u => by have := inZ_any minute 0 1439 u; rw [decide_eq_true (show 0 ≤ minute ∧ minute ≤ 1439 by omega)] at this; exact this)
  clear h hnz ho hF hd hm0 hm1 hN hr1 hb1
  unfold zV
  go_enter Try.func23, Try.ntmps23
  go_upto_region 1 with fail
  rw [← hW1]
  rw [← hgz]
  clear hW1 hgz
  go_wp2_with (go_at_call 31; refine (HIN.out _).mono ?_; rintro e w2 ⟨rfl, rfl⟩)
  clear j1 j2 HIN
  go_loopw [8, 9] (fun u v wr => ∃ (j : Nat) (out : List Int) (ov : Value) (k : Option Nat) (m : Int), j ≤ nz + 1 ∧ u = ov ∧ v = .int .i64 m ∧ m = (j : Int) - 1 ∧ out = refI N O L ((offs O L).take j) ∧ Own wr 3 1 k ov out.length (ivals out) ∧ (∀ b, k = some b → W1.heap.size ≤ b) ∧ Below W1.heap.size W1 wr ∧ wr.heap[gz]? = some (.cells #[.int .i64 O, .slice az nz cz] 24 (0, 0))) (fun _ v _ => (nz + 1 - intOf v).toNat)
  case atStart => exact ⟨0, [], .slice none 0 0, none, -1, Nat.zero_le _, rfl, rfl, rfl, rfl, Own.nil _ _ _, (fun _ h => by cases h), Below.refl _ _, HGZ1.out⟩
  case round =>
    obtain ⟨j, out, ov, k, m, hj, rfl, rfl, hm, hout, hown, hkb, hb, hgz⟩ := hrel
    obtain ⟨av, cv, rfl, hsl⟩ := hown.sl
    have HOUT := Lib.hid hout
    have HOW := Lib.hid hown
    have HKB := Lib.hid hkb
    have HB := Lib.hid hb
    have HRZ := Lib.hid hgz
    have HOL : Hid (out.length ≤ 1001) := Lib.hid (by
      have := refI_len N O L ((offs O L).take j) []
      rw [hout]
      unfold refI
      rw [List.length_take] at this
      have h3 := HN1.out
      simp only [List.length_nil] at this
      omega)
    have c0 : wr.cell? ⟨gz, 0, none⟩ = some (.int .i64 O) := cell_of_row wr gz 0 _ _ _ hgz
    have c1 : wr.cell? ⟨gz, 1, none⟩ = some (.slice az nz cz) := cell_of_row wr gz 1 _ _ _ hgz
    clear hout hown hkb hb hgz hsl
    have j3 : IntKind.i64.wrap (m + 1) = m + 1 := i64_id _ (by omega) (by have := HN1.out; omega)
    by_cases hlt : j < nz + 1
    · have hlt2 : m < (nz : Int) := by omega
      have hjl : j < (offs O L).length := by unfold offs; rw [List.length_cons, List.length_map, HLEN.out]; exact hlt
      cases j with
      | zero =>
        obtain rfl : m = -1 := by simpa using hm
        obtain ⟨x, hx⟩ : ∃ x, x = O := ⟨_, rfl⟩
        obtain ⟨Y, hY⟩ : ∃ Y, Y = (offs O L).take 0 := ⟨_, rfl⟩
        rw [← hY] at HOUT
        have htk : (offs O L).take 1 = Y ++ [x] := by rw [hY, hx]; rfl
        have hxb : -900 ≤ x ∧ x ≤ 900 := by rw [hx]; exact HO.out
        obtain ⟨T, hT⟩ : ∃ T, T = N - x := ⟨_, rfl⟩
        rw [← hx] at c0
        clear hjl hY hm hlt hx
        have HXB := Lib.hid hxb
        have i3 : IntKind.i64.wrap (N - x) = T := by rw [i64_id _ (by have := HNB.out; omega) (by have := HNB.out; omega), hT]
        have hroff := fun (u : World) (hu : Below wr.heap.size wr u) => refOffset_any (o := O) (t := T) (HS.out.below (HB.out.trans (hu.mono HB.out.size))) (by have := HN1.out; omega)
        rw [offR_eq L 0 O HF.out] at hroff
        have HRO : Hid (∀ u, Below wr.heap.size wr u → Calls Try.prog 19 #[.agg #[.int .i64 O, .slice az nz cz], .int .i64 T] u fun e w' => e = .returned (.int .i64 (offZ T O L)) ∧ Below u.heap.size u w') := Lib.hid hroff
        have ldz := run_loadZone HRZ.out
        have HSTEP : Hid (refI N O L (Y ++ [x]) = if offZ T O L = x ∧ T ∉ out then out ++ [T] else out) := Lib.hid (by rw [refI_snoc, ← HOUT.out, stepI, hT])
        have HTKK := Lib.hid htk
        obtain ⟨y, hy⟩ : ∃ y, y = offZ T O L := ⟨_, rfl⟩
        rw [← hy] at HRO HSTEP
        clear hxb hT hroff htk hy
        by_cases hyx : y = x
        · subst hyx
          have hb1 : (y == y) = true := beq_self_eq_true y
          by_cases hmem : T ∈ out
          · have HE : Hid (refI N O L (Y ++ [y]) = out) := Lib.hid (by rw [HSTEP.out, if_neg (fun h => h.2 hmem)])
            have HD : Hid (decide (T ∈ out) = true) := Lib.hid (decide_eq_true hmem)
            clear hmem
            go_wp2_with (first
              | (go_at_call 19; refine (HRO.out _ (Below.refl _ _)).mono ?_; rintro e wq ⟨rfl, hb⟩; have HBQ := Lib.hid (HB.out.trans (hb.mono HB.out.size)); have HOQ := Lib.hid (HOW.out.kept (Kept.of_below (fun _ => False) hb) (fun _ _ h => h)); have HGZQ := Lib.hid ((hb.block gz (heap_lt HRZ.out)).trans HRZ.out); clear hb ldz HRO)
              | (go_at_call 34; obtain ⟨av9, cv9, hv9, hs9⟩ := HOQ.out.sl; cases hv9; refine (hasZ_any _ _ _ _ out T _ ⟨rfl, hs9⟩).mono ?_; rintro e wq2 ⟨rfl, rfl⟩; rw [HD.out]))
            go_roundw
            case rel => exact ⟨1, out, .slice av out.length cv, k, _, by omega, rfl, rfl, by omega, by rw [HTKK.out]; exact HE.out.symm, HOQ.out, HKB.out, HBQ.out, HGZQ.out⟩
            case measure => simp [intOf]; omega
          · have HE : Hid (refI N O L (Y ++ [y]) = out ++ [T]) := Lib.hid (by rw [HSTEP.out, if_pos ⟨rfl, hmem⟩])
            have HD : Hid (decide (T ∈ out) = false) := Lib.hid (decide_eq_false hmem)
            have HK1 : Hid (out.length + 1 ≤ maxLen) := Lib.hid (by unfold maxLen; have := HOL.out; omega)
            have HK2 : Hid ((out.length + 1) * 8 ≤ 140737488355328) := Lib.hid (by have := HOL.out; omega)
            clear hmem
            go_upto_region 12 with (first
              | (go_at_call 19; refine (HRO.out _ (Below.refl _ _)).mono ?_; rintro e wq ⟨rfl, hb⟩; have HBQ := Lib.hid (HB.out.trans (hb.mono HB.out.size)); have HOQ := Lib.hid (HOW.out.kept (Kept.of_below (fun _ => False) hb) (fun _ _ h => h)); have HGZQ := Lib.hid ((hb.block gz (heap_lt HRZ.out)).trans HRZ.out); clear hb ldz HRO)
              | (go_at_call 34; obtain ⟨av9, cv9, hv9, hs9⟩ := HOQ.out.sl; cases hv9; refine (hasZ_any _ _ _ _ out T _ ⟨rfl, hs9⟩).mono ?_; rintro e wq2 ⟨rfl, rfl⟩; rw [HD.out]))
            go_wp2_with (at_builtin; refine wpList_append_any _ rfl (.tmp 50) (.tmp 54) 25 25 rfl 3 i0 (.int .i64 0) 1 8 Try.underlying25 hi0 hz0 hz1 hz2 rfl k _ out.length (ivals out) rfl (HOQ.out.kept ((Kept.refl (fun _ => False) wq).alloc _) (fun _ _ h => h)) 1 [.int .i64 T] (Src.ofSlice _ Try.underlying25 ⟨wq.heap.size, 0, none⟩ 1 1 _ rfl (one_newZ _ _ _) (fun u hu => by simp at hu; subst hu; rfl)) HK1.out HK2.out ?_; intro k' v' w' ho2 hf2 hK2 hn2; obtain ⟨a', c', rfl, _⟩ := ho2.sl; have HO3 := Lib.hid ho2; have HF3 := Lib.hid hf2; have HK3 := Lib.hid hK2; clear ho2 hf2 hK2 hn2)
            go_roundw
            case rel =>
              have hkw : Kept (fun b => k = some b) wq w' := ((Kept.refl (fun b => k = some b) wq).alloc (.cells #[.int .i64 T] 3)).trans HK3.out (fun _ _ h => h)
              refine ⟨1, out ++ [T], .slice a' (out.length + 1) c', k', _, by omega, rfl, rfl, by omega, by rw [HTKK.out]; exact HE.out.symm, by rw [List.length_append, ivals_app]; exact HO3.out, ?_, HBQ.out.trans (hkw.below HBQ.out.size (fun b hb e => by have := HKB.out b e; omega)), hkw.heap HGZQ.out (fun e => by have := HKB.out gz e; have := HGZL.out; omega)⟩
              intro b hb
              rcases HF3.out b hb with e | e
              · exact HKB.out b e
              · have := HBQ.out.size
                rw [World.size_alloc] at e
                omega
            case measure => simp [intOf]; omega
        · have hb1 : (y == x) = false := beq_eq_false_iff_ne.2 hyx
          have HE : Hid (refI N O L (Y ++ [x]) = out) := Lib.hid (by rw [HSTEP.out, if_neg (fun h => hyx h.1)])
          clear hyx
          go_wp2_with (go_at_call 19; refine (HRO.out _ (Below.refl _ _)).mono ?_; rintro e wq ⟨rfl, hb⟩; have HBQ := Lib.hid (HB.out.trans (hb.mono HB.out.size)); have HOQ := Lib.hid (HOW.out.kept (Kept.of_below (fun _ => False) hb) (fun _ _ h => h)); have HGZQ := Lib.hid ((hb.block gz (heap_lt HRZ.out)).trans HRZ.out); clear hb ldz HRO)
          go_roundw
          case rel => exact ⟨1, out, .slice av out.length cv, k, _, by omega, rfl, rfl, by omega, by rw [HTKK.out]; exact HE.out.symm, HOQ.out, HKB.out, HBQ.out, HGZQ.out⟩
          case measure => simp [intOf]; omega
      | succ j' =>
        obtain rfl : m = (j' : Int) := by omega
        have hjl' : j' < L.length := by rw [HLEN.out]; omega
        obtain ⟨b, off, -, hbl, rfl, hc⟩ := HS.out.cells (by omega)
        have hco := (HB.out.cell (p := ⟨b, off + j' * 2 + 1, none⟩) hbl).trans (hc j' hjl').2
        have hfd := far_drop L 0 j' hjl' HF.out
        obtain ⟨ob, hob⟩ : ∃ ob, ob = off + j' * 2 := ⟨_, rfl⟩
        rw [← hob] at hco
        have hob2 : off + j' * 2 = ob := hob.symm
        obtain ⟨x, hx⟩ : ∃ x, x = L[j'].o := ⟨_, rfl⟩
        obtain ⟨Y, hY⟩ : ∃ Y, Y = (offs O L).take (j' + 1) := ⟨_, rfl⟩
        rw [← hY] at HOUT
        rw [← hx] at hco hfd
        have htk : (offs O L).take (j' + 1 + 1) = Y ++ [x] := by
          rw [hY, hx, List.take_succ_eq_append_getElem hjl]
          congr 1
          simp [offs]
        have hxb : -900 ≤ x ∧ x ≤ 900 := hfd.2.1
        obtain ⟨T, hT⟩ : ∃ T, T = N - x := ⟨_, rfl⟩
        have hge0 : 0 ≤ (j' : Int) := by omega
        clear hjl hjl' hY hm hlt hc hob hfd hbl hx
        have HXB := Lib.hid hxb
        have i3 : IntKind.i64.wrap (N - x) = T := by rw [i64_id _ (by have := HNB.out; omega) (by have := HNB.out; omega), hT]
        have hroff := fun (u : World) (hu : Below wr.heap.size wr u) => refOffset_any (o := O) (t := T) (HS.out.below (HB.out.trans (hu.mono HB.out.size))) (by have := HN1.out; omega)
        rw [offR_eq L 0 O HF.out] at hroff
        have HRO : Hid (∀ u, Below wr.heap.size wr u → Calls Try.prog 19 #[.agg #[.int .i64 O, .slice (some ⟨b, off, none⟩) nz cz], .int .i64 T] u fun e w' => e = .returned (.int .i64 (offZ T O L)) ∧ Below u.heap.size u w') := Lib.hid hroff
        have ldz := run_loadZone HRZ.out
        have HSTEP : Hid (refI N O L (Y ++ [x]) = if offZ T O L = x ∧ T ∉ out then out ++ [T] else out) := Lib.hid (by rw [refI_snoc, ← HOUT.out, stepI, hT])
        have HTKK := Lib.hid htk
        obtain ⟨y, hy⟩ : ∃ y, y = offZ T O L := ⟨_, rfl⟩
        rw [← hy] at HRO HSTEP
        clear hxb hT hroff htk hy
        by_cases hyx : y = x
        · subst hyx
          have hb1 : (y == y) = true := beq_self_eq_true y
          by_cases hmem : T ∈ out
          · have HE : Hid (refI N O L (Y ++ [y]) = out) := Lib.hid (by rw [HSTEP.out, if_neg (fun h => h.2 hmem)])
            have HD : Hid (decide (T ∈ out) = true) := Lib.hid (decide_eq_true hmem)
            clear hmem
            go_wp2_with (first
              | (go_at_call 19; refine (HRO.out _ (Below.refl _ _)).mono ?_; rintro e wq ⟨rfl, hb⟩; have HBQ := Lib.hid (HB.out.trans (hb.mono HB.out.size)); have HOQ := Lib.hid (HOW.out.kept (Kept.of_below (fun _ => False) hb) (fun _ _ h => h)); have HGZQ := Lib.hid ((hb.block gz (heap_lt HRZ.out)).trans HRZ.out); clear hb ldz HRO)
              | (go_at_call 34; obtain ⟨av9, cv9, hv9, hs9⟩ := HOQ.out.sl; cases hv9; refine (hasZ_any _ _ _ _ out T _ ⟨rfl, hs9⟩).mono ?_; rintro e wq2 ⟨rfl, rfl⟩; rw [HD.out]))
            go_roundw
            case rel => exact ⟨j' + 1 + 1, out, .slice av out.length cv, k, _, by omega, rfl, rfl, by push_cast; omega, by rw [HTKK.out]; exact HE.out.symm, HOQ.out, HKB.out, HBQ.out, HGZQ.out⟩
            case measure => simp [intOf]; omega
          · have HE : Hid (refI N O L (Y ++ [y]) = out ++ [T]) := Lib.hid (by rw [HSTEP.out, if_pos ⟨rfl, hmem⟩])
            have HD : Hid (decide (T ∈ out) = false) := Lib.hid (decide_eq_false hmem)
            have HK1 : Hid (out.length + 1 ≤ maxLen) := Lib.hid (by unfold maxLen; have := HOL.out; omega)
            have HK2 : Hid ((out.length + 1) * 8 ≤ 140737488355328) := Lib.hid (by have := HOL.out; omega)
            clear hmem
            go_upto_region 12 with (first
              | (go_at_call 19; refine (HRO.out _ (Below.refl _ _)).mono ?_; rintro e wq ⟨rfl, hb⟩; have HBQ := Lib.hid (HB.out.trans (hb.mono HB.out.size)); have HOQ := Lib.hid (HOW.out.kept (Kept.of_below (fun _ => False) hb) (fun _ _ h => h)); have HGZQ := Lib.hid ((hb.block gz (heap_lt HRZ.out)).trans HRZ.out); clear hb ldz HRO)
              | (go_at_call 34; obtain ⟨av9, cv9, hv9, hs9⟩ := HOQ.out.sl; cases hv9; refine (hasZ_any _ _ _ _ out T _ ⟨rfl, hs9⟩).mono ?_; rintro e wq2 ⟨rfl, rfl⟩; rw [HD.out]))
            go_wp2_with (at_builtin; refine wpList_append_any _ rfl (.tmp 50) (.tmp 54) 25 25 rfl 3 i0 (.int .i64 0) 1 8 Try.underlying25 hi0 hz0 hz1 hz2 rfl k _ out.length (ivals out) rfl (HOQ.out.kept ((Kept.refl (fun _ => False) wq).alloc _) (fun _ _ h => h)) 1 [.int .i64 T] (Src.ofSlice _ Try.underlying25 ⟨wq.heap.size, 0, none⟩ 1 1 _ rfl (one_newZ _ _ _) (fun u hu => by simp at hu; subst hu; rfl)) HK1.out HK2.out ?_; intro k' v' w' ho2 hf2 hK2 hn2; obtain ⟨a', c', rfl, _⟩ := ho2.sl; have HO3 := Lib.hid ho2; have HF3 := Lib.hid hf2; have HK3 := Lib.hid hK2; clear ho2 hf2 hK2 hn2)
            go_roundw
            case rel =>
              have hkw : Kept (fun b => k = some b) wq w' := ((Kept.refl (fun b => k = some b) wq).alloc (.cells #[.int .i64 T] 3)).trans HK3.out (fun _ _ h => h)
              refine ⟨j' + 1 + 1, out ++ [T], .slice a' (out.length + 1) c', k', _, by omega, rfl, rfl, by push_cast; omega, by rw [HTKK.out]; exact HE.out.symm, by rw [List.length_append, ivals_app]; exact HO3.out, ?_, HBQ.out.trans (hkw.below HBQ.out.size (fun b hb e => by have := HKB.out b e; omega)), hkw.heap HGZQ.out (fun e => by have := HKB.out gz e; have := HGZL.out; omega)⟩
              intro b hb
              rcases HF3.out b hb with e | e
              · exact HKB.out b e
              · have := HBQ.out.size
                rw [World.size_alloc] at e
                omega
            case measure => simp [intOf]; omega
        · have hb1 : (y == x) = false := beq_eq_false_iff_ne.2 hyx
          have HE : Hid (refI N O L (Y ++ [x]) = out) := Lib.hid (by rw [HSTEP.out, if_neg (fun h => hyx h.1)])
          clear hyx
          go_wp2_with (go_at_call 19; refine (HRO.out _ (Below.refl _ _)).mono ?_; rintro e wq ⟨rfl, hb⟩; have HBQ := Lib.hid (HB.out.trans (hb.mono HB.out.size)); have HOQ := Lib.hid (HOW.out.kept (Kept.of_below (fun _ => False) hb) (fun _ _ h => h)); have HGZQ := Lib.hid ((hb.block gz (heap_lt HRZ.out)).trans HRZ.out); clear hb ldz HRO)
          go_roundw
          case rel => exact ⟨j' + 1 + 1, out, .slice av out.length cv, k, _, by omega, rfl, rfl, by push_cast; omega, by rw [HTKK.out]; exact HE.out.symm, HOQ.out, HKB.out, HBQ.out, HGZQ.out⟩
          case measure => simp [intOf]; omega
    · obtain rfl : j = nz + 1 := by omega
      obtain rfl : m = (nz : Int) := by omega
      have HFX : Hid (fixI out = insP N (segL minI O L)) := Lib.hid (by
        rw [← HEQ.out, HOUT.out, List.take_of_length_le (by unfold offs; rw [List.length_cons, List.length_map, HLEN.out]; exact Nat.le_refl _)])
      obtain ⟨av9, cv9, hv9, hs9⟩ := HOW.out.sl
      cases hv9
      have HIS : Hid (Is (fun _ => True) wr av out.length cv out) := Lib.hid ⟨rfl, hs9.dom (fun _ _ => trivial)⟩
      clear hs9 hlt hm hj
      have cgz := c1
      by_cases h2 : out.length = 2
      · obtain ⟨p, q, hpq⟩ : ∃ p q, out = [p, q] := by
          match out, h2 with
          | [p, q], _ => exact ⟨p, q, rfl⟩
        subst hpq
        obtain ⟨bb, of, -, hbb, rfl, hcc⟩ := HIS.out.cellsZ (by show 0 < 2; omega)
        have e0 : wr.cell? ⟨bb, of, none⟩ = some (.int .i64 p) := hcc 0 (by show 0 < 2; omega)
        have e1 : wr.cell? ⟨bb, of + 1, none⟩ = some (.int .i64 q) := hcc 1 (by show 1 < 2; omega)
        have hll : ([p, q] : List Int).length = 2 := rfl
        rw [hll]
        clear hcc h2 hll
        by_cases hlt : q < p
        · have HP : Hid (insP N (segL minI O L) = [q, p]) := Lib.hid (by rw [← HFX.out]; rw [fixI_two, if_pos hlt])
          go_wp2
          go_quiet (fail)
          go_upto_region 14 with fail
          obtain ⟨wz, hwz⟩ : ∃ wz, wz = wr.drewN nq := ⟨_, rfl⟩
          have hbz : Below wr.heap.size wr wz := by rw [hwz]; exact below_drewZ (Below.refl _ wr) _
          rw [← hwz]
          have g0 : wz.cell? ⟨bb, of, none⟩ = some (.int .i64 p) := (hbz.cell (p := ⟨bb, of, none⟩) hbb).trans e0
          have g1 : wz.cell? ⟨bb, of + 1, none⟩ = some (.int .i64 q) := (hbz.cell (p := ⟨bb, of + 1, none⟩) hbb).trans e1
          have HBZ := Lib.hid hbz
          clear hwz hbz e0 e1
          go_still_tail 6, (by kernel_rfl)
          repeat still_step
          change wpList _ _ _ _ _ wz.drew
          go_wp2
          go_ret
          have hall : Below wr.heap.size wr (wz.drew.alloc (.cells #[.int .i64 q, .int .i64 p] 3)) := HBZ.out.trans (((Below.refl _ wz).drew.alloc (Nat.le_refl _) _).mono HBZ.out.size)
          exact ⟨_, _, _, rfl, by rw [HP.out]; exact Is.two wz.drew q p, HW.out.trans ((HB.out.trans (hall.mono HB.out.size)).mono HW.out.size)⟩
        · have HP : Hid (insP N (segL minI O L) = [p, q]) := Lib.hid (by rw [← HFX.out]; rw [fixI_two, if_neg hlt])
          go_wp2
          go_quiet (fail)
          go_wp2
          go_ret
          exact ⟨_, _, _, rfl, by rw [HP.out]; exact HIS.out.kept (Kept.of_below (fun _ => False) (below_drewZ (Below.refl _ wr) _)) (fun _ _ _ h => h), HW.out.trans ((below_drewZ HB.out _).mono HW.out.size)⟩
      · have HP : Hid (insP N (segL minI O L) = out) := Lib.hid (by rw [← HFX.out, fixI_other h2])
        have hb2 : ((out.length : Int) == 2) = false := by rw [beq_eq_false_iff_ne]; omega
        clear h2
        go_wp2
        go_quiet (fail)
        go_wp2
        go_ret
        exact ⟨_, _, _, rfl, by rw [HP.out]; exact HIS.out.kept (Kept.of_below (fun _ => False) (below_drewZ (Below.refl _ wr) _)) (fun _ _ _ h => h), HW.out.trans ((below_drewZ HB.out _).mono HW.out.size)⟩
end Go.Proofs.Ytcdjilnlmihnhaa

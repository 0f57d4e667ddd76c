/-
  The law DiskOrder.
-/
import Derived.Test.YtbnodhcgdgcebaaU5
namespace Go.Proofs.Ytbnodhcgdgcebaa
open Go.RowKit
set_option linter.unusedSimpArgs false
set_option linter.unusedVariables false
/-- the elements whose sectors were not named before -/
def dstep (a : List TM) (t : TM) : List TM := if t.sector ∈ a.map (·.sector) then a else a ++ [t]
def ded (ts : List TM) : List TM := ts.foldl dstep []
theorem ded_snoc (ts : List TM) (t : TM) : ded (ts ++ [t]) = dstep (ded ts) t := by simp [ded, List.foldl_append]
theorem dfold_len (ts : List TM) : ∀ a : List TM, (ts.foldl dstep a).length ≤ a.length + ts.length := by
  induction ts with
  | nil => intro a; exact Nat.le_refl _
  | cons t r ih =>
    intro a
    refine Nat.le_trans (ih (dstep a t)) ?_
    unfold dstep
    split
    · simp only [List.length_cons]; omega
    · simp only [List.length_cons, List.length_append, List.length_nil]; omega
theorem ded_len (ts : List TM) : (ded ts).length ≤ ts.length := by have := dfold_len ts []; simpa [ded] using this
theorem firstOf_cons (t : TM) (r : List TM) (k : Nat) : firstOf (t :: r) k = if t.sector = (k : Int) then some t else firstOf r k := by
  unfold firstOf
  rw [List.find?_cons]
  by_cases h : t.sector = (k : Int)
  · simp [h]
  · have h2 : (t.sector == (k : Int)) = false := by rw [beq_eq_false_iff_ne]; exact h
    rw [h2, if_neg h]
theorem firstOf_none {a : List TM} {k : Nat} (h : (k : Int) ∉ a.map (·.sector)) : firstOf a k = none := by
  unfold firstOf
  rw [List.find?_eq_none]
  intro t ht e
  exact h (List.mem_map.2 ⟨t, ht, by simpa using e⟩)
theorem firstOf_some {a : List TM} {k : Nat} (h : (k : Int) ∈ a.map (·.sector)) : ∃ t, firstOf a k = some t := by
  cases e : firstOf a k with
  | some t => exact ⟨t, rfl⟩
  | none =>
    unfold firstOf at e
    rw [List.find?_eq_none] at e
    obtain ⟨t, ht, hs⟩ := List.mem_map.1 h
    exact absurd (by simpa using hs) (e t ht)
theorem dfold_first (ts : List TM) (k : Nat) : ∀ a : List TM, firstOf (ts.foldl dstep a) k = (firstOf a k).or (firstOf ts k) := by
  induction ts with
  | nil => intro a; simp [firstOf]
  | cons t r ih =>
    intro a
    rw [List.foldl_cons, ih, firstOf_cons]
    unfold dstep
    by_cases hm : t.sector ∈ a.map (·.sector)
    · rw [if_pos hm]
      by_cases hk : t.sector = (k : Int)
      · obtain ⟨u, hu⟩ := firstOf_some (a := a) (k := k) (by rw [← hk]; exact hm)
        rw [hu]; rfl
      · rw [if_neg hk]
    · rw [if_neg hm, firstOf_snoc, Option.or_assoc]
      by_cases hk : t.sector = (k : Int)
      · rw [if_pos hk, if_pos hk]; rfl
      · rw [if_neg hk, if_neg hk]; rfl
theorem ded_first (ts : List TM) (k : Nat) : firstOf (ded ts) k = firstOf ts k := by
  have := dfold_first ts k []
  simpa [ded, firstOf] using this
theorem dfold_nodup (ts : List TM) : ∀ a : List TM, (a.map (·.sector)).Nodup → ((ts.foldl dstep a).map (·.sector)).Nodup := by
  induction ts with
  | nil => intro a h; exact h
  | cons t r ih =>
    intro a h
    refine ih _ ?_
    unfold dstep
    split
    · exact h
    · rename_i hm
      rw [List.map_append]
      exact List.nodup_append.2 ⟨h, by simp, fun x hx y hy => by
        simp only [List.map_cons, List.map_nil, List.mem_singleton] at hy
        subst hy
        exact fun e => hm (e ▸ hx)⟩
theorem first_reverse (l : List TM) (k : Nat) (h : (l.map (·.sector)).Nodup) : firstOf l.reverse k = firstOf l k := by
  induction l with
  | nil => rfl
  | cons t r ih =>
    rw [List.map_cons, List.nodup_cons] at h
    rw [List.reverse_cons, firstOf_snoc, ih h.2, firstOf_cons]
    by_cases hk : t.sector = (k : Int)
    · rw [if_pos hk, if_pos hk, firstOf_none (by rw [← hk]; exact h.1)]; rfl
    · rw [if_neg hk, if_neg hk, Option.or_none]
theorem back_first (ts : List TM) (S k : Nat) (hk : k < S) : firstOf ((ded ts).reverse ++ [⟨-1, 9, 0⟩, ⟨(S : Int), 0, 9⟩]) k = firstOf (ded ts) k := by
  have e : (ded ts).reverse ++ [(⟨-1, 9, 0⟩ : TM), ⟨(S : Int), 0, 9⟩] = ((ded ts).reverse ++ [⟨-1, 9, 0⟩]) ++ [⟨(S : Int), 0, 9⟩] := by simp
  have h1 : ¬ ((-1 : Int) = (k : Int)) := by omega
  have h2 : ¬ ((S : Int) = (k : Int)) := by omega
  rw [e, firstOf_snoc, firstOf_snoc, if_neg h1, if_neg h2, Option.or_none, Option.or_none]
  exact first_reverse _ _ (dfold_nodup ts [] (by simp))
theorem has_any (D : Nat → Prop) (a : Option Addr) (n c : Nat) (l : List Int) (x : Int) (w : World) (h : Is D w a n c l) :
    Calls Try.prog 36 #[.slice a n c, .int .i64 x] w fun e w' => e = .returned (.bool (decide (x ∈ l))) ∧ w = w' := by
  have hm1 : n ≤ c := h.2.2.1
  have hm2 : c ≤ 9223372036854775807 := h.2.2.2.1
  have H := Lib.hid h
  obtain ⟨B, hB⟩ : ∃ B, B = decide (x ∈ l) := ⟨_, rfl⟩
  rw [← hB]
  have HB := Lib.hid hB
  clear h hB
  go_enter Try.func36, Try.ntmps36
  go_wp2
  go_loopw [5] (fun t wr => ∃ i : Nat, i ≤ n ∧ t = .int .i64 (i : Int) ∧ x ∉ l.take i ∧ w = wr) (fun t _ => n - (intOf t).toNat)
  case atStart => exact ⟨0, Nat.zero_le _, rfl, by simp, rfl⟩
  case round =>
    obtain ⟨i, hi, rfl, htk, rfl⟩ := hrel
    have Htk := Lib.hid htk
    clear htk
    by_cases hlt : i < n
    · have hl1 : i < l.length := by have := H.out.1; omega
      obtain ⟨b1, o1, -, -, rfl, hc1⟩ := H.out.cells (by omega)
      have hx := hc1 i hl1
      have Hs1 := Lib.hid (List.take_succ_eq_append_getElem hl1)
      have Hg1 := Lib.hid (List.getElem_mem hl1)
      have hw1 : IntKind.i64.wrap ((i : Int) + 1) = (i : Int) + 1 := i64_id _ (by omega) (by omega)
      clear hc1
      generalize l[i] = y at *
      by_cases hxy : y = x
      · subst hxy
        have HT : Hid (decide (y ∈ l) = true) := Lib.hid (decide_eq_true Hg1.out)
        have hb : (y == y) = true := beq_self_eq_true y
        go_wp2
        go_ret
        exact ⟨congrArg (fun b => Ending.returned (Value.bool b)) (HB.out.trans HT.out).symm, rfl⟩
      · have hb : (y == x) = false := by rw [beq_eq_false_iff_ne]; exact hxy
        go_wp2
        go_roundw
        case rel => exact ⟨i + 1, by omega, by go_num, by rw [Hs1.out, List.mem_append, List.mem_singleton]; exact fun h => h.elim Htk.out (fun h => hxy h.symm), trivial⟩
        case measure => simp [intOf]; omega
    · obtain rfl : i = n := by omega
      have HE : Hid (decide (x ∈ l) = false) := Lib.hid (by
        have h := Htk.out
        rw [List.take_of_length_le (by have := H.out.1; omega)] at h
        exact decide_eq_false h)
      go_wp2
      go_ret
      exact ⟨congrArg (fun b => Ending.returned (Value.bool b)) (HB.out.trans HE.out).symm, rfl⟩
/-- a slice of ints of one's own -/
def iaccO (v : Value) (l : List Int) : Obj := ⟨fun B w => ∃ k, Own w 3 1 k v l.length (ivals l) ∧ ∀ j, k = some j → B j, fun {B S w w'} h hk hs => by
  obtain ⟨k, h1, h2⟩ := h
  exact ⟨k, h1.kept hk (fun j hj => hs j (h1.lt j hj) (h2 j hj)), h2⟩⟩
theorem Lv.iacc0 {w0 w : World} {L : List Obj} (h : Lv w0 w L) : Lv w0 w (iaccO (.slice none 0 0) [] :: L) :=
  h.cons (Below.refl _ _) (B := fun _ => False) ⟨none, Own.nil _ _ _, (fun _ h => by cases h)⟩ (fun _ h => h.elim)
theorem Lv.is {w0 w : World} {L : List Obj} (h : Lv w0 w L) {i : Nat} {v : Value} {l : List Int} (hi : L[i]? = some (iaccO v l)) : ∃ Z a n c, v = .slice a n c ∧ n = l.length ∧ Is Z w a n c l := by
  obtain ⟨B, ⟨k, h1, h2⟩, _⟩ := h.get hi
  obtain ⟨a, c, hv, hs⟩ := h1.sl
  exact ⟨_, a, _, c, hv, rfl, rfl, hs⟩
theorem wpList_iacc {w0 w : World} {L : List Obj} (h : Lv w0 w L) {i : Nat} {v : Value} {l : List Int} (hi : L[i]? = some (iaccO v l)) {ops : Array Oper} {rest : List Oper} {o : Oper} {a : Act} {Q : Exit → Act → World → Prop} (hgd : o.guard = none) (s x : Operand)
    (ho : o.op = .call { callee := .builtin .append, args := #[s, x], argTypes := #[64, 64] }) (hs : a.eval s = v) (us : List Int) (hx : Src Try.prog 1 64 (a.eval x) us.length (ivals us) w) (hb : l.length + us.length ≤ 1000000)
    (K : ∀ v' w', Lv w0 w' (L.set i (iaccO v' (l ++ us))) → wpList Try.prog ops Q rest (a.put o.dst v') w') : wpList Try.prog ops Q (o :: rest) a w := by
  obtain ⟨i0, hi0, hz0, hz1, hz2⟩ := info_parts info3
  obtain ⟨B, ⟨k, h1, h2⟩, hlt, _, hset⟩ := h.get hi
  refine wpList_append_any w hgd s x _ _ ho 3 i0 _ 1 8 Try.underlying64 hi0 hz0 hz1 hz2 rfl k v l.length (ivals l) hs h1 us.length (ivals us) hx (by unfold maxLen; omega) (by omega) ?_
  intro k' v' w' ho' hf' hK' hn'
  refine K v' w' (hset w' _ (fun j => k' = some j) ⟨k', ?_, fun _ h => h⟩ (hK'.mono (fun j _ hj => h2 j hj)) (fun j hj => (hf' j hj).imp (fun e => h2 j e) id) (fun j hj => ho'.lt j hj))
  rw [List.length_append, show ivals (l ++ us) = ivals l ++ ivals us by simp [ivals]]
  exact ho'
theorem run_bldI (x : Int) (W : World) : (Instr.buildSlice 64 1 #[(0, .int .i64 x)]).run Try.prog W = .ok (.slice (some ⟨W.heap.size, 0, none⟩) 1 1) (W.alloc (.cells #[.int .i64 x] 3)) := by kernel_rfl
theorem Is.one (w : World) (x : Int) : Is (fun b => b = w.heap.size) (w.alloc (.cells #[.int .i64 x] 3)) (some ⟨w.heap.size, 0, none⟩) 1 1 [x] := by
  have h := Own.made w 3 1 #[.int .i64 x] 1 (by decide) rfl
  obtain ⟨a, c, e, hs⟩ := h.sl
  cases e
  exact ⟨rfl, hs.dom (fun b h => (Option.some.inj h).symm)⟩
theorem run_tornA (W : World) : (Instr.build 67 #[(0, .int .i64 (-1)), (1, .int .i64 9)]).run Try.prog W = .ok (.agg #[.int .i64 (-1), .int .i64 9, .int .i64 0]) W := by kernel_rfl
theorem run_tornB (k : Int) (W : World) : (Instr.build 67 #[(0, .int .i64 k), (2, .int .i64 9)]).run Try.prog W = .ok (.agg #[.int .i64 k, .int .i64 0, .int .i64 9]) W := by kernel_rfl
theorem run_bld67b (x y z u v t : Value) (W : World) : (Instr.buildSlice 33 2 #[(0, .agg #[x, y, z]), (1, .agg #[u, v, t])]).run Try.prog W = .ok (.slice (some ⟨W.heap.size, 0, none⟩) 2 2) (W.alloc (.cells #[x, y, z, u, v, t] 67)) := by kernel_rfl
set_option maxRecDepth 100000 in
set_option maxHeartbeats 8000000 in
theorem diskorder_any (x : Int) (a : Option Addr) (n c : Nat) (ms : List OM) (ta : Option Addr) (tn tc : Nat) (ts : List TM) (w0 : World) (h1 : -9223372036854775808 ≤ x) (h2 : x ≤ 9223372036854775807) (hO : Ops (fun b => b < w0.heap.size) w0 a n c ms) (hT : Ts (fun b => b < w0.heap.size) w0 ta tn tc ts) :
    Calls Try.prog 7 #[.int .i64 x, .slice a n c, .slice ta tn tc] w0 fun e w' => e = .returned (.bool true) ∧ Below w0.heap.size w0 w' := by
  have HO := Lib.hid hO
  have HT := Lib.hid hT
  have HL0 := Lib.hid (Lv.refl w0)
  have hsb := secs_bd x
  obtain ⟨S, hS⟩ : ∃ S, S = secs x := ⟨_, rfl⟩
  rw [← hS] at hsb
  have hsb1 := hsb.1
  have hsb2 := hsb.2
  have hS1 : (1 : Int) ≤ (S : Int) := by omega
  have HS := Lib.hid hS
  have htc : tn ≤ tc := hT.2.1.2.1
  have htm : tc ≤ 9223372036854775807 := hT.2.1.2.2.1
  clear hO hT hS hsb
  go_enter Try.func7, Try.ntmps7
  go_wp2_with (first
    | (have hL := HL0.out; go_at_call 35; refine (written_lv hL x h1 h2 HO.out).mono ?_; rintro e w1 ⟨g, d, rfl, hl, hon, hfz, hSL, hok⟩; rw [← HS.out] at hSL; have HL1 := Lib.hid hl; have HON := Lib.hid hon; have HSL := Lib.hid hSL; have HOK := Lib.hid (hok.mono (show 40 ≤ 100000 by omega)); clear hl hon hfz hSL hok HL0 hL))
  go_loopw [8, 9, 10] (fun u s t wr => ∃ (i : Nat) (v0 vs : Value), i ≤ tn ∧ i ≤ 40 ∧ v0 = u ∧ vs = s ∧ t = .int .i64 (i : Int) ∧ Lv w0 wr [accO v0 (ded (ts.take i)), iaccO vs ((ded (ts.take i)).map (·.sector)), diskO g d]) (fun _ _ t _ => 40 - (intOf t).toNat)
  case atStart => exact ⟨0, _, _, Nat.zero_le _, by omega, rfl, rfl, rfl, by rw [List.take_zero]; exact (HL1.out.iacc0).acc0⟩
  case round =>
    obtain ⟨i, v0, vs, hi, hi40, hv0, hvs, rfl, hL⟩ := hrel
    subst hv0
    obtain ⟨Zs, sa, ls, cs, hvs2, hls, his⟩ := hL.is (i := 1) rfl
    rw [hvs2] at hL hvs
    subst hvs
    have HIS := Lib.hid his
    have HL := Lib.hid hL
    clear hL HL1 hvs2 hls
    by_cases hlt : i < tn
    · by_cases hlt40 : i < 40
      · have hn2 : (i : Int) < (tn : Int) := by omega
        have hn3 : (i : Int) < 40 := by omega
        have hw1 : IntKind.i64.wrap ((i : Int) + 1) = (i : Int) + 1 := i64_id _ (by omega) (by omega)
        obtain ⟨b, off, hDb, hbw, rfl, hrb⟩ := HT.out.at (by omega)
        have hil : i < ts.length := by have := HT.out.1; omega
        have hr3 := hrb i hil
        obtain ⟨tm, htm⟩ : ∃ tm, tm = ts[i] := ⟨_, rfl⟩
        have htok : TOk tm := by rw [htm]; exact HT.out.2.2 _ (List.getElem_mem hil)
        rw [← htm] at hr3
        have htk : ts.take (i + 1) = ts.take i ++ [tm] := by rw [List.take_succ_eq_append_getElem hil, htm]
        have hr5 : ∀ w', Below w0.heap.size w0 w' → w'.rangeAt b (off + i * 3) [.int .i64 tm.sector, .int .i64 tm.writes, .int .i64 tm.bytes] := fun w' hb' j v hv => (hb'.cell (p := ⟨b, off + i * 3 + j, none⟩) hbw).trans (hr3 j v hv)
        have hr4 := hr5 wr HL.out.args
        have cS : wr.cell? ⟨b, off + i * 3, none⟩ = some (.int .i64 tm.sector) := hr4 0 _ rfl
        have Hr4 := Lib.hid hr4
        have Hr5 := Lib.hid hr5
        have HTK := Lib.hid htok
        have HLN : Hid ((ded (ts.take i)).length ≤ 40) := Lib.hid (Nat.le_trans (ded_len _) (by rw [List.length_take]; omega))
        have hbd := run_bld67
        have hbe := run_bldI
        have HG1 : Hid True := Lib.hid trivial
        have HBD : Hid ((ded (ts.take i)).length + [tm].length ≤ 1000000) := Lib.hid (by have := HLN.out; simp only [List.length_cons, List.length_nil]; omega)
        have HBI : Hid (((ded (ts.take i)).map (·.sector)).length + [tm.sector].length ≤ 1000000) := Lib.hid (by have := HLN.out; simp only [List.length_map, List.length_cons, List.length_nil]; omega)
        have HON1 : Hid (∀ t ∈ [tm], TOk t) := Lib.hid (fun t ht => by rw [List.mem_singleton.1 ht]; exact HTK.out)
        have HSRC : Hid (Src Try.prog 3 33 (.slice (some ⟨wr.heap.size, 0, none⟩) 1 1) 1 (tcells [tm]) (wr.alloc (.cells #[.int .i64 tm.sector, .int .i64 tm.writes, .int .i64 tm.bytes] 67))) := Lib.hid (src_new (us := [tm]) (g := wr.heap.size) (heap_new rfl))
        have HLn : Hid (Lv w0 (wr.alloc (.cells #[.int .i64 tm.sector, .int .i64 tm.writes, .int .i64 tm.bytes] 67)) [accO v0 (ded (ts.take i)), iaccO (.slice sa ls cs) ((ded (ts.take i)).map (·.sector)), diskO g d]) := Lib.hid (HL.out.below ((Below.refl _ _).alloc (Nat.le_refl _) _))
        have HTA := Lib.hid (show ded (ts.take (i + 1)) = dstep (ded (ts.take i)) tm by rw [htk, ded_snoc])
        clear hDb hrb hil hr3 htm htok htk hr4 hr5 his
        by_cases hs : tm.sector ∈ (ded (ts.take i)).map (·.sector)
        · have HDE : Hid (decide (tm.sector ∈ (ded (ts.take i)).map (·.sector)) = true) := Lib.hid (decide_eq_true hs)
          have HTB : Hid (dstep (ded (ts.take i)) tm = ded (ts.take i)) := Lib.hid (by unfold dstep; rw [if_pos hs])
          clear hs
          go_wp2_with (first
            | (have x1 := HG1; go_at_call 36; refine (has_any _ _ _ _ _ _ _ HIS.out).mono ?_; rintro e w2 ⟨rfl, rfl⟩; rw [HDE.out]; clear HG1 x1))
          go_roundw
          case rel => exact ⟨i + 1, _, _, by omega, by omega, rfl, rfl, by go_num, by rw [HTA.out, HTB.out]; exact HL.out⟩
          case measure => simp [intOf]; omega
        · have HDE : Hid (decide (tm.sector ∈ (ded (ts.take i)).map (·.sector)) = false) := Lib.hid (decide_eq_false hs)
          have HTB : Hid (dstep (ded (ts.take i)) tm = ded (ts.take i) ++ [tm]) := Lib.hid (by unfold dstep; rw [if_neg hs])
          have HTC : Hid ((ded (ts.take i) ++ [tm]).map (·.sector) = (ded (ts.take i)).map (·.sector) ++ [tm.sector]) := Lib.hid (by simp)
          clear hs
          go_upto_region 11 with (first
            | (have x1 := HG1; go_at_call 36; refine (has_any _ _ _ _ _ _ _ HIS.out).mono ?_; rintro e w2 ⟨rfl, rfl⟩; rw [HDE.out]; have HG2 := x1; clear HG1 x1)
            | (have x1 := HG2; refine wpList_load_mid rfl 67 (.tmp 41) rfl b (off + i * 3) rfl _ _ Hr4.out Try.underlying67 rfl (by kernel_rfl) ?_; have HG3 := x1; clear HG2 x1)
            | (have x1 := HG3; have hL := HLn.out; at_builtin; refine wpList_acc hL (i := 0) (v := v0) rfl rfl (.tmp 38) (.tmp 43) rfl rfl [tm] HON1.out HSRC.out HBD.out ?_; clear HLn HL hL HG3 x1; intro v2 w2 hl2; have HL2 : Hid (Lv w0 w2 [accO v2 (ded (ts.take i) ++ [tm]), iaccO (.slice sa ls cs) ((ded (ts.take i)).map (·.sector)), diskO g d]) := Lib.hid hl2; have cS2 : w2.cell? ⟨b, off + i * 3, none⟩ = some (.int .i64 tm.sector) := Hr5.out w2 hl2.args 0 _ rfl; have HLm : Hid (Lv w0 (w2.alloc (.cells #[.int .i64 tm.sector] 3)) [accO v2 (ded (ts.take i) ++ [tm]), iaccO (.slice sa ls cs) ((ded (ts.take i)).map (·.sector)), diskO g d]) := Lib.hid (hl2.below ((Below.refl _ _).alloc (Nat.le_refl _) _)); have HSI := Lib.hid ((Is.one w2 tm.sector).src (P := Try.prog) (tx := 64) Try.underlying64); clear hl2 HSRC HON1 HBD))
          have HG4 : Hid True := Lib.hid trivial
          clear cS
          go_wp2_with (first
            | (have x1 := HG4; have hL := HLm.out; at_builtin; refine wpList_iacc hL (i := 1) (v := .slice sa ls cs) rfl rfl (.tmp 45) (.tmp 51) rfl rfl [tm.sector] HSI.out HBI.out ?_; clear HLm hL HG4 x1; intro v3 w3 hl3; rw [← HTC.out] at hl3; have HL3 : Hid (Lv w0 w3 [accO v2 (ded (ts.take i) ++ [tm]), iaccO v3 ((ded (ts.take i) ++ [tm]).map (·.sector)), diskO g d]) := Lib.hid hl3; clear hl3))
          go_roundw
          case rel => exact ⟨i + 1, _, _, by omega, by omega, rfl, rfl, by go_num, by rw [HTA.out, HTB.out]; exact HL3.out⟩
          case measure => simp [intOf]; omega
      · have hi4 : 40 ≤ (i : Int) := by omega
        have HTi := Lib.hid (HT.out.upto i (by omega))
        have hmin : min (tn : Int) 40 = (i : Int) := by omega
        have Hmin := Lib.hid hmin
        obtain ⟨fi, hfi⟩ : ∃ fi, fi = ded (ts.take i) := ⟨_, rfl⟩
        obtain ⟨bk, hbk⟩ : ∃ bk, bk = fi.reverse ++ [(⟨-1, 9, 0⟩ : TM), ⟨(S : Int), 0, 9⟩] := ⟨_, rfl⟩
        obtain ⟨X1, hX1⟩ : ∃ X1, X1 = ts.take i := ⟨_, rfl⟩
        have he1 : (d.restart X1).S.map lastB = (d.restart fi).S.map lastB := restart_last _ _ _ (fun k _ => by rw [hfi, hX1, ded_first])
        have he2 : (d.restart X1).S.map lastB = (d.restart bk).S.map lastB := restart_last _ _ _ (fun k hk => by rw [hbk, hfi, hX1, back_first _ _ _ (by rw [← HSL.out]; exact hk), ded_first])
        obtain ⟨D1, hD1⟩ : ∃ D1, D1 = d.restart X1 := ⟨_, rfl⟩
        obtain ⟨D2, hD2⟩ : ∃ D2, D2 = d.restart fi := ⟨_, rfl⟩
        obtain ⟨D3, hD3⟩ : ∃ D3, D3 = d.restart bk := ⟨_, rfl⟩
        rw [← hD1, ← hD2] at he1
        rw [← hD1, ← hD3] at he2
        have HE1 := Lib.hid he1
        have HE2 := Lib.hid he2
        have HN1 : Hid (D1.S.length = D2.S.length) := Lib.hid (by rw [hD1, hD2, restart_len, restart_len])
        have HN2 : Hid (D1.S.length = D3.S.length) := Lib.hid (by rw [hD1, hD3, restart_len, restart_len])
        have O1 : Hid (D1.on = true) := Lib.hid (by rw [hD1]; rfl)
        have O2 : Hid (D2.on = true) := Lib.hid (by rw [hD2]; rfl)
        have O3 : Hid (D3.on = true) := Lib.hid (by rw [hD3]; rfl)
        have HD1 := Lib.hid hD1
        have HD2 := Lib.hid hD2
        have HD3 := Lib.hid hD3
        rw [← hX1] at HTi
        have hfl40 : fi.length ≤ 40 := by rw [hfi]; refine Nat.le_trans (ded_len _) ?_; rw [List.length_take]; omega
        rw [← hfi] at HL
        have hl2 := HL.out.accTorn (i := 0) rfl
        obtain ⟨Zo, ⟨ao, co, hvo, hto⟩, _⟩ := hl2.get (i := 0) rfl
        obtain ⟨fl, hfl⟩ : ∃ fl, fl = fi.length := ⟨_, rfl⟩
        rw [← hfl] at hvo hfl40 hto
        subst hvo
        have htd : Ts Zo wr ao fl co fi := hto
        have hfc : fl ≤ co := htd.2.1.2.1
        have hfm : co ≤ 9223372036854775807 := htd.2.1.2.2.1
        have HFL := Lib.hid hfl
        have HDF : Hid (fi.drop fl = []) := Lib.hid (List.drop_of_length_le (by omega))
        have HBK := Lib.hid hbk
        have HLb : Hid (Lv w0 wr [tornO (.slice ao fl co) fi, iaccO (.slice sa ls cs) (fi.map (·.sector)), diskO g d]) := Lib.hid hl2
        have hw9 : IntKind.i64.wrap ((fl : Int) - 1) = (fl : Int) - 1 := i64_id _ (by omega) (by omega)
        clear hmin hbk hX1 he1 he2 hD1 hD2 hD3 hl2 hto htd HL hfi hfl his
        -- CUT 1
        go_upto_region 14 with fail
        go_loopw [11, 12] (fun u t wr => ∃ (m : Nat) (z : Int) (v1 : Value), m ≤ fl ∧ z = (m : Int) - 1 ∧ v1 = u ∧ t = .int .i64 z ∧ Lv w0 wr [accO v1 ((fi.drop m).reverse), tornO (.slice ao fl co) fi, iaccO (.slice sa ls cs) (fi.map (·.sector)), diskO g d]) (fun _ t _ => (intOf t + 1).toNat)
        case atStart => exact ⟨fl, _, _, Nat.le_refl _, rfl, rfl, rfl, by rw [HDF.out]; exact HLb.out.acc0⟩
        case round =>
          obtain ⟨m, z, v1, hm, hz, hv1, rfl, hLm⟩ := hrel
          subst hv1
          have HLm := Lib.hid hLm
          clear hLm HLb
          by_cases hm0 : m = 0
          · subst hm0
            obtain rfl : z = -1 := by omega
            clear hz
            have HBL : Hid (((fi.drop 0).reverse).length + [(⟨-1, 9, 0⟩ : TM), ⟨(S : Int), 0, 9⟩].length ≤ 1000000) := Lib.hid (by have := HFL.out; rw [List.drop_zero, List.length_reverse]; simp only [List.length_cons, List.length_nil]; omega)
            have HTK2 : Hid (∀ t ∈ [(⟨-1, 9, 0⟩ : TM), ⟨(S : Int), 0, 9⟩], TOk t) := Lib.hid (fun t ht => by
              simp only [List.mem_cons, List.not_mem_nil, or_false] at ht
              rcases ht with rfl | rfl
              · exact ⟨by decide, by decide⟩
              · exact ⟨by simp only; omega, by simp only; omega⟩)
            have HSRC2 : Hid (Src Try.prog 3 33 (.slice (some ⟨wr.heap.size, 0, none⟩) 2 2) 2 (tcells [(⟨-1, 9, 0⟩ : TM), ⟨(S : Int), 0, 9⟩]) (wr.alloc (.cells #[.int .i64 (-1), .int .i64 9, .int .i64 0, .int .i64 (S : Int), .int .i64 0, .int .i64 9] 67))) := Lib.hid (src_new (us := [(⟨-1, 9, 0⟩ : TM), ⟨(S : Int), 0, 9⟩]) (g := wr.heap.size) (heap_new rfl))
            have HLn2 : Hid (Lv w0 (wr.alloc (.cells #[.int .i64 (-1), .int .i64 9, .int .i64 0, .int .i64 (S : Int), .int .i64 0, .int .i64 9] 67)) [accO v1 ((fi.drop 0).reverse), tornO (.slice ao fl co) fi, iaccO (.slice sa ls cs) (fi.map (·.sector)), diskO g d]) := Lib.hid (HLm.out.below ((Below.refl _ _).alloc (Nat.le_refl _) _))
            have hb1 := run_tornA
            have hb2 := run_tornB (S : Int)
            have hb3 := run_bld67b
            have HG1 : Hid True := Lib.hid trivial
            have HG2 : Hid True := Lib.hid trivial
            -- CUT 2
            go_upto_region 18 with (first
              | (have x1 := HG1; go_at_call 20; refine (len_lv HLm.out (i := 3) (d := d) rfl).mono ?_; rintro e w2 ⟨rfl, rfl⟩; rw [HSL.out]; have HG3 := x1; clear HG1 x1)
              | (have x1 := HG3; at_builtin; refine wpList_acc HLn2.out (i := 0) (v := v1) rfl rfl (.tmp 67) (.tmp 72) rfl rfl [(⟨-1, 9, 0⟩ : TM), ⟨(S : Int), 0, 9⟩] HTK2.out HSRC2.out HBL.out ?_; clear HLn2 HG3 x1; intro v2 w2 hl2; rw [List.drop_zero, ← HBK.out] at hl2; have hl3 := hl2.accTorn (i := 0) rfl; obtain ⟨Zp, ⟨ap, cp, hvp, _⟩, _⟩ := hl3.get (i := 0) rfl; subst hvp; have HLc : Hid (Lv w0 w2 [tornO (.slice ap bk.length cp) bk, tornO (.slice ao fl co) fi, iaccO (.slice sa ls cs) (fi.map (·.sector)), diskO g d]) := Lib.hid hl3; clear hl2 hl3 HSRC2 HTK2 HBL))
            clear hb1 hb2 hb3 HLm HBK
            generalize bk.length = bl at *
            -- CUT 3
            go_upto_region 19 with (first
              | (have hL := HLc.out; go_at_call 37; refine (clone_lv hL (i := 3) (d := d) rfl HOK.out).mono ?_; rintro e w1 ⟨ga, rfl, hl⟩; have HLd := Lib.hid hl; clear hl HLc hL))
            -- CUT 4
            go_upto_region 22 with (first
              | (have hL := HLd.out; go_at_call 37; refine (clone_lv hL (i := 4) (d := d) rfl HOK.out).mono ?_; rintro e w1 ⟨gb, rfl, hl⟩; have HLe := Lib.hid hl; clear hl HLd hL))
            -- CUT 5
            go_upto_region 23 with (first
              | (have x1 := HG2; refine wpList_min2 rfl (.tmp 87) (.const (.int .i64 40)) 3 3 rfl (tn : Int) 40 (i : Int) rfl rfl Hmin.out ?_; clear HG2 x1)
              | (have hL := HLe.out; go_at_call 27; refine (restart_lv hL (i := 5) (d := d) rfl (HTi.out.kept (Kept.of_below (fun x => w0.heap.size ≤ x) hL.args) (fun x hx _ h => by omega)) (.inl (fun x hx => hx))).mono ?_; rintro e w1 ⟨rfl, hl⟩; rw [← HD1.out] at hl; have HLf : Hid (Lv w0 w1 [diskO gb d, diskO ga d, tornO (.slice ap bl cp) bk, tornO (.slice ao fl co) fi, iaccO (.slice sa ls cs) (fi.map (·.sector)), diskO g D1]) := Lib.hid hl; clear hl HLe hL))
            -- CUT 6
            go_upto_region 24 with (first
              | (have hL := HLf.out; go_at_call 27; obtain ⟨Zt, ht⟩ := hL.ts (i := 3) rfl; refine (restart_lv hL (i := 1) (d := d) rfl ht (.inr ⟨3, _, by decide, rfl, rfl⟩)).mono ?_; rintro e w1 ⟨rfl, hl⟩; rw [← HD2.out] at hl; have HLg : Hid (Lv w0 w1 [diskO gb d, diskO ga D2, tornO (.slice ap bl cp) bk, tornO (.slice ao fl co) fi, iaccO (.slice sa ls cs) (fi.map (·.sector)), diskO g D1]) := Lib.hid hl; clear hl HLf hL ht))
            -- CUT 7
            go_upto_region 25 with (first
              | (have hL := HLg.out; go_at_call 27; obtain ⟨Zt, ht⟩ := hL.ts (i := 2) rfl; refine (restart_lv hL (i := 0) (d := d) rfl ht (.inr ⟨2, _, by decide, rfl, rfl⟩)).mono ?_; rintro e w1 ⟨rfl, hl⟩; rw [← HD3.out] at hl; have HLh : Hid (Lv w0 w1 [diskO gb D3, diskO ga D2, tornO (.slice ap bl cp) bk, tornO (.slice ao fl co) fi, iaccO (.slice sa ls cs) (fi.map (·.sector)), diskO g D1]) := Lib.hid hl; clear hl HLg hL ht))
            go_wp2_with (first
              | (have hL := HLh.out; go_at_call 38; refine (equal_lv hL (i1 := 5) (i2 := 1) (d1 := D1) (d2 := D2) rfl rfl HN1.out (O1.out.trans O2.out.symm) O1.out HE1.out).mono ?_; rintro e w1 ⟨rfl, hl⟩; have HLj := Lib.hid hl; clear hl HLh hL)
              | (have hL := HLj.out; go_at_call 38; refine (equal_lv hL (i1 := 5) (i2 := 0) (d1 := D1) (d2 := D3) rfl rfl HN2.out (O1.out.trans O3.out.symm) O1.out HE2.out).mono ?_; rintro e w1 ⟨rfl, hl⟩; have HLk := Lib.hid hl; clear hl HLj hL)
              | (have hL := HLk.out; go_at_call 17; refine (lives_any _).mono ?_; rintro e w1 ⟨rfl, hb⟩; have HB := Lib.hid (hL.args.trans (hb.mono hL.size)); clear hb hL))
            go_ret
            exact ⟨rfl, HB.out⟩
          · obtain ⟨q, rfl⟩ : ∃ q, m = q + 1 := ⟨m - 1, by omega⟩
            obtain rfl : z = (q : Int) := by omega
            clear hz
            have hq0 : (0 : Int) ≤ (q : Int) := by omega
            have hq1 : (q : Int) < (fl : Int) := by omega
            have hw1 : IntKind.i64.wrap ((q : Int) - 1) = (q : Int) - 1 := i64_id _ (by omega) (by omega)
            obtain ⟨Zq, hq⟩ := HLm.out.ts (i := 1) rfl
            obtain ⟨b, off, hDb, hbw, rfl, hrb⟩ := hq.at (by omega)
            have hil : q < fi.length := by have := HFL.out; omega
            have hr3 := hrb q hil
            have hok := hq.2.2 _ (List.getElem_mem hil)
            have hdr : fi.drop q = fi[q] :: fi.drop (q + 1) := List.drop_eq_getElem_cons hil
            obtain ⟨tm, htm⟩ : ∃ tm, tm = fi[q] := ⟨_, rfl⟩
            rw [← htm] at hr3 hok hdr
            have Hr3 := Lib.hid hr3
            have HDR : Hid ((fi.drop q).reverse = (fi.drop (q + 1)).reverse ++ [tm]) := Lib.hid (by rw [hdr, List.reverse_cons])
            have HOK1 : Hid (∀ t ∈ [tm], TOk t) := Lib.hid (fun t ht => by rw [List.mem_singleton.1 ht]; exact hok)
            have HBD : Hid (((fi.drop (q + 1)).reverse).length + [tm].length ≤ 1000000) := Lib.hid (by have := HFL.out; rw [List.length_reverse, List.length_drop]; simp only [List.length_cons, List.length_nil]; omega)
            have HSRC : Hid (Src Try.prog 3 33 (.slice (some ⟨wr.heap.size, 0, none⟩) 1 1) 1 (tcells [tm]) (wr.alloc (.cells #[.int .i64 tm.sector, .int .i64 tm.writes, .int .i64 tm.bytes] 67))) := Lib.hid (src_new (us := [tm]) (g := wr.heap.size) (heap_new rfl))
            have HLn : Hid (Lv w0 (wr.alloc (.cells #[.int .i64 tm.sector, .int .i64 tm.writes, .int .i64 tm.bytes] 67)) [accO v1 ((fi.drop (q + 1)).reverse), tornO (.slice (some ⟨b, off, none⟩) fl co) fi, iaccO (.slice sa ls cs) (fi.map (·.sector)), diskO g d]) := Lib.hid (HLm.out.below ((Below.refl _ _).alloc (Nat.le_refl _) _))
            have hbd := run_bld67
            have HG1 : Hid True := Lib.hid trivial
            clear hDb hq hrb hil hr3 htm hok hdr
            go_wp2_with (first
              | (have x1 := HG1; refine wpList_load_mid rfl 67 (.tmp 63) rfl b (off + q * 3) rfl _ _ Hr3.out Try.underlying67 rfl (by kernel_rfl) ?_; have HG2 := x1; clear HG1 x1)
              | (have x1 := HG2; have hL := HLn.out; at_builtin; refine wpList_acc hL (i := 0) (v := v1) rfl rfl (.tmp 60) (.tmp 65) rfl rfl [tm] HOK1.out HSRC.out HBD.out ?_; clear HLn hL; intro v2 w2 hl2; have HL2 := Lib.hid hl2; clear hl2))
            go_roundw
            case rel => exact ⟨q, _, _, by omega, rfl, rfl, rfl, by rw [HDR.out]; exact HL2.out⟩
            case measure => simp [intOf] <;> omega
    · have hin : (tn : Int) ≤ (i : Int) := by omega
      have HTi := Lib.hid (HT.out.upto i (by omega))
      have hmin : min (tn : Int) 40 = (i : Int) := by omega
      have Hmin := Lib.hid hmin
      obtain ⟨fi, hfi⟩ : ∃ fi, fi = ded (ts.take i) := ⟨_, rfl⟩
      obtain ⟨bk, hbk⟩ : ∃ bk, bk = fi.reverse ++ [(⟨-1, 9, 0⟩ : TM), ⟨(S : Int), 0, 9⟩] := ⟨_, rfl⟩
      obtain ⟨X1, hX1⟩ : ∃ X1, X1 = ts.take i := ⟨_, rfl⟩
      have he1 : (d.restart X1).S.map lastB = (d.restart fi).S.map lastB := restart_last _ _ _ (fun k _ => by rw [hfi, hX1, ded_first])
      have he2 : (d.restart X1).S.map lastB = (d.restart bk).S.map lastB := restart_last _ _ _ (fun k hk => by rw [hbk, hfi, hX1, back_first _ _ _ (by rw [← HSL.out]; exact hk), ded_first])
      obtain ⟨D1, hD1⟩ : ∃ D1, D1 = d.restart X1 := ⟨_, rfl⟩
      obtain ⟨D2, hD2⟩ : ∃ D2, D2 = d.restart fi := ⟨_, rfl⟩
      obtain ⟨D3, hD3⟩ : ∃ D3, D3 = d.restart bk := ⟨_, rfl⟩
      rw [← hD1, ← hD2] at he1
      rw [← hD1, ← hD3] at he2
      have HE1 := Lib.hid he1
      have HE2 := Lib.hid he2
      have HN1 : Hid (D1.S.length = D2.S.length) := Lib.hid (by rw [hD1, hD2, restart_len, restart_len])
      have HN2 : Hid (D1.S.length = D3.S.length) := Lib.hid (by rw [hD1, hD3, restart_len, restart_len])
      have O1 : Hid (D1.on = true) := Lib.hid (by rw [hD1]; rfl)
      have O2 : Hid (D2.on = true) := Lib.hid (by rw [hD2]; rfl)
      have O3 : Hid (D3.on = true) := Lib.hid (by rw [hD3]; rfl)
      have HD1 := Lib.hid hD1
      have HD2 := Lib.hid hD2
      have HD3 := Lib.hid hD3
      rw [← hX1] at HTi
      have hfl40 : fi.length ≤ 40 := by rw [hfi]; refine Nat.le_trans (ded_len _) ?_; rw [List.length_take]; omega
      rw [← hfi] at HL
      have hl2 := HL.out.accTorn (i := 0) rfl
      obtain ⟨Zo, ⟨ao, co, hvo, hto⟩, _⟩ := hl2.get (i := 0) rfl
      obtain ⟨fl, hfl⟩ : ∃ fl, fl = fi.length := ⟨_, rfl⟩
      rw [← hfl] at hvo hfl40 hto
      subst hvo
      have htd : Ts Zo wr ao fl co fi := hto
      have hfc : fl ≤ co := htd.2.1.2.1
      have hfm : co ≤ 9223372036854775807 := htd.2.1.2.2.1
      have HFL := Lib.hid hfl
      have HDF : Hid (fi.drop fl = []) := Lib.hid (List.drop_of_length_le (by omega))
      have HBK := Lib.hid hbk
      have HLb : Hid (Lv w0 wr [tornO (.slice ao fl co) fi, iaccO (.slice sa ls cs) (fi.map (·.sector)), diskO g d]) := Lib.hid hl2
      have hw9 : IntKind.i64.wrap ((fl : Int) - 1) = (fl : Int) - 1 := i64_id _ (by omega) (by omega)
      clear hmin hbk hX1 he1 he2 hD1 hD2 hD3 hl2 hto htd HL hfi hfl his
      -- CUT 1
      go_upto_region 14 with fail
      go_loopw [11, 12] (fun u t wr => ∃ (m : Nat) (z : Int) (v1 : Value), m ≤ fl ∧ z = (m : Int) - 1 ∧ v1 = u ∧ t = .int .i64 z ∧ Lv w0 wr [accO v1 ((fi.drop m).reverse), tornO (.slice ao fl co) fi, iaccO (.slice sa ls cs) (fi.map (·.sector)), diskO g d]) (fun _ t _ => (intOf t + 1).toNat)
      case atStart => exact ⟨fl, _, _, Nat.le_refl _, rfl, rfl, rfl, by rw [HDF.out]; exact HLb.out.acc0⟩
      case round =>
        obtain ⟨m, z, v1, hm, hz, hv1, rfl, hLm⟩ := hrel
        subst hv1
        have HLm := Lib.hid hLm
        clear hLm HLb
        by_cases hm0 : m = 0
        · subst hm0
          obtain rfl : z = -1 := by omega
          clear hz
          have HBL : Hid (((fi.drop 0).reverse).length + [(⟨-1, 9, 0⟩ : TM), ⟨(S : Int), 0, 9⟩].length ≤ 1000000) := Lib.hid (by have := HFL.out; rw [List.drop_zero, List.length_reverse]; simp only [List.length_cons, List.length_nil]; omega)
          have HTK2 : Hid (∀ t ∈ [(⟨-1, 9, 0⟩ : TM), ⟨(S : Int), 0, 9⟩], TOk t) := Lib.hid (fun t ht => by
            simp only [List.mem_cons, List.not_mem_nil, or_false] at ht
            rcases ht with rfl | rfl
            · exact ⟨by decide, by decide⟩
            · exact ⟨by simp only; omega, by simp only; omega⟩)
          have HSRC2 : Hid (Src Try.prog 3 33 (.slice (some ⟨wr.heap.size, 0, none⟩) 2 2) 2 (tcells [(⟨-1, 9, 0⟩ : TM), ⟨(S : Int), 0, 9⟩]) (wr.alloc (.cells #[.int .i64 (-1), .int .i64 9, .int .i64 0, .int .i64 (S : Int), .int .i64 0, .int .i64 9] 67))) := Lib.hid (src_new (us := [(⟨-1, 9, 0⟩ : TM), ⟨(S : Int), 0, 9⟩]) (g := wr.heap.size) (heap_new rfl))
          have HLn2 : Hid (Lv w0 (wr.alloc (.cells #[.int .i64 (-1), .int .i64 9, .int .i64 0, .int .i64 (S : Int), .int .i64 0, .int .i64 9] 67)) [accO v1 ((fi.drop 0).reverse), tornO (.slice ao fl co) fi, iaccO (.slice sa ls cs) (fi.map (·.sector)), diskO g d]) := Lib.hid (HLm.out.below ((Below.refl _ _).alloc (Nat.le_refl _) _))
          have hb1 := run_tornA
          have hb2 := run_tornB (S : Int)
          have hb3 := run_bld67b
          have HG1 : Hid True := Lib.hid trivial
          have HG2 : Hid True := Lib.hid trivial
          -- CUT 2
          go_upto_region 18 with (first
            | (have x1 := HG1; go_at_call 20; refine (len_lv HLm.out (i := 3) (d := d) rfl).mono ?_; rintro e w2 ⟨rfl, rfl⟩; rw [HSL.out]; have HG3 := x1; clear HG1 x1)
            | (have x1 := HG3; at_builtin; refine wpList_acc HLn2.out (i := 0) (v := v1) rfl rfl (.tmp 67) (.tmp 72) rfl rfl [(⟨-1, 9, 0⟩ : TM), ⟨(S : Int), 0, 9⟩] HTK2.out HSRC2.out HBL.out ?_; clear HLn2 HG3 x1; intro v2 w2 hl2; rw [List.drop_zero, ← HBK.out] at hl2; have hl3 := hl2.accTorn (i := 0) rfl; obtain ⟨Zp, ⟨ap, cp, hvp, _⟩, _⟩ := hl3.get (i := 0) rfl; subst hvp; have HLc : Hid (Lv w0 w2 [tornO (.slice ap bk.length cp) bk, tornO (.slice ao fl co) fi, iaccO (.slice sa ls cs) (fi.map (·.sector)), diskO g d]) := Lib.hid hl3; clear hl2 hl3 HSRC2 HTK2 HBL))
          clear hb1 hb2 hb3 HLm HBK
          generalize bk.length = bl at *
          -- CUT 3
          go_upto_region 19 with (first
            | (have hL := HLc.out; go_at_call 37; refine (clone_lv hL (i := 3) (d := d) rfl HOK.out).mono ?_; rintro e w1 ⟨ga, rfl, hl⟩; have HLd := Lib.hid hl; clear hl HLc hL))
          -- CUT 4
          go_upto_region 22 with (first
            | (have hL := HLd.out; go_at_call 37; refine (clone_lv hL (i := 4) (d := d) rfl HOK.out).mono ?_; rintro e w1 ⟨gb, rfl, hl⟩; have HLe := Lib.hid hl; clear hl HLd hL))
          -- CUT 5
          go_upto_region 23 with (first
            | (have x1 := HG2; refine wpList_min2 rfl (.tmp 87) (.const (.int .i64 40)) 3 3 rfl (tn : Int) 40 (i : Int) rfl rfl Hmin.out ?_; clear HG2 x1)
            | (have hL := HLe.out; go_at_call 27; refine (restart_lv hL (i := 5) (d := d) rfl (HTi.out.kept (Kept.of_below (fun x => w0.heap.size ≤ x) hL.args) (fun x hx _ h => by omega)) (.inl (fun x hx => hx))).mono ?_; rintro e w1 ⟨rfl, hl⟩; rw [← HD1.out] at hl; have HLf : Hid (Lv w0 w1 [diskO gb d, diskO ga d, tornO (.slice ap bl cp) bk, tornO (.slice ao fl co) fi, iaccO (.slice sa ls cs) (fi.map (·.sector)), diskO g D1]) := Lib.hid hl; clear hl HLe hL))
          -- CUT 6
          go_upto_region 24 with (first
            | (have hL := HLf.out; go_at_call 27; obtain ⟨Zt, ht⟩ := hL.ts (i := 3) rfl; refine (restart_lv hL (i := 1) (d := d) rfl ht (.inr ⟨3, _, by decide, rfl, rfl⟩)).mono ?_; rintro e w1 ⟨rfl, hl⟩; rw [← HD2.out] at hl; have HLg : Hid (Lv w0 w1 [diskO gb d, diskO ga D2, tornO (.slice ap bl cp) bk, tornO (.slice ao fl co) fi, iaccO (.slice sa ls cs) (fi.map (·.sector)), diskO g D1]) := Lib.hid hl; clear hl HLf hL ht))
          -- CUT 7
          go_upto_region 25 with (first
            | (have hL := HLg.out; go_at_call 27; obtain ⟨Zt, ht⟩ := hL.ts (i := 2) rfl; refine (restart_lv hL (i := 0) (d := d) rfl ht (.inr ⟨2, _, by decide, rfl, rfl⟩)).mono ?_; rintro e w1 ⟨rfl, hl⟩; rw [← HD3.out] at hl; have HLh : Hid (Lv w0 w1 [diskO gb D3, diskO ga D2, tornO (.slice ap bl cp) bk, tornO (.slice ao fl co) fi, iaccO (.slice sa ls cs) (fi.map (·.sector)), diskO g D1]) := Lib.hid hl; clear hl HLg hL ht))
          go_wp2_with (first
            | (have hL := HLh.out; go_at_call 38; refine (equal_lv hL (i1 := 5) (i2 := 1) (d1 := D1) (d2 := D2) rfl rfl HN1.out (O1.out.trans O2.out.symm) O1.out HE1.out).mono ?_; rintro e w1 ⟨rfl, hl⟩; have HLj := Lib.hid hl; clear hl HLh hL)
            | (have hL := HLj.out; go_at_call 38; refine (equal_lv hL (i1 := 5) (i2 := 0) (d1 := D1) (d2 := D3) rfl rfl HN2.out (O1.out.trans O3.out.symm) O1.out HE2.out).mono ?_; rintro e w1 ⟨rfl, hl⟩; have HLk := Lib.hid hl; clear hl HLj hL)
            | (have hL := HLk.out; go_at_call 17; refine (lives_any _).mono ?_; rintro e w1 ⟨rfl, hb⟩; have HB := Lib.hid (hL.args.trans (hb.mono hL.size)); clear hb hL))
          go_ret
          exact ⟨rfl, HB.out⟩
        · obtain ⟨q, rfl⟩ : ∃ q, m = q + 1 := ⟨m - 1, by omega⟩
          obtain rfl : z = (q : Int) := by omega
          clear hz
          have hq0 : (0 : Int) ≤ (q : Int) := by omega
          have hq1 : (q : Int) < (fl : Int) := by omega
          have hw1 : IntKind.i64.wrap ((q : Int) - 1) = (q : Int) - 1 := i64_id _ (by omega) (by omega)
          obtain ⟨Zq, hq⟩ := HLm.out.ts (i := 1) rfl
          obtain ⟨b, off, hDb, hbw, rfl, hrb⟩ := hq.at (by omega)
          have hil : q < fi.length := by have := HFL.out; omega
          have hr3 := hrb q hil
          have hok := hq.2.2 _ (List.getElem_mem hil)
          have hdr : fi.drop q = fi[q] :: fi.drop (q + 1) := List.drop_eq_getElem_cons hil
          obtain ⟨tm, htm⟩ : ∃ tm, tm = fi[q] := ⟨_, rfl⟩
          rw [← htm] at hr3 hok hdr
          have Hr3 := Lib.hid hr3
          have HDR : Hid ((fi.drop q).reverse = (fi.drop (q + 1)).reverse ++ [tm]) := Lib.hid (by rw [hdr, List.reverse_cons])
          have HOK1 : Hid (∀ t ∈ [tm], TOk t) := Lib.hid (fun t ht => by rw [List.mem_singleton.1 ht]; exact hok)
          have HBD : Hid (((fi.drop (q + 1)).reverse).length + [tm].length ≤ 1000000) := Lib.hid (by have := HFL.out; rw [List.length_reverse, List.length_drop]; simp only [List.length_cons, List.length_nil]; omega)
          have HSRC : Hid (Src Try.prog 3 33 (.slice (some ⟨wr.heap.size, 0, none⟩) 1 1) 1 (tcells [tm]) (wr.alloc (.cells #[.int .i64 tm.sector, .int .i64 tm.writes, .int .i64 tm.bytes] 67))) := Lib.hid (src_new (us := [tm]) (g := wr.heap.size) (heap_new rfl))
          have HLn : Hid (Lv w0 (wr.alloc (.cells #[.int .i64 tm.sector, .int .i64 tm.writes, .int .i64 tm.bytes] 67)) [accO v1 ((fi.drop (q + 1)).reverse), tornO (.slice (some ⟨b, off, none⟩) fl co) fi, iaccO (.slice sa ls cs) (fi.map (·.sector)), diskO g d]) := Lib.hid (HLm.out.below ((Below.refl _ _).alloc (Nat.le_refl _) _))
          have hbd := run_bld67
          have HG1 : Hid True := Lib.hid trivial
          clear hDb hq hrb hil hr3 htm hok hdr
          go_wp2_with (first
            | (have x1 := HG1; refine wpList_load_mid rfl 67 (.tmp 63) rfl b (off + q * 3) rfl _ _ Hr3.out Try.underlying67 rfl (by kernel_rfl) ?_; have HG2 := x1; clear HG1 x1)
            | (have x1 := HG2; have hL := HLn.out; at_builtin; refine wpList_acc hL (i := 0) (v := v1) rfl rfl (.tmp 60) (.tmp 65) rfl rfl [tm] HOK1.out HSRC.out HBD.out ?_; clear HLn hL; intro v2 w2 hl2; have HL2 := Lib.hid hl2; clear hl2))
          go_roundw
          case rel => exact ⟨q, _, _, by omega, rfl, rfl, rfl, by rw [HDR.out]; exact HL2.out⟩
          case measure => simp [intOf] <;> omega
end Go.Proofs.Ytbnodhcgdgcebaa

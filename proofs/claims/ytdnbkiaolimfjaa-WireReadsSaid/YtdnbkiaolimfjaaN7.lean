/-
  The law's expected: a value read by value, with the specification.
-/
import Derived.Test.YtdnbkiaolimfjaaN6
import Derived.Test.YtdnbkiaolimfjaaB2
namespace Go.Proofs.Ytdnbkiaolimfjaa
open Go.RowKit
set_option linter.unusedSimpArgs false
set_option linter.unusedVariables false
/-- the blocks of expected -/
structure ExMid (w : World) (o0 o1 : Obj) (mk : Nat) (w5 : World) : Prop where
  g0 : w5.heap[w.heap.size]? = some o0
  g1 : w5.heap[w.heap.size + 1]? = some o1
  g2 : w5.heap[w.heap.size + 2]? = some (.cells #[.slice none 0 0, .int .i64 0] 48 (0, 0))
  g3 : w5.heap[w.heap.size + 3]? = some (.cells #[.int .u8 0, .int .u64 0, .int .i64 0, .bool false, .string ⟨#[]⟩, .slice none 0 0] 34 (0, 0))
  g4 : w5.heap[w.heap.size + 4]? = some (.cells (rcell mk) 34 (0, 0))
  size : w.heap.size + 5 ≤ w5.heap.size
  bel : Below w.heap.size w w5
theorem ex_mid {w w5 : World} {o0 o1 : Obj} {mk : Nat} (h : w5 = ((((w.alloc o0).alloc o1).alloc (.cells #[.slice none 0 0, .int .i64 0] 48)).alloc (.cells #[.int .u8 0, .int .u64 0, .int .i64 0, .bool false, .string ⟨#[]⟩, .slice none 0 0] 34)).alloc (.cells #[.int .u8 (mk : Int), .int .u64 0, .int .i64 0, .bool false, .string ⟨#[]⟩, .slice none 0 0] 34)) : ExMid w o0 o1 mk w5 := by
  subst h
  refine ⟨heap_old (heap_old (heap_old (heap_old (heap_new rfl)))), heap_old (heap_old (heap_old (heap_new (by simp only [size_alloc1])))), heap_old (heap_old (heap_new (by simp only [size_alloc1]))), heap_old (heap_new (by simp only [size_alloc1])), heap_new (by simp only [size_alloc1]), by simp only [size_alloc1]; omega, ?_⟩
  exact (((((Below.refl _ _).alloc (Nat.le_refl _) _).alloc (by simp only [size_alloc1]; omega) _).alloc (by simp only [size_alloc1]; omega) _).alloc (by simp only [size_alloc1]; omega) _).alloc (by simp only [size_alloc1]; omega) _
theorem ExMid.later {w w5 w6 : World} {o0 o1 : Obj} {mk : Nat} (h : ExMid w o0 o1 mk w5) (hb : Below w5.heap.size w5 w6) : ExMid w o0 o1 mk w6 :=
  ⟨(hb.block _ (heap_lt h.g0)).trans h.g0, (hb.block _ (heap_lt h.g1)).trans h.g1, (hb.block _ (heap_lt h.g2)).trans h.g2, (hb.block _ (heap_lt h.g3)).trans h.g3, (hb.block _ (heap_lt h.g4)).trans h.g4, Nat.le_trans h.size hb.size, h.bel.trans (hb.mono (by have := h.size; omega))⟩
/-- what the specification reads -/
def refVal (k : Nat) (s : RS) (most : Int) : PV × RS := if k % 5 = 2 then (⟨0, 0, (refBool s).1, [], []⟩, (refBool s).2) else rVal k s most
/-- a block of numbers -/
def IntRow (w : World) (b : Nat) : Prop := ∃ cur, w.heap[b]? = some (.cells cur 3 (0, 0))
theorem Own.introw {w : World} {n : Nat} {k : Option Nat} {v : Value} {xs : List Value} (h : Own w 3 1 k v n xs) : ∀ j, k = some j → IntRow w j := by
  intro j hj
  rcases h.2 with ⟨rfl, _⟩ | ⟨g, cap, cur, rfl, _, hg, _⟩
  · cases hj
  · cases hj; exact ⟨cur, hg⟩
/-- the outcome of expected -/
def ExpV (D : Nat → Prop) (w : World) (mk : Nat) (R : PV × RS) (x : Ending) (w' : World) : Prop :=
  ∃ a c, ∃ m : VM, x = .returned (.tuple #[rdv a R.2.l.length c R.2.e, m.val]) ∧ Bs D w' a R.2.l.length c R.2.l ∧ m.k = mk ∧ m.pv = R.1 ∧ VOk (fun b => w.heap.size ≤ b ∧ IntRow w' b) w' m ∧ Below w.heap.size w w'
def Dex1 : List (Option Tmp) := [some 55, some 56, none, none]
def Lex1 : List (List Nat) := [[], [], [0], [1]]
def Dex2 : List (Option Tmp) := [some 55, some 56, none, none]
def Lex2 : List (List Nat) := [[], [], [0], [1]]
def Dex3 : List (Option Tmp) := [some 55, some 56, none, none]
def Lex3 : List (List Nat) := [[], [], [0], [1]]
def Dex4 : List (Option Tmp) := [some 55, some 56, none, none]
def Lex4 : List (List Nat) := [[], [], [0], [1]]
def Dex5 : List (Option Tmp) := [some 55, some 56, none, none]
def Lex5 : List (List Nat) := [[], [], [0], [1]]
set_option maxRecDepth 100000 in
set_option maxHeartbeats 2000000 in
theorem expected_any (D : Nat → Prop) (a : Option Addr) (c : Nat) (l : List UInt8) (e : Nat) (m : VM) (most : Int) (w : World) (hB : Bs D w a l.length c l) (hl : l.length ≤ 100000000000) (hm : m.k < 256) (hm1 : -9223372036854775808 ≤ most) (hm2 : most ≤ 9223372036854775807) :
    Calls Try.prog 22 #[rdv a l.length c e, m.val, .int .i64 most] w fun x w' => ExpV D w m.k (refVal m.k ⟨l, e⟩ most) x w' := by
  obtain ⟨mk, mu, mn, mb, ms, ma, ml, mc, mz⟩ := m
  simp only [VM.val]
  simp only at hm
  unfold rdv
  have HB := Lib.hid hB
  clear hB
  have h5 : mk % 5 = 0 ∨ mk % 5 = 1 ∨ mk % 5 = 2 ∨ mk % 5 = 3 ∨ mk % 5 = 4 := by omega
  rcases h5 with h0 | h0 | h0 | h0 | h0
  · go_enter Try.func22, Try.ntmps22
    go_wp2_with fail
    obtain ⟨w5, h5⟩ : ∃ w5, w5 = ((((w.alloc (.cells #[.slice a l.length c, .int .i64 (e : Int)] 48)).alloc (.cells #[.int .u8 (mk : Int), .int .u64 (mu : Int), .int .i64 mn, .bool mb, .string ms, .slice ma ml mc] 34)).alloc (.cells #[.slice none 0 0, .int .i64 0] 48)).alloc (.cells #[.int .u8 0, .int .u64 0, .int .i64 0, .bool false, .string ⟨#[]⟩, .slice none 0 0] 34)).alloc (.cells #[.int .u8 (mk : Int), .int .u64 0, .int .i64 0, .bool false, .string ⟨#[]⟩, .slice none 0 0] 34) := ⟨_, rfl⟩
    have hx := ex_mid h5
    rw [← h5]
    have HX := Lib.hid hx
    clear h5 hx
    have hb5 := fail_rds (w2 := w) 0 HB.out.inner HX.out.bel
    have Hv0 : refVal mk ⟨l, e⟩ most = (⟨(rUint ⟨l, e⟩).1, 0, false, [], []⟩, (rUint ⟨l, e⟩).2) := by unfold refVal; rw [if_neg (by omega)]; unfold rVal; rw [if_pos h0]
    have hC := refReadUint_any (fun b => D b ∧ b < w.heap.size) a c l e w5 hb5 (by omega)
    have hval := rUint_val ⟨l, e⟩
    generalize rUint ⟨l, e⟩ = U at *
    obtain ⟨X, S⟩ := U
    simp only at hC Hv0 hval
    have Hv := Lib.hid Hv0
    clear Hv0
    refine (hC).mono ?_
    rintro x w6 ⟨ua, uc, rfl, hB6, hb6⟩
    have G := Lib.hid (HX.out.later hb6)
    have S6 := Lib.hid hB6
    have HB6 := Lib.hid hb6
    clear hB6 hb6 hb5
    unfold rdv
    go_upto_region 12 with (first
      | (refine wpList_store_row rfl 48 (.tmp 3) (.tmp 27) rfl w.heap.size _ rfl rfl 48 _ G.out.g0 (rdsz2 _ _) rfl (rdone _ _ _ _ _) ?_; obtain ⟨w7, hw7⟩ : ∃ w7, w7 = w6.setRow w.heap.size #[.slice ua S.l.length uc, .int .i64 (S.e : Int)] := ⟨_, rfl⟩; rw [← hw7]; have g4 : w7.heap[w.heap.size + 4]? = some (.cells (rcell mk) 34 (0, 0)) := (by rw [hw7]; exact (setRow_other _ _ _ _ (by omega)).trans G.out.g4); have G4 := Lib.hid g4; obtain ⟨k1, k2, k3, k4, k5, kf⟩ := rcell_facts g4; have kj := kf 1; have Hw7 := Lib.hid hw7; clear hw7 g4 kf))
    clear k1 k2 k3 k4 k5 kj
    obtain ⟨q, hq⟩ : ∃ q, q = w7.setCell ⟨w.heap.size + 4, 1, none⟩ (.int .u64 (X : Int)) := ⟨_, rfl⟩
    rw [← hq]
    have Kq : Kept (fun j => w.heap.size ≤ j ∧ j < w.heap.size + 5) w6 q := by rw [hq, Hw7.out]; exact ((Kept.refl (fun j => w.heap.size ≤ j ∧ j < w.heap.size + 5) w6).setRow (fun _ => by omega) _).setCell (p := ⟨w.heap.size + 4, 1, none⟩) (fun _ => ⟨Nat.le_add_right _ _, by simp only; omega⟩) _
    have Q0 : Hid (RdB q w.heap.size ua S.l.length uc S.e) := Lib.hid (by rw [hq]; exact (heap_setCell_other _ _ _ _ (by simp only; omega)).trans (by rw [Hw7.out]; exact setRow_heap _ _ _ _ _ _ G.out.g0))
    have Q4 : Hid (q.heap[w.heap.size + 4]? = some (.cells ((rcell mk).setIfInBounds 1 (.int .u64 (X : Int))) 34 (0, 0))) := Lib.hid (by rw [hq]; exact heap_setCell_same _ _ _ _ _ _ G4.out)
    have Q2 : Hid (q.heap[w.heap.size + 2]? = some (.cells #[.slice none 0 0, .int .i64 0] 48 (0, 0))) := Lib.hid (by rw [hq]; exact (heap_setCell_other _ _ _ _ (by simp only; omega)).trans (by rw [Hw7.out]; exact (setRow_other _ _ _ _ (by omega)).trans G.out.g2))
    have Q3 : Hid (q.heap[w.heap.size + 3]? = some (.cells #[.int .u8 0, .int .u64 0, .int .i64 0, .bool false, .string ⟨#[]⟩, .slice none 0 0] 34 (0, 0))) := Lib.hid (by rw [hq]; exact (heap_setCell_other _ _ _ _ (by simp only; omega)).trans (by rw [Hw7.out]; exact (setRow_other _ _ _ _ (by omega)).trans G.out.g3))
    have HfrH : Hid (Bs (fun b => D b ∧ b < w.heap.size) q ua S.l.length uc S.l) := Lib.hid (S6.out.kept Kq (fun b hb hd e => by have := hd.2; omega))
    have HqB : Hid (Below w.heap.size w q) := Lib.hid (below_kept G.out.bel (Nat.le_refl _) (Kq.mono (fun j _ h => h.1)))
    have HKq := Lib.hid Kq
    have HQ := Lib.hid hq
    clear Kq hq G4 Hw7
    refine Roll.region_f 3 57 Dex1 Lex1 [(3, .pointer (some ⟨w.heap.size, 0, none⟩)), (6, .pointer (some ⟨w.heap.size + 2, 0, none⟩)), (7, .pointer (some ⟨w.heap.size + 3, 0, none⟩)), (8, .pointer (some ⟨w.heap.size + 4, 0, none⟩))] (fun p => Kept (fun j => j = w.heap.size + 2) q p ∧ ∃ x y, p.heap[w.heap.size + 2]? = some (.cells #[x, y] 48 (0, 0))) (fun p p' => Kept (fun j => j = w.heap.size + 2) p p' ∧ (p.heap[w.heap.size + 2]? = some (.cells #[.slice ua S.l.length uc, .int .i64 (S.e : Int)] 48 (0, 0)) → p'.heap[w.heap.size + 2]? = some (.cells #[.slice ua S.l.length uc, .int .i64 (S.e : Int)] 48 (0, 0)))) [fun vv p => vv = .agg #[.slice ua S.l.length uc, .int .i64 (S.e : Int)], fun vv p => vv = .agg ((rcell mk).setIfInBounds 1 (.int .u64 (X : Int))), fun vv p => p.heap[w.heap.size + 2]? = some (.cells #[.slice ua S.l.length uc, .int .i64 (S.e : Int)] 48 (0, 0))] (by kernel_rfl) (by kernel_rfl) rfl ⟨rfl, rfl, rfl, rfl, trivial⟩ (⟨(Kept.refl _ _).drew, _, _, Q2.out⟩) ?_ ?_ ?_
    · exact ⟨fun _ _ _ _ h => h, fun _ _ _ _ h => h, fun v p p' hb h => hb.2 h, trivial⟩
    · intro b0 hN hlv
      refine ⟨?_, ?_, ?_, trivial⟩
      · intro vals p hI hp
        have e3 : (Roll.putD Dex1 vals [] b0).eval (.tmp 3) = .pointer (some ⟨w.heap.size, 0, none⟩) := (Roll.eval_old rfl).trans (hlv.at 0 (3, .pointer (some ⟨w.heap.size, 0, none⟩)) rfl)
        clear hp hlv hN
        unfold Roll.Goes
        simp only [Lex1, List.getD_cons_zero, List.getD_cons_succ]
        generalize Roll.putD Dex1 vals [] b0 = a1 at *
        exact Roll.goes_load_row rfl 48 (.tmp 3) rfl w.heap.size e3 48 #[.slice ua S.l.length uc, .int .i64 (S.e : Int)] (0, 0) _ (hI.1.heap Q0.out (by omega)) Try.underlying48 rfl (rdsz2 _ _) ⟨hI, ⟨Kept.refl _ _, id⟩, rfl⟩
      · intro vals p hI hp
        have e8 : (Roll.putD Dex1 vals [] b0).eval (.tmp 8) = .pointer (some ⟨w.heap.size + 4, 0, none⟩) := (Roll.eval_old rfl).trans (hlv.at 3 (8, .pointer (some ⟨w.heap.size + 4, 0, none⟩)) rfl)
        clear hp hlv hN
        unfold Roll.Goes
        simp only [Lex1, List.getD_cons_zero, List.getD_cons_succ]
        generalize Roll.putD Dex1 vals [] b0 = a1 at *
        exact Roll.goes_load_row rfl 34 (.tmp 8) rfl (w.heap.size + 4) e8 34 ((rcell mk).setIfInBounds 1 (.int .u64 (X : Int))) (0, 0) _ (hI.1.heap Q4.out (by omega)) Try.underlying34 rfl (rset_size _ _ _) ⟨hI, ⟨Kept.refl _ _, id⟩, rfl⟩
      · intro vals p hI hp
        have h0 : (vals 0) = .agg #[.slice ua S.l.length uc, .int .i64 (S.e : Int)] := hp 0 (by simp [Lex1])
        have e6 : (Roll.putD Dex1 vals [0] b0).eval (.tmp 6) = .pointer (some ⟨w.heap.size + 2, 0, none⟩) := (Roll.eval_old rfl).trans (hlv.at 1 (6, .pointer (some ⟨w.heap.size + 2, 0, none⟩)) rfl)
        have e55 : (Roll.putD Dex1 vals [0] b0).eval (.tmp 55) = .agg #[.slice ua S.l.length uc, .int .i64 (S.e : Int)] := (Roll.eval_new 0 rfl (by decide) (by decide) (by omega)).trans h0
        clear hp hlv hN
        unfold Roll.Goes
        simp only [Lex1, List.getD_cons_zero, List.getD_cons_succ]
        generalize Roll.putD Dex1 vals [0] b0 = a1 at *
        obtain ⟨hI1, x1, y1, hold⟩ := hI
        exact Roll.goes_store_row rfl 48 (.tmp 6) (.tmp 55) rfl (w.heap.size + 2) #[.slice ua S.l.length uc, .int .i64 (S.e : Int)] e6 e55 48 #[x1, y1] hold (rdsz2 _ _) rfl (rdone _ _ _ _ _) ⟨⟨hI1.setRow (fun _ => rfl) _, _, _, setRow_heap _ _ _ _ _ _ hold⟩, ⟨(Kept.refl (fun j => j = w.heap.size + 2) p).setRow (fun _ => rfl) _, fun _ => setRow_heap _ _ _ _ _ _ hold⟩, setRow_heap _ _ _ _ _ _ hold⟩
    · intro vals p hI hR
      have h0 : (vals 0) = .agg #[.slice ua S.l.length uc, .int .i64 (S.e : Int)] := hR 0 (by omega)
      have h1 : (vals 1) = .agg ((rcell mk).setIfInBounds 1 (.int .u64 (X : Int))) := hR 1 (by omega)
      have h2 : p.heap[w.heap.size + 2]? = some (.cells #[.slice ua S.l.length uc, .int .i64 (S.e : Int)] 48 (0, 0)) := hR 2 (by omega)
      clear hR
      simp only [List.range_succ, List.range_zero, List.nil_append, List.cons_append, Roll.putD, Act.put, List.getD_cons_zero, List.getD_cons_succ, List.setIfInBounds_toArray, List.set_cons_zero, List.set_cons_succ, List.drop_succ_cons, List.drop_zero, Dex1]
      simp only [h0, h1]
      clear h0 h1
      have P3 := Lib.hid (hI.1.heap Q3.out (by omega))
      have H2 := Lib.hid h2
      have HI := Lib.hid hI.1
      clear h2 hI
      go_wp2_with (refine wpList_store_row rfl 34 (.tmp 7) (.tmp 56) rfl (w.heap.size + 3) _ rfl rfl 34 _ P3.out (rset_size _ _ _) (by rw [Array.size_setIfInBounds]; rfl) (rset_one _ _ _ rfl) ?_)
      refine bodyPost_ret (v := .tuple #[.agg #[.slice ua S.l.length uc, .int .i64 (S.e : Int)], .agg ((rcell mk).setIfInBounds 1 (.int .u64 (X : Int)))]) (results_row_row rfl _ _ (w.heap.size + 2) 48 #[.slice ua S.l.length uc, .int .i64 (S.e : Int)] (0, 0) _ rfl ((setRow_other _ _ _ _ (by omega)).trans H2.out) Try.underlying48 rfl rdsz (w.heap.size + 3) 34 ((rcell mk).setIfInBounds 1 (.int .u64 (X : Int))) (0, 0) _ rfl (setRow_heap _ _ _ _ _ _ P3.out) Try.underlying34 rfl (rset_size _ _ _)) rfl ?_
      show ExpV D w mk (refVal mk ⟨l, e⟩ most) _ _
      rw [Hv.out]
      have K : Kept (fun j => w.heap.size ≤ j ∧ j < w.heap.size + 5) q (p.setRow (w.heap.size + 3) ((rcell mk).setIfInBounds 1 (.int .u64 (X : Int)))) := (HI.out.mono (T := fun j => w.heap.size ≤ j ∧ j < w.heap.size + 5) (fun j _ h => by omega)).setRow (fun _ => by omega) _
      have K2 : Kept (fun j => w.heap.size ≤ j) q (p.setRow (w.heap.size + 3) ((rcell mk).setIfInBounds 1 (.int .u64 (X : Int)))) := K.mono (fun j _ h => h.1)
      exact ⟨ua, uc, ⟨mk, X, 0, false, ⟨#[]⟩, none, 0, 0, []⟩, rfl, (HfrH.out).later K2, rfl, rfl, rOk_nil _ _ mk hm X hval 0 (by omega) (by omega) false ⟨#[]⟩ (Nat.zero_le _), below_kept HqB.out (Nat.le_refl _) K2⟩
  · go_enter Try.func22, Try.ntmps22
    go_wp2_with fail
    obtain ⟨w5, h5⟩ : ∃ w5, w5 = ((((w.alloc (.cells #[.slice a l.length c, .int .i64 (e : Int)] 48)).alloc (.cells #[.int .u8 (mk : Int), .int .u64 (mu : Int), .int .i64 mn, .bool mb, .string ms, .slice ma ml mc] 34)).alloc (.cells #[.slice none 0 0, .int .i64 0] 48)).alloc (.cells #[.int .u8 0, .int .u64 0, .int .i64 0, .bool false, .string ⟨#[]⟩, .slice none 0 0] 34)).alloc (.cells #[.int .u8 (mk : Int), .int .u64 0, .int .i64 0, .bool false, .string ⟨#[]⟩, .slice none 0 0] 34) := ⟨_, rfl⟩
    have hx := ex_mid h5
    rw [← h5]
    have HX := Lib.hid hx
    clear h5 hx
    have hb5 := fail_rds (w2 := w) 0 HB.out.inner HX.out.bel
    have Hv0 : refVal mk ⟨l, e⟩ most = (⟨0, (rInt ⟨l, e⟩).1, false, [], []⟩, (rInt ⟨l, e⟩).2) := by unfold refVal; rw [if_neg (by omega)]; unfold rVal; rw [if_neg (by omega), if_pos h0]
    have hC := refReadInt_any (fun b => D b ∧ b < w.heap.size) a c l e w5 hb5 (by omega)
    have hval := rInt_bd ⟨l, e⟩
    generalize rInt ⟨l, e⟩ = U at *
    obtain ⟨X, S⟩ := U
    simp only at hC Hv0 hval
    have Hv := Lib.hid Hv0
    clear Hv0
    refine (hC).mono ?_
    rintro x w6 ⟨ua, uc, rfl, hB6, hb6⟩
    have G := Lib.hid (HX.out.later hb6)
    have S6 := Lib.hid hB6
    have HB6 := Lib.hid hb6
    clear hB6 hb6 hb5
    unfold rdv
    go_upto_region 12 with (first
      | (refine wpList_store_row rfl 48 (.tmp 3) (.tmp 35) rfl w.heap.size _ rfl rfl 48 _ G.out.g0 (rdsz2 _ _) rfl (rdone _ _ _ _ _) ?_; obtain ⟨w7, hw7⟩ : ∃ w7, w7 = w6.setRow w.heap.size #[.slice ua S.l.length uc, .int .i64 (S.e : Int)] := ⟨_, rfl⟩; rw [← hw7]; have g4 : w7.heap[w.heap.size + 4]? = some (.cells (rcell mk) 34 (0, 0)) := (by rw [hw7]; exact (setRow_other _ _ _ _ (by omega)).trans G.out.g4); have G4 := Lib.hid g4; obtain ⟨k1, k2, k3, k4, k5, kf⟩ := rcell_facts g4; have kj := kf 2; have Hw7 := Lib.hid hw7; clear hw7 g4 kf))
    clear k1 k2 k3 k4 k5 kj
    obtain ⟨q, hq⟩ : ∃ q, q = w7.setCell ⟨w.heap.size + 4, 2, none⟩ (.int .i64 X) := ⟨_, rfl⟩
    rw [← hq]
    have Kq : Kept (fun j => w.heap.size ≤ j ∧ j < w.heap.size + 5) w6 q := by rw [hq, Hw7.out]; exact ((Kept.refl (fun j => w.heap.size ≤ j ∧ j < w.heap.size + 5) w6).setRow (fun _ => by omega) _).setCell (p := ⟨w.heap.size + 4, 2, none⟩) (fun _ => ⟨Nat.le_add_right _ _, by simp only; omega⟩) _
    have Q0 : Hid (RdB q w.heap.size ua S.l.length uc S.e) := Lib.hid (by rw [hq]; exact (heap_setCell_other _ _ _ _ (by simp only; omega)).trans (by rw [Hw7.out]; exact setRow_heap _ _ _ _ _ _ G.out.g0))
    have Q4 : Hid (q.heap[w.heap.size + 4]? = some (.cells ((rcell mk).setIfInBounds 2 (.int .i64 X)) 34 (0, 0))) := Lib.hid (by rw [hq]; exact heap_setCell_same _ _ _ _ _ _ G4.out)
    have Q2 : Hid (q.heap[w.heap.size + 2]? = some (.cells #[.slice none 0 0, .int .i64 0] 48 (0, 0))) := Lib.hid (by rw [hq]; exact (heap_setCell_other _ _ _ _ (by simp only; omega)).trans (by rw [Hw7.out]; exact (setRow_other _ _ _ _ (by omega)).trans G.out.g2))
    have Q3 : Hid (q.heap[w.heap.size + 3]? = some (.cells #[.int .u8 0, .int .u64 0, .int .i64 0, .bool false, .string ⟨#[]⟩, .slice none 0 0] 34 (0, 0))) := Lib.hid (by rw [hq]; exact (heap_setCell_other _ _ _ _ (by simp only; omega)).trans (by rw [Hw7.out]; exact (setRow_other _ _ _ _ (by omega)).trans G.out.g3))
    have HfrH : Hid (Bs (fun b => D b ∧ b < w.heap.size) q ua S.l.length uc S.l) := Lib.hid (S6.out.kept Kq (fun b hb hd e => by have := hd.2; omega))
    have HqB : Hid (Below w.heap.size w q) := Lib.hid (below_kept G.out.bel (Nat.le_refl _) (Kq.mono (fun j _ h => h.1)))
    have HKq := Lib.hid Kq
    have HQ := Lib.hid hq
    clear Kq hq G4 Hw7
    refine Roll.region_f 3 57 Dex2 Lex2 [(3, .pointer (some ⟨w.heap.size, 0, none⟩)), (6, .pointer (some ⟨w.heap.size + 2, 0, none⟩)), (7, .pointer (some ⟨w.heap.size + 3, 0, none⟩)), (8, .pointer (some ⟨w.heap.size + 4, 0, none⟩))] (fun p => Kept (fun j => j = w.heap.size + 2) q p ∧ ∃ x y, p.heap[w.heap.size + 2]? = some (.cells #[x, y] 48 (0, 0))) (fun p p' => Kept (fun j => j = w.heap.size + 2) p p' ∧ (p.heap[w.heap.size + 2]? = some (.cells #[.slice ua S.l.length uc, .int .i64 (S.e : Int)] 48 (0, 0)) → p'.heap[w.heap.size + 2]? = some (.cells #[.slice ua S.l.length uc, .int .i64 (S.e : Int)] 48 (0, 0)))) [fun vv p => vv = .agg #[.slice ua S.l.length uc, .int .i64 (S.e : Int)], fun vv p => vv = .agg ((rcell mk).setIfInBounds 2 (.int .i64 X)), fun vv p => p.heap[w.heap.size + 2]? = some (.cells #[.slice ua S.l.length uc, .int .i64 (S.e : Int)] 48 (0, 0))] (by kernel_rfl) (by kernel_rfl) rfl ⟨rfl, rfl, rfl, rfl, trivial⟩ (⟨(Kept.refl _ _).drew, _, _, Q2.out⟩) ?_ ?_ ?_
    · exact ⟨fun _ _ _ _ h => h, fun _ _ _ _ h => h, fun v p p' hb h => hb.2 h, trivial⟩
    · intro b0 hN hlv
      refine ⟨?_, ?_, ?_, trivial⟩
      · intro vals p hI hp
        have e3 : (Roll.putD Dex2 vals [] b0).eval (.tmp 3) = .pointer (some ⟨w.heap.size, 0, none⟩) := (Roll.eval_old rfl).trans (hlv.at 0 (3, .pointer (some ⟨w.heap.size, 0, none⟩)) rfl)
        clear hp hlv hN
        unfold Roll.Goes
        simp only [Lex2, List.getD_cons_zero, List.getD_cons_succ]
        generalize Roll.putD Dex2 vals [] b0 = a1 at *
        exact Roll.goes_load_row rfl 48 (.tmp 3) rfl w.heap.size e3 48 #[.slice ua S.l.length uc, .int .i64 (S.e : Int)] (0, 0) _ (hI.1.heap Q0.out (by omega)) Try.underlying48 rfl (rdsz2 _ _) ⟨hI, ⟨Kept.refl _ _, id⟩, rfl⟩
      · intro vals p hI hp
        have e8 : (Roll.putD Dex2 vals [] b0).eval (.tmp 8) = .pointer (some ⟨w.heap.size + 4, 0, none⟩) := (Roll.eval_old rfl).trans (hlv.at 3 (8, .pointer (some ⟨w.heap.size + 4, 0, none⟩)) rfl)
        clear hp hlv hN
        unfold Roll.Goes
        simp only [Lex2, List.getD_cons_zero, List.getD_cons_succ]
        generalize Roll.putD Dex2 vals [] b0 = a1 at *
        exact Roll.goes_load_row rfl 34 (.tmp 8) rfl (w.heap.size + 4) e8 34 ((rcell mk).setIfInBounds 2 (.int .i64 X)) (0, 0) _ (hI.1.heap Q4.out (by omega)) Try.underlying34 rfl (rset_size _ _ _) ⟨hI, ⟨Kept.refl _ _, id⟩, rfl⟩
      · intro vals p hI hp
        have h0 : (vals 0) = .agg #[.slice ua S.l.length uc, .int .i64 (S.e : Int)] := hp 0 (by simp [Lex2])
        have e6 : (Roll.putD Dex2 vals [0] b0).eval (.tmp 6) = .pointer (some ⟨w.heap.size + 2, 0, none⟩) := (Roll.eval_old rfl).trans (hlv.at 1 (6, .pointer (some ⟨w.heap.size + 2, 0, none⟩)) rfl)
        have e55 : (Roll.putD Dex2 vals [0] b0).eval (.tmp 55) = .agg #[.slice ua S.l.length uc, .int .i64 (S.e : Int)] := (Roll.eval_new 0 rfl (by decide) (by decide) (by omega)).trans h0
        clear hp hlv hN
        unfold Roll.Goes
        simp only [Lex2, List.getD_cons_zero, List.getD_cons_succ]
        generalize Roll.putD Dex2 vals [0] b0 = a1 at *
        obtain ⟨hI1, x1, y1, hold⟩ := hI
        exact Roll.goes_store_row rfl 48 (.tmp 6) (.tmp 55) rfl (w.heap.size + 2) #[.slice ua S.l.length uc, .int .i64 (S.e : Int)] e6 e55 48 #[x1, y1] hold (rdsz2 _ _) rfl (rdone _ _ _ _ _) ⟨⟨hI1.setRow (fun _ => rfl) _, _, _, setRow_heap _ _ _ _ _ _ hold⟩, ⟨(Kept.refl (fun j => j = w.heap.size + 2) p).setRow (fun _ => rfl) _, fun _ => setRow_heap _ _ _ _ _ _ hold⟩, setRow_heap _ _ _ _ _ _ hold⟩
    · intro vals p hI hR
      have h0 : (vals 0) = .agg #[.slice ua S.l.length uc, .int .i64 (S.e : Int)] := hR 0 (by omega)
      have h1 : (vals 1) = .agg ((rcell mk).setIfInBounds 2 (.int .i64 X)) := hR 1 (by omega)
      have h2 : p.heap[w.heap.size + 2]? = some (.cells #[.slice ua S.l.length uc, .int .i64 (S.e : Int)] 48 (0, 0)) := hR 2 (by omega)
      clear hR
      simp only [List.range_succ, List.range_zero, List.nil_append, List.cons_append, Roll.putD, Act.put, List.getD_cons_zero, List.getD_cons_succ, List.setIfInBounds_toArray, List.set_cons_zero, List.set_cons_succ, List.drop_succ_cons, List.drop_zero, Dex2]
      simp only [h0, h1]
      clear h0 h1
      have P3 := Lib.hid (hI.1.heap Q3.out (by omega))
      have H2 := Lib.hid h2
      have HI := Lib.hid hI.1
      clear h2 hI
      go_wp2_with (refine wpList_store_row rfl 34 (.tmp 7) (.tmp 56) rfl (w.heap.size + 3) _ rfl rfl 34 _ P3.out (rset_size _ _ _) (by rw [Array.size_setIfInBounds]; rfl) (rset_one _ _ _ rfl) ?_)
      refine bodyPost_ret (v := .tuple #[.agg #[.slice ua S.l.length uc, .int .i64 (S.e : Int)], .agg ((rcell mk).setIfInBounds 2 (.int .i64 X))]) (results_row_row rfl _ _ (w.heap.size + 2) 48 #[.slice ua S.l.length uc, .int .i64 (S.e : Int)] (0, 0) _ rfl ((setRow_other _ _ _ _ (by omega)).trans H2.out) Try.underlying48 rfl rdsz (w.heap.size + 3) 34 ((rcell mk).setIfInBounds 2 (.int .i64 X)) (0, 0) _ rfl (setRow_heap _ _ _ _ _ _ P3.out) Try.underlying34 rfl (rset_size _ _ _)) rfl ?_
      show ExpV D w mk (refVal mk ⟨l, e⟩ most) _ _
      rw [Hv.out]
      have K : Kept (fun j => w.heap.size ≤ j ∧ j < w.heap.size + 5) q (p.setRow (w.heap.size + 3) ((rcell mk).setIfInBounds 2 (.int .i64 X))) := (HI.out.mono (T := fun j => w.heap.size ≤ j ∧ j < w.heap.size + 5) (fun j _ h => by omega)).setRow (fun _ => by omega) _
      have K2 : Kept (fun j => w.heap.size ≤ j) q (p.setRow (w.heap.size + 3) ((rcell mk).setIfInBounds 2 (.int .i64 X))) := K.mono (fun j _ h => h.1)
      exact ⟨ua, uc, ⟨mk, 0, X, false, ⟨#[]⟩, none, 0, 0, []⟩, rfl, (HfrH.out).later K2, rfl, rfl, rOk_nil _ _ mk hm 0 (by omega) X hval.1 hval.2 false ⟨#[]⟩ (Nat.zero_le _), below_kept HqB.out (Nat.le_refl _) K2⟩
  · go_enter Try.func22, Try.ntmps22
    go_wp2_with fail
    obtain ⟨w5, h5⟩ : ∃ w5, w5 = ((((w.alloc (.cells #[.slice a l.length c, .int .i64 (e : Int)] 48)).alloc (.cells #[.int .u8 (mk : Int), .int .u64 (mu : Int), .int .i64 mn, .bool mb, .string ms, .slice ma ml mc] 34)).alloc (.cells #[.slice none 0 0, .int .i64 0] 48)).alloc (.cells #[.int .u8 0, .int .u64 0, .int .i64 0, .bool false, .string ⟨#[]⟩, .slice none 0 0] 34)).alloc (.cells #[.int .u8 (mk : Int), .int .u64 0, .int .i64 0, .bool false, .string ⟨#[]⟩, .slice none 0 0] 34) := ⟨_, rfl⟩
    have hx := ex_mid h5
    rw [← h5]
    have HX := Lib.hid hx
    clear h5 hx
    have hb5 := fail_rds (w2 := w) 0 HB.out.inner HX.out.bel
    have Hv0 : refVal mk ⟨l, e⟩ most = (⟨0, 0, (refBool ⟨l, e⟩).1, [], []⟩, (refBool ⟨l, e⟩).2) := by unfold refVal; rw [if_pos h0]
    have hC := refReadBool_any (fun b => D b ∧ b < w.heap.size) a c l e w5 hb5 (by omega)
    generalize refBool ⟨l, e⟩ = U at *
    obtain ⟨X, S⟩ := U
    simp only at hC Hv0
    have Hv := Lib.hid Hv0
    clear Hv0
    refine (hC).mono ?_
    rintro x w6 ⟨ua, uc, rfl, hB6, hb6⟩
    have G := Lib.hid (HX.out.later hb6)
    have S6 := Lib.hid hB6
    have HB6 := Lib.hid hb6
    clear hB6 hb6 hb5
    unfold rdv
    go_upto_region 12 with (first
      | (refine wpList_store_row rfl 48 (.tmp 3) (.tmp 43) rfl w.heap.size _ rfl rfl 48 _ G.out.g0 (rdsz2 _ _) rfl (rdone _ _ _ _ _) ?_; obtain ⟨w7, hw7⟩ : ∃ w7, w7 = w6.setRow w.heap.size #[.slice ua S.l.length uc, .int .i64 (S.e : Int)] := ⟨_, rfl⟩; rw [← hw7]; have g4 : w7.heap[w.heap.size + 4]? = some (.cells (rcell mk) 34 (0, 0)) := (by rw [hw7]; exact (setRow_other _ _ _ _ (by omega)).trans G.out.g4); have G4 := Lib.hid g4; obtain ⟨k1, k2, k3, k4, k5, kf⟩ := rcell_facts g4; have kj := kf 3; have Hw7 := Lib.hid hw7; clear hw7 g4 kf))
    clear k1 k2 k3 k4 k5 kj
    obtain ⟨q, hq⟩ : ∃ q, q = w7.setCell ⟨w.heap.size + 4, 3, none⟩ (.bool X) := ⟨_, rfl⟩
    rw [← hq]
    have Kq : Kept (fun j => w.heap.size ≤ j ∧ j < w.heap.size + 5) w6 q := by rw [hq, Hw7.out]; exact ((Kept.refl (fun j => w.heap.size ≤ j ∧ j < w.heap.size + 5) w6).setRow (fun _ => by omega) _).setCell (p := ⟨w.heap.size + 4, 3, none⟩) (fun _ => ⟨Nat.le_add_right _ _, by simp only; omega⟩) _
    have Q0 : Hid (RdB q w.heap.size ua S.l.length uc S.e) := Lib.hid (by rw [hq]; exact (heap_setCell_other _ _ _ _ (by simp only; omega)).trans (by rw [Hw7.out]; exact setRow_heap _ _ _ _ _ _ G.out.g0))
    have Q4 : Hid (q.heap[w.heap.size + 4]? = some (.cells ((rcell mk).setIfInBounds 3 (.bool X)) 34 (0, 0))) := Lib.hid (by rw [hq]; exact heap_setCell_same _ _ _ _ _ _ G4.out)
    have Q2 : Hid (q.heap[w.heap.size + 2]? = some (.cells #[.slice none 0 0, .int .i64 0] 48 (0, 0))) := Lib.hid (by rw [hq]; exact (heap_setCell_other _ _ _ _ (by simp only; omega)).trans (by rw [Hw7.out]; exact (setRow_other _ _ _ _ (by omega)).trans G.out.g2))
    have Q3 : Hid (q.heap[w.heap.size + 3]? = some (.cells #[.int .u8 0, .int .u64 0, .int .i64 0, .bool false, .string ⟨#[]⟩, .slice none 0 0] 34 (0, 0))) := Lib.hid (by rw [hq]; exact (heap_setCell_other _ _ _ _ (by simp only; omega)).trans (by rw [Hw7.out]; exact (setRow_other _ _ _ _ (by omega)).trans G.out.g3))
    have HfrH : Hid (Bs (fun b => D b ∧ b < w.heap.size) q ua S.l.length uc S.l) := Lib.hid (S6.out.kept Kq (fun b hb hd e => by have := hd.2; omega))
    have HqB : Hid (Below w.heap.size w q) := Lib.hid (below_kept G.out.bel (Nat.le_refl _) (Kq.mono (fun j _ h => h.1)))
    have HKq := Lib.hid Kq
    have HQ := Lib.hid hq
    clear Kq hq G4 Hw7
    refine Roll.region_f 3 57 Dex3 Lex3 [(3, .pointer (some ⟨w.heap.size, 0, none⟩)), (6, .pointer (some ⟨w.heap.size + 2, 0, none⟩)), (7, .pointer (some ⟨w.heap.size + 3, 0, none⟩)), (8, .pointer (some ⟨w.heap.size + 4, 0, none⟩))] (fun p => Kept (fun j => j = w.heap.size + 2) q p ∧ ∃ x y, p.heap[w.heap.size + 2]? = some (.cells #[x, y] 48 (0, 0))) (fun p p' => Kept (fun j => j = w.heap.size + 2) p p' ∧ (p.heap[w.heap.size + 2]? = some (.cells #[.slice ua S.l.length uc, .int .i64 (S.e : Int)] 48 (0, 0)) → p'.heap[w.heap.size + 2]? = some (.cells #[.slice ua S.l.length uc, .int .i64 (S.e : Int)] 48 (0, 0)))) [fun vv p => vv = .agg #[.slice ua S.l.length uc, .int .i64 (S.e : Int)], fun vv p => vv = .agg ((rcell mk).setIfInBounds 3 (.bool X)), fun vv p => p.heap[w.heap.size + 2]? = some (.cells #[.slice ua S.l.length uc, .int .i64 (S.e : Int)] 48 (0, 0))] (by kernel_rfl) (by kernel_rfl) rfl ⟨rfl, rfl, rfl, rfl, trivial⟩ (⟨(Kept.refl _ _).drew, _, _, Q2.out⟩) ?_ ?_ ?_
    · exact ⟨fun _ _ _ _ h => h, fun _ _ _ _ h => h, fun v p p' hb h => hb.2 h, trivial⟩
    · intro b0 hN hlv
      refine ⟨?_, ?_, ?_, trivial⟩
      · intro vals p hI hp
        have e3 : (Roll.putD Dex3 vals [] b0).eval (.tmp 3) = .pointer (some ⟨w.heap.size, 0, none⟩) := (Roll.eval_old rfl).trans (hlv.at 0 (3, .pointer (some ⟨w.heap.size, 0, none⟩)) rfl)
        clear hp hlv hN
        unfold Roll.Goes
        simp only [Lex3, List.getD_cons_zero, List.getD_cons_succ]
        generalize Roll.putD Dex3 vals [] b0 = a1 at *
        exact Roll.goes_load_row rfl 48 (.tmp 3) rfl w.heap.size e3 48 #[.slice ua S.l.length uc, .int .i64 (S.e : Int)] (0, 0) _ (hI.1.heap Q0.out (by omega)) Try.underlying48 rfl (rdsz2 _ _) ⟨hI, ⟨Kept.refl _ _, id⟩, rfl⟩
      · intro vals p hI hp
        have e8 : (Roll.putD Dex3 vals [] b0).eval (.tmp 8) = .pointer (some ⟨w.heap.size + 4, 0, none⟩) := (Roll.eval_old rfl).trans (hlv.at 3 (8, .pointer (some ⟨w.heap.size + 4, 0, none⟩)) rfl)
        clear hp hlv hN
        unfold Roll.Goes
        simp only [Lex3, List.getD_cons_zero, List.getD_cons_succ]
        generalize Roll.putD Dex3 vals [] b0 = a1 at *
        exact Roll.goes_load_row rfl 34 (.tmp 8) rfl (w.heap.size + 4) e8 34 ((rcell mk).setIfInBounds 3 (.bool X)) (0, 0) _ (hI.1.heap Q4.out (by omega)) Try.underlying34 rfl (rset_size _ _ _) ⟨hI, ⟨Kept.refl _ _, id⟩, rfl⟩
      · intro vals p hI hp
        have h0 : (vals 0) = .agg #[.slice ua S.l.length uc, .int .i64 (S.e : Int)] := hp 0 (by simp [Lex3])
        have e6 : (Roll.putD Dex3 vals [0] b0).eval (.tmp 6) = .pointer (some ⟨w.heap.size + 2, 0, none⟩) := (Roll.eval_old rfl).trans (hlv.at 1 (6, .pointer (some ⟨w.heap.size + 2, 0, none⟩)) rfl)
        have e55 : (Roll.putD Dex3 vals [0] b0).eval (.tmp 55) = .agg #[.slice ua S.l.length uc, .int .i64 (S.e : Int)] := (Roll.eval_new 0 rfl (by decide) (by decide) (by omega)).trans h0
        clear hp hlv hN
        unfold Roll.Goes
        simp only [Lex3, List.getD_cons_zero, List.getD_cons_succ]
        generalize Roll.putD Dex3 vals [0] b0 = a1 at *
        obtain ⟨hI1, x1, y1, hold⟩ := hI
        exact Roll.goes_store_row rfl 48 (.tmp 6) (.tmp 55) rfl (w.heap.size + 2) #[.slice ua S.l.length uc, .int .i64 (S.e : Int)] e6 e55 48 #[x1, y1] hold (rdsz2 _ _) rfl (rdone _ _ _ _ _) ⟨⟨hI1.setRow (fun _ => rfl) _, _, _, setRow_heap _ _ _ _ _ _ hold⟩, ⟨(Kept.refl (fun j => j = w.heap.size + 2) p).setRow (fun _ => rfl) _, fun _ => setRow_heap _ _ _ _ _ _ hold⟩, setRow_heap _ _ _ _ _ _ hold⟩
    · intro vals p hI hR
      have h0 : (vals 0) = .agg #[.slice ua S.l.length uc, .int .i64 (S.e : Int)] := hR 0 (by omega)
      have h1 : (vals 1) = .agg ((rcell mk).setIfInBounds 3 (.bool X)) := hR 1 (by omega)
      have h2 : p.heap[w.heap.size + 2]? = some (.cells #[.slice ua S.l.length uc, .int .i64 (S.e : Int)] 48 (0, 0)) := hR 2 (by omega)
      clear hR
      simp only [List.range_succ, List.range_zero, List.nil_append, List.cons_append, Roll.putD, Act.put, List.getD_cons_zero, List.getD_cons_succ, List.setIfInBounds_toArray, List.set_cons_zero, List.set_cons_succ, List.drop_succ_cons, List.drop_zero, Dex3]
      simp only [h0, h1]
      clear h0 h1
      have P3 := Lib.hid (hI.1.heap Q3.out (by omega))
      have H2 := Lib.hid h2
      have HI := Lib.hid hI.1
      clear h2 hI
      go_wp2_with (refine wpList_store_row rfl 34 (.tmp 7) (.tmp 56) rfl (w.heap.size + 3) _ rfl rfl 34 _ P3.out (rset_size _ _ _) (by rw [Array.size_setIfInBounds]; rfl) (rset_one _ _ _ rfl) ?_)
      refine bodyPost_ret (v := .tuple #[.agg #[.slice ua S.l.length uc, .int .i64 (S.e : Int)], .agg ((rcell mk).setIfInBounds 3 (.bool X))]) (results_row_row rfl _ _ (w.heap.size + 2) 48 #[.slice ua S.l.length uc, .int .i64 (S.e : Int)] (0, 0) _ rfl ((setRow_other _ _ _ _ (by omega)).trans H2.out) Try.underlying48 rfl rdsz (w.heap.size + 3) 34 ((rcell mk).setIfInBounds 3 (.bool X)) (0, 0) _ rfl (setRow_heap _ _ _ _ _ _ P3.out) Try.underlying34 rfl (rset_size _ _ _)) rfl ?_
      show ExpV D w mk (refVal mk ⟨l, e⟩ most) _ _
      rw [Hv.out]
      have K : Kept (fun j => w.heap.size ≤ j ∧ j < w.heap.size + 5) q (p.setRow (w.heap.size + 3) ((rcell mk).setIfInBounds 3 (.bool X))) := (HI.out.mono (T := fun j => w.heap.size ≤ j ∧ j < w.heap.size + 5) (fun j _ h => by omega)).setRow (fun _ => by omega) _
      have K2 : Kept (fun j => w.heap.size ≤ j) q (p.setRow (w.heap.size + 3) ((rcell mk).setIfInBounds 3 (.bool X))) := K.mono (fun j _ h => h.1)
      exact ⟨ua, uc, ⟨mk, 0, 0, X, ⟨#[]⟩, none, 0, 0, []⟩, rfl, (HfrH.out).later K2, rfl, rfl, rOk_nil _ _ mk hm 0 (by omega) 0 (by omega) (by omega) X ⟨#[]⟩ (Nat.zero_le _), below_kept HqB.out (Nat.le_refl _) K2⟩
  · go_enter Try.func22, Try.ntmps22
    go_wp2_with fail
    obtain ⟨w5, h5⟩ : ∃ w5, w5 = ((((w.alloc (.cells #[.slice a l.length c, .int .i64 (e : Int)] 48)).alloc (.cells #[.int .u8 (mk : Int), .int .u64 (mu : Int), .int .i64 mn, .bool mb, .string ms, .slice ma ml mc] 34)).alloc (.cells #[.slice none 0 0, .int .i64 0] 48)).alloc (.cells #[.int .u8 0, .int .u64 0, .int .i64 0, .bool false, .string ⟨#[]⟩, .slice none 0 0] 34)).alloc (.cells #[.int .u8 (mk : Int), .int .u64 0, .int .i64 0, .bool false, .string ⟨#[]⟩, .slice none 0 0] 34) := ⟨_, rfl⟩
    have hx := ex_mid h5
    rw [← h5]
    have HX := Lib.hid hx
    clear h5 hx
    have hb5 := fail_rds (w2 := w) 0 HB.out.inner HX.out.bel
    have Hv0 : refVal mk ⟨l, e⟩ most = (⟨0, 0, false, (rText ⟨l, e⟩ most).1, []⟩, (rText ⟨l, e⟩ most).2) := by unfold refVal; rw [if_neg (by omega)]; unfold rVal; rw [if_neg (by omega), if_neg (by omega), if_neg (by omega), if_pos h0]
    have hC := refReadText_any (fun b => D b ∧ b < w.heap.size) a c l e most w5 hb5 (by omega) hm1 hm2
    have hval := rText_len ⟨l, e⟩ most
    generalize rText ⟨l, e⟩ most = U at *
    obtain ⟨X, S⟩ := U
    simp only at hC Hv0 hval
    have Hv := Lib.hid Hv0
    clear Hv0
    refine (hC).mono ?_
    rintro x w6 ⟨ua, uc, rfl, hB6, hb6⟩
    have G := Lib.hid (HX.out.later hb6)
    have S6 := Lib.hid hB6
    have HB6 := Lib.hid hb6
    clear hB6 hb6 hb5
    unfold rdv
    go_upto_region 12 with (first
      | (refine wpList_store_row rfl 48 (.tmp 3) (.tmp 52) rfl w.heap.size _ rfl rfl 48 _ G.out.g0 (rdsz2 _ _) rfl (rdone _ _ _ _ _) ?_; obtain ⟨w7, hw7⟩ : ∃ w7, w7 = w6.setRow w.heap.size #[.slice ua S.l.length uc, .int .i64 (S.e : Int)] := ⟨_, rfl⟩; rw [← hw7]; have g4 : w7.heap[w.heap.size + 4]? = some (.cells (rcell mk) 34 (0, 0)) := (by rw [hw7]; exact (setRow_other _ _ _ _ (by omega)).trans G.out.g4); have G4 := Lib.hid g4; obtain ⟨k1, k2, k3, k4, k5, kf⟩ := rcell_facts g4; have kj := kf 4; have Hw7 := Lib.hid hw7; clear hw7 g4 kf))
    clear k1 k2 k3 k4 k5 kj
    obtain ⟨q, hq⟩ : ∃ q, q = w7.setCell ⟨w.heap.size + 4, 4, none⟩ (.string ⟨X.toArray⟩) := ⟨_, rfl⟩
    rw [← hq]
    have Kq : Kept (fun j => w.heap.size ≤ j ∧ j < w.heap.size + 5) w6 q := by rw [hq, Hw7.out]; exact ((Kept.refl (fun j => w.heap.size ≤ j ∧ j < w.heap.size + 5) w6).setRow (fun _ => by omega) _).setCell (p := ⟨w.heap.size + 4, 4, none⟩) (fun _ => ⟨Nat.le_add_right _ _, by simp only; omega⟩) _
    have Q0 : Hid (RdB q w.heap.size ua S.l.length uc S.e) := Lib.hid (by rw [hq]; exact (heap_setCell_other _ _ _ _ (by simp only; omega)).trans (by rw [Hw7.out]; exact setRow_heap _ _ _ _ _ _ G.out.g0))
    have Q4 : Hid (q.heap[w.heap.size + 4]? = some (.cells ((rcell mk).setIfInBounds 4 (.string ⟨X.toArray⟩)) 34 (0, 0))) := Lib.hid (by rw [hq]; exact heap_setCell_same _ _ _ _ _ _ G4.out)
    have Q2 : Hid (q.heap[w.heap.size + 2]? = some (.cells #[.slice none 0 0, .int .i64 0] 48 (0, 0))) := Lib.hid (by rw [hq]; exact (heap_setCell_other _ _ _ _ (by simp only; omega)).trans (by rw [Hw7.out]; exact (setRow_other _ _ _ _ (by omega)).trans G.out.g2))
    have Q3 : Hid (q.heap[w.heap.size + 3]? = some (.cells #[.int .u8 0, .int .u64 0, .int .i64 0, .bool false, .string ⟨#[]⟩, .slice none 0 0] 34 (0, 0))) := Lib.hid (by rw [hq]; exact (heap_setCell_other _ _ _ _ (by simp only; omega)).trans (by rw [Hw7.out]; exact (setRow_other _ _ _ _ (by omega)).trans G.out.g3))
    have HfrH : Hid (Bs (fun b => D b ∧ b < w.heap.size) q ua S.l.length uc S.l) := Lib.hid (S6.out.kept Kq (fun b hb hd e => by have := hd.2; omega))
    have HqB : Hid (Below w.heap.size w q) := Lib.hid (below_kept G.out.bel (Nat.le_refl _) (Kq.mono (fun j _ h => h.1)))
    have HKq := Lib.hid Kq
    have HQ := Lib.hid hq
    clear Kq hq G4 Hw7
    refine Roll.region_f 3 57 Dex4 Lex4 [(3, .pointer (some ⟨w.heap.size, 0, none⟩)), (6, .pointer (some ⟨w.heap.size + 2, 0, none⟩)), (7, .pointer (some ⟨w.heap.size + 3, 0, none⟩)), (8, .pointer (some ⟨w.heap.size + 4, 0, none⟩))] (fun p => Kept (fun j => j = w.heap.size + 2) q p ∧ ∃ x y, p.heap[w.heap.size + 2]? = some (.cells #[x, y] 48 (0, 0))) (fun p p' => Kept (fun j => j = w.heap.size + 2) p p' ∧ (p.heap[w.heap.size + 2]? = some (.cells #[.slice ua S.l.length uc, .int .i64 (S.e : Int)] 48 (0, 0)) → p'.heap[w.heap.size + 2]? = some (.cells #[.slice ua S.l.length uc, .int .i64 (S.e : Int)] 48 (0, 0)))) [fun vv p => vv = .agg #[.slice ua S.l.length uc, .int .i64 (S.e : Int)], fun vv p => vv = .agg ((rcell mk).setIfInBounds 4 (.string ⟨X.toArray⟩)), fun vv p => p.heap[w.heap.size + 2]? = some (.cells #[.slice ua S.l.length uc, .int .i64 (S.e : Int)] 48 (0, 0))] (by kernel_rfl) (by kernel_rfl) rfl ⟨rfl, rfl, rfl, rfl, trivial⟩ (⟨(Kept.refl _ _).drew, _, _, Q2.out⟩) ?_ ?_ ?_
    · exact ⟨fun _ _ _ _ h => h, fun _ _ _ _ h => h, fun v p p' hb h => hb.2 h, trivial⟩
    · intro b0 hN hlv
      refine ⟨?_, ?_, ?_, trivial⟩
      · intro vals p hI hp
        have e3 : (Roll.putD Dex4 vals [] b0).eval (.tmp 3) = .pointer (some ⟨w.heap.size, 0, none⟩) := (Roll.eval_old rfl).trans (hlv.at 0 (3, .pointer (some ⟨w.heap.size, 0, none⟩)) rfl)
        clear hp hlv hN
        unfold Roll.Goes
        simp only [Lex4, List.getD_cons_zero, List.getD_cons_succ]
        generalize Roll.putD Dex4 vals [] b0 = a1 at *
        exact Roll.goes_load_row rfl 48 (.tmp 3) rfl w.heap.size e3 48 #[.slice ua S.l.length uc, .int .i64 (S.e : Int)] (0, 0) _ (hI.1.heap Q0.out (by omega)) Try.underlying48 rfl (rdsz2 _ _) ⟨hI, ⟨Kept.refl _ _, id⟩, rfl⟩
      · intro vals p hI hp
        have e8 : (Roll.putD Dex4 vals [] b0).eval (.tmp 8) = .pointer (some ⟨w.heap.size + 4, 0, none⟩) := (Roll.eval_old rfl).trans (hlv.at 3 (8, .pointer (some ⟨w.heap.size + 4, 0, none⟩)) rfl)
        clear hp hlv hN
        unfold Roll.Goes
        simp only [Lex4, List.getD_cons_zero, List.getD_cons_succ]
        generalize Roll.putD Dex4 vals [] b0 = a1 at *
        exact Roll.goes_load_row rfl 34 (.tmp 8) rfl (w.heap.size + 4) e8 34 ((rcell mk).setIfInBounds 4 (.string ⟨X.toArray⟩)) (0, 0) _ (hI.1.heap Q4.out (by omega)) Try.underlying34 rfl (rset_size _ _ _) ⟨hI, ⟨Kept.refl _ _, id⟩, rfl⟩
      · intro vals p hI hp
        have h0 : (vals 0) = .agg #[.slice ua S.l.length uc, .int .i64 (S.e : Int)] := hp 0 (by simp [Lex4])
        have e6 : (Roll.putD Dex4 vals [0] b0).eval (.tmp 6) = .pointer (some ⟨w.heap.size + 2, 0, none⟩) := (Roll.eval_old rfl).trans (hlv.at 1 (6, .pointer (some ⟨w.heap.size + 2, 0, none⟩)) rfl)
        have e55 : (Roll.putD Dex4 vals [0] b0).eval (.tmp 55) = .agg #[.slice ua S.l.length uc, .int .i64 (S.e : Int)] := (Roll.eval_new 0 rfl (by decide) (by decide) (by omega)).trans h0
        clear hp hlv hN
        unfold Roll.Goes
        simp only [Lex4, List.getD_cons_zero, List.getD_cons_succ]
        generalize Roll.putD Dex4 vals [0] b0 = a1 at *
        obtain ⟨hI1, x1, y1, hold⟩ := hI
        exact Roll.goes_store_row rfl 48 (.tmp 6) (.tmp 55) rfl (w.heap.size + 2) #[.slice ua S.l.length uc, .int .i64 (S.e : Int)] e6 e55 48 #[x1, y1] hold (rdsz2 _ _) rfl (rdone _ _ _ _ _) ⟨⟨hI1.setRow (fun _ => rfl) _, _, _, setRow_heap _ _ _ _ _ _ hold⟩, ⟨(Kept.refl (fun j => j = w.heap.size + 2) p).setRow (fun _ => rfl) _, fun _ => setRow_heap _ _ _ _ _ _ hold⟩, setRow_heap _ _ _ _ _ _ hold⟩
    · intro vals p hI hR
      have h0 : (vals 0) = .agg #[.slice ua S.l.length uc, .int .i64 (S.e : Int)] := hR 0 (by omega)
      have h1 : (vals 1) = .agg ((rcell mk).setIfInBounds 4 (.string ⟨X.toArray⟩)) := hR 1 (by omega)
      have h2 : p.heap[w.heap.size + 2]? = some (.cells #[.slice ua S.l.length uc, .int .i64 (S.e : Int)] 48 (0, 0)) := hR 2 (by omega)
      clear hR
      simp only [List.range_succ, List.range_zero, List.nil_append, List.cons_append, Roll.putD, Act.put, List.getD_cons_zero, List.getD_cons_succ, List.setIfInBounds_toArray, List.set_cons_zero, List.set_cons_succ, List.drop_succ_cons, List.drop_zero, Dex4]
      simp only [h0, h1]
      clear h0 h1
      have P3 := Lib.hid (hI.1.heap Q3.out (by omega))
      have H2 := Lib.hid h2
      have HI := Lib.hid hI.1
      clear h2 hI
      go_wp2_with (refine wpList_store_row rfl 34 (.tmp 7) (.tmp 56) rfl (w.heap.size + 3) _ rfl rfl 34 _ P3.out (rset_size _ _ _) (by rw [Array.size_setIfInBounds]; rfl) (rset_one _ _ _ rfl) ?_)
      refine bodyPost_ret (v := .tuple #[.agg #[.slice ua S.l.length uc, .int .i64 (S.e : Int)], .agg ((rcell mk).setIfInBounds 4 (.string ⟨X.toArray⟩))]) (results_row_row rfl _ _ (w.heap.size + 2) 48 #[.slice ua S.l.length uc, .int .i64 (S.e : Int)] (0, 0) _ rfl ((setRow_other _ _ _ _ (by omega)).trans H2.out) Try.underlying48 rfl rdsz (w.heap.size + 3) 34 ((rcell mk).setIfInBounds 4 (.string ⟨X.toArray⟩)) (0, 0) _ rfl (setRow_heap _ _ _ _ _ _ P3.out) Try.underlying34 rfl (rset_size _ _ _)) rfl ?_
      show ExpV D w mk (refVal mk ⟨l, e⟩ most) _ _
      rw [Hv.out]
      have K : Kept (fun j => w.heap.size ≤ j ∧ j < w.heap.size + 5) q (p.setRow (w.heap.size + 3) ((rcell mk).setIfInBounds 4 (.string ⟨X.toArray⟩))) := (HI.out.mono (T := fun j => w.heap.size ≤ j ∧ j < w.heap.size + 5) (fun j _ h => by omega)).setRow (fun _ => by omega) _
      have K2 : Kept (fun j => w.heap.size ≤ j) q (p.setRow (w.heap.size + 3) ((rcell mk).setIfInBounds 4 (.string ⟨X.toArray⟩))) := K.mono (fun j _ h => h.1)
      exact ⟨ua, uc, ⟨mk, 0, 0, false, ⟨X.toArray⟩, none, 0, 0, []⟩, rfl, (HfrH.out).later K2, rfl, rfl, rOk_nil _ _ mk hm 0 (by omega) 0 (by omega) (by omega) false _ (by simp only [ByteArray.size, List.size_toArray]; omega), below_kept HqB.out (Nat.le_refl _) K2⟩
  · go_enter Try.func22, Try.ntmps22
    go_wp2_with fail
    obtain ⟨w5, h5⟩ : ∃ w5, w5 = ((((w.alloc (.cells #[.slice a l.length c, .int .i64 (e : Int)] 48)).alloc (.cells #[.int .u8 (mk : Int), .int .u64 (mu : Int), .int .i64 mn, .bool mb, .string ms, .slice ma ml mc] 34)).alloc (.cells #[.slice none 0 0, .int .i64 0] 48)).alloc (.cells #[.int .u8 0, .int .u64 0, .int .i64 0, .bool false, .string ⟨#[]⟩, .slice none 0 0] 34)).alloc (.cells #[.int .u8 (mk : Int), .int .u64 0, .int .i64 0, .bool false, .string ⟨#[]⟩, .slice none 0 0] 34) := ⟨_, rfl⟩
    have hx := ex_mid h5
    rw [← h5]
    have HX := Lib.hid hx
    clear h5 hx
    have hb5 := fail_rds (w2 := w) 0 HB.out.inner HX.out.bel
    have Hv0 : refVal mk ⟨l, e⟩ most = (⟨0, 0, false, [], (rInts ⟨l, e⟩ most).1⟩, (rInts ⟨l, e⟩ most).2) := by unfold refVal; rw [if_neg (by omega)]; unfold rVal; rw [if_neg (by omega), if_neg (by omega), if_neg (by omega), if_neg (by omega)]
    have hC := refReadInts_any (fun b => D b ∧ b < w.heap.size) a c l e most w5 hb5 (by omega) hm1 hm2
    have hval : Ok64 (rInts ⟨l, e⟩ most).1 := rIntsGo_ok _ _ _ (fun _ h => by cases h)
    generalize rInts ⟨l, e⟩ most = U at *
    obtain ⟨X, S⟩ := U
    simp only at hC Hv0 hval
    have Hv := Lib.hid Hv0
    clear Hv0
    refine (hC).mono ?_
    rintro x w6 ⟨v, ⟨kk, ho, hff⟩, ua, uc, rfl, hB6, hb6⟩
    obtain ⟨va, vc, rfl, hsl⟩ := ho.sl
    have HS := Lib.hid hsl
    have HIR := Lib.hid ho.introw
    have HF := Lib.hid (fun j hj => Nat.le_trans (by have := HX.out.size; omega) (hff j hj) : ∀ j, kk = some j → w.heap.size + 5 ≤ j)
    clear hsl hff ho
    have G := Lib.hid (HX.out.later hb6)
    have S6 := Lib.hid hB6
    have HB6 := Lib.hid hb6
    clear hB6 hb6 hb5
    unfold rdv
    go_upto_region 12 with (first
      | (refine wpList_store_row rfl 48 (.tmp 3) (.tmp 19) rfl w.heap.size _ rfl rfl 48 _ G.out.g0 (rdsz2 _ _) rfl (rdone _ _ _ _ _) ?_; obtain ⟨w7, hw7⟩ : ∃ w7, w7 = w6.setRow w.heap.size #[.slice ua S.l.length uc, .int .i64 (S.e : Int)] := ⟨_, rfl⟩; rw [← hw7]; have g4 : w7.heap[w.heap.size + 4]? = some (.cells (rcell mk) 34 (0, 0)) := (by rw [hw7]; exact (setRow_other _ _ _ _ (by omega)).trans G.out.g4); have G4 := Lib.hid g4; obtain ⟨k1, k2, k3, k4, k5, kf⟩ := rcell_facts g4; have kj := kf 5; have Hw7 := Lib.hid hw7; clear hw7 g4 kf))
    clear k1 k2 k3 k4 k5 kj
    obtain ⟨q, hq⟩ : ∃ q, q = w7.setCell ⟨w.heap.size + 4, 5, none⟩ (.slice va X.length vc) := ⟨_, rfl⟩
    rw [← hq]
    have Kq : Kept (fun j => w.heap.size ≤ j ∧ j < w.heap.size + 5) w6 q := by rw [hq, Hw7.out]; exact ((Kept.refl (fun j => w.heap.size ≤ j ∧ j < w.heap.size + 5) w6).setRow (fun _ => by omega) _).setCell (p := ⟨w.heap.size + 4, 5, none⟩) (fun _ => ⟨Nat.le_add_right _ _, by simp only; omega⟩) _
    have Q0 : Hid (RdB q w.heap.size ua S.l.length uc S.e) := Lib.hid (by rw [hq]; exact (heap_setCell_other _ _ _ _ (by simp only; omega)).trans (by rw [Hw7.out]; exact setRow_heap _ _ _ _ _ _ G.out.g0))
    have Q4 : Hid (q.heap[w.heap.size + 4]? = some (.cells ((rcell mk).setIfInBounds 5 (.slice va X.length vc)) 34 (0, 0))) := Lib.hid (by rw [hq]; exact heap_setCell_same _ _ _ _ _ _ G4.out)
    have Q2 : Hid (q.heap[w.heap.size + 2]? = some (.cells #[.slice none 0 0, .int .i64 0] 48 (0, 0))) := Lib.hid (by rw [hq]; exact (heap_setCell_other _ _ _ _ (by simp only; omega)).trans (by rw [Hw7.out]; exact (setRow_other _ _ _ _ (by omega)).trans G.out.g2))
    have Q3 : Hid (q.heap[w.heap.size + 3]? = some (.cells #[.int .u8 0, .int .u64 0, .int .i64 0, .bool false, .string ⟨#[]⟩, .slice none 0 0] 34 (0, 0))) := Lib.hid (by rw [hq]; exact (heap_setCell_other _ _ _ _ (by simp only; omega)).trans (by rw [Hw7.out]; exact (setRow_other _ _ _ _ (by omega)).trans G.out.g3))
    have HfrH : Hid (Bs (fun b => D b ∧ b < w.heap.size) q ua S.l.length uc S.l) := Lib.hid (S6.out.kept Kq (fun b hb hd e => by have := hd.2; omega))
    have HqB : Hid (Below w.heap.size w q) := Lib.hid (below_kept G.out.bel (Nat.le_refl _) (Kq.mono (fun j _ h => h.1)))
    have HKq := Lib.hid Kq
    have HQ := Lib.hid hq
    clear Kq hq G4 Hw7
    refine Roll.region_f 3 57 Dex5 Lex5 [(3, .pointer (some ⟨w.heap.size, 0, none⟩)), (6, .pointer (some ⟨w.heap.size + 2, 0, none⟩)), (7, .pointer (some ⟨w.heap.size + 3, 0, none⟩)), (8, .pointer (some ⟨w.heap.size + 4, 0, none⟩))] (fun p => Kept (fun j => j = w.heap.size + 2) q p ∧ ∃ x y, p.heap[w.heap.size + 2]? = some (.cells #[x, y] 48 (0, 0))) (fun p p' => Kept (fun j => j = w.heap.size + 2) p p' ∧ (p.heap[w.heap.size + 2]? = some (.cells #[.slice ua S.l.length uc, .int .i64 (S.e : Int)] 48 (0, 0)) → p'.heap[w.heap.size + 2]? = some (.cells #[.slice ua S.l.length uc, .int .i64 (S.e : Int)] 48 (0, 0)))) [fun vv p => vv = .agg #[.slice ua S.l.length uc, .int .i64 (S.e : Int)], fun vv p => vv = .agg ((rcell mk).setIfInBounds 5 (.slice va X.length vc)), fun vv p => p.heap[w.heap.size + 2]? = some (.cells #[.slice ua S.l.length uc, .int .i64 (S.e : Int)] 48 (0, 0))] (by kernel_rfl) (by kernel_rfl) rfl ⟨rfl, rfl, rfl, rfl, trivial⟩ (⟨(Kept.refl _ _).drew, _, _, Q2.out⟩) ?_ ?_ ?_
    · exact ⟨fun _ _ _ _ h => h, fun _ _ _ _ h => h, fun v p p' hb h => hb.2 h, trivial⟩
    · intro b0 hN hlv
      refine ⟨?_, ?_, ?_, trivial⟩
      · intro vals p hI hp
        have e3 : (Roll.putD Dex5 vals [] b0).eval (.tmp 3) = .pointer (some ⟨w.heap.size, 0, none⟩) := (Roll.eval_old rfl).trans (hlv.at 0 (3, .pointer (some ⟨w.heap.size, 0, none⟩)) rfl)
        clear hp hlv hN
        unfold Roll.Goes
        simp only [Lex5, List.getD_cons_zero, List.getD_cons_succ]
        generalize Roll.putD Dex5 vals [] b0 = a1 at *
        exact Roll.goes_load_row rfl 48 (.tmp 3) rfl w.heap.size e3 48 #[.slice ua S.l.length uc, .int .i64 (S.e : Int)] (0, 0) _ (hI.1.heap Q0.out (by omega)) Try.underlying48 rfl (rdsz2 _ _) ⟨hI, ⟨Kept.refl _ _, id⟩, rfl⟩
      · intro vals p hI hp
        have e8 : (Roll.putD Dex5 vals [] b0).eval (.tmp 8) = .pointer (some ⟨w.heap.size + 4, 0, none⟩) := (Roll.eval_old rfl).trans (hlv.at 3 (8, .pointer (some ⟨w.heap.size + 4, 0, none⟩)) rfl)
        clear hp hlv hN
        unfold Roll.Goes
        simp only [Lex5, List.getD_cons_zero, List.getD_cons_succ]
        generalize Roll.putD Dex5 vals [] b0 = a1 at *
        exact Roll.goes_load_row rfl 34 (.tmp 8) rfl (w.heap.size + 4) e8 34 ((rcell mk).setIfInBounds 5 (.slice va X.length vc)) (0, 0) _ (hI.1.heap Q4.out (by omega)) Try.underlying34 rfl (rset_size _ _ _) ⟨hI, ⟨Kept.refl _ _, id⟩, rfl⟩
      · intro vals p hI hp
        have h0 : (vals 0) = .agg #[.slice ua S.l.length uc, .int .i64 (S.e : Int)] := hp 0 (by simp [Lex5])
        have e6 : (Roll.putD Dex5 vals [0] b0).eval (.tmp 6) = .pointer (some ⟨w.heap.size + 2, 0, none⟩) := (Roll.eval_old rfl).trans (hlv.at 1 (6, .pointer (some ⟨w.heap.size + 2, 0, none⟩)) rfl)
        have e55 : (Roll.putD Dex5 vals [0] b0).eval (.tmp 55) = .agg #[.slice ua S.l.length uc, .int .i64 (S.e : Int)] := (Roll.eval_new 0 rfl (by decide) (by decide) (by omega)).trans h0
        clear hp hlv hN
        unfold Roll.Goes
        simp only [Lex5, List.getD_cons_zero, List.getD_cons_succ]
        generalize Roll.putD Dex5 vals [0] b0 = a1 at *
        obtain ⟨hI1, x1, y1, hold⟩ := hI
        exact Roll.goes_store_row rfl 48 (.tmp 6) (.tmp 55) rfl (w.heap.size + 2) #[.slice ua S.l.length uc, .int .i64 (S.e : Int)] e6 e55 48 #[x1, y1] hold (rdsz2 _ _) rfl (rdone _ _ _ _ _) ⟨⟨hI1.setRow (fun _ => rfl) _, _, _, setRow_heap _ _ _ _ _ _ hold⟩, ⟨(Kept.refl (fun j => j = w.heap.size + 2) p).setRow (fun _ => rfl) _, fun _ => setRow_heap _ _ _ _ _ _ hold⟩, setRow_heap _ _ _ _ _ _ hold⟩
    · intro vals p hI hR
      have h0 : (vals 0) = .agg #[.slice ua S.l.length uc, .int .i64 (S.e : Int)] := hR 0 (by omega)
      have h1 : (vals 1) = .agg ((rcell mk).setIfInBounds 5 (.slice va X.length vc)) := hR 1 (by omega)
      have h2 : p.heap[w.heap.size + 2]? = some (.cells #[.slice ua S.l.length uc, .int .i64 (S.e : Int)] 48 (0, 0)) := hR 2 (by omega)
      clear hR
      simp only [List.range_succ, List.range_zero, List.nil_append, List.cons_append, Roll.putD, Act.put, List.getD_cons_zero, List.getD_cons_succ, List.setIfInBounds_toArray, List.set_cons_zero, List.set_cons_succ, List.drop_succ_cons, List.drop_zero, Dex5]
      simp only [h0, h1]
      clear h0 h1
      have P3 := Lib.hid (hI.1.heap Q3.out (by omega))
      have H2 := Lib.hid h2
      have HI := Lib.hid hI.1
      clear h2 hI
      go_wp2_with (refine wpList_store_row rfl 34 (.tmp 7) (.tmp 56) rfl (w.heap.size + 3) _ rfl rfl 34 _ P3.out (rset_size _ _ _) (by rw [Array.size_setIfInBounds]; rfl) (rset_one _ _ _ rfl) ?_)
      refine bodyPost_ret (v := .tuple #[.agg #[.slice ua S.l.length uc, .int .i64 (S.e : Int)], .agg ((rcell mk).setIfInBounds 5 (.slice va X.length vc))]) (results_row_row rfl _ _ (w.heap.size + 2) 48 #[.slice ua S.l.length uc, .int .i64 (S.e : Int)] (0, 0) _ rfl ((setRow_other _ _ _ _ (by omega)).trans H2.out) Try.underlying48 rfl rdsz (w.heap.size + 3) 34 ((rcell mk).setIfInBounds 5 (.slice va X.length vc)) (0, 0) _ rfl (setRow_heap _ _ _ _ _ _ P3.out) Try.underlying34 rfl (rset_size _ _ _)) rfl ?_
      show ExpV D w mk (refVal mk ⟨l, e⟩ most) _ _
      rw [Hv.out]
      have K : Kept (fun j => w.heap.size ≤ j ∧ j < w.heap.size + 5) q (p.setRow (w.heap.size + 3) ((rcell mk).setIfInBounds 5 (.slice va X.length vc))) := (HI.out.mono (T := fun j => w.heap.size ≤ j ∧ j < w.heap.size + 5) (fun j _ h => by omega)).setRow (fun _ => by omega) _
      have K2 : Kept (fun j => w.heap.size ≤ j) q (p.setRow (w.heap.size + 3) ((rcell mk).setIfInBounds 5 (.slice va X.length vc))) := K.mono (fun j _ h => h.1)
      exact ⟨ua, uc, ⟨mk, 0, 0, false, ⟨#[]⟩, va, X.length, vc, X⟩, rfl, (HfrH.out).later K2, rfl, rfl, ⟨hm, (show (0 : Nat) < 18446744073709551616 by omega), (show (-9223372036854775808 : Int) ≤ 0 by omega), (show (0 : Int) ≤ 9223372036854775807 by omega), Nat.zero_le _, ⟨rfl, ((HS.out.kept (by decide) HKq.out (fun b _ hb hc => by have := HF.out b hb; omega)).kept (by decide) K (fun b _ hb hc => by have := HF.out b hb; omega)).dom (fun b hb => ⟨by have := HF.out b hb; omega, by obtain ⟨cur, hc⟩ := HIR.out b hb; exact ⟨cur, K.heap (HKq.out.heap hc (by have := HF.out b hb; omega)) (by have := HF.out b hb; omega)⟩⟩)⟩, hval⟩, below_kept HqB.out (Nat.le_refl _) K2⟩
end Go.Proofs.Ytdnbkiaolimfjaa

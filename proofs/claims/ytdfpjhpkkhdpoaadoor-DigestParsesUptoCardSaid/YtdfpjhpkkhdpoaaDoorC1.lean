/-
  The law DigestGoes: its walk.
-/
import Derived.Test.YtdfpjhpkkhdpoaaDoorB8
namespace Go.Proofs.YtdfpjhpkkhdpoaaDoor
open Go.RowKit
/-- a block holds the state after some bytes -/
def SB (w : World) (g : Nat) (l : List UInt8) : Prop := ∃ a c, w.heap[g]? = some (.cells (dcells (absH H8 l) a (absR l).length c l.length) 33 (0, 0)) ∧ Bs w a (absR l).length c (absR l)
theorem SB.below {p w' : World} {g : Nat} {l : List UInt8} (h : SB p g l) (hb : Below p.heap.size p w') : SB w' g l := by
  obtain ⟨a, c, hg, hB⟩ := h
  exact ⟨a, c, (hb.block g (heap_lt hg)).trans hg, hB.below hb⟩
theorem SB.st {p : World} {g : Nat} {l : List UInt8} (h : SB p g l) : ∃ v, (load33A (.pointer (some ⟨g, 0, none⟩))).run Tryd.prog p = .ok (.value v) p ∧ St p v l := by
  obtain ⟨a, c, hg, hB⟩ := h
  exact ⟨_, run_load33 (absH_len l) hg, a, c, rfl, hB⟩
/-- a step: a new block, written once -/
theorem stepAR (p : World) (o : Obj) (cs : Array Value) : Below p.heap.size p ((p.alloc o).setRow p.heap.size cs) := Below_setRow ((Below.refl _ _).alloc (Nat.le_refl _) o) (Nat.le_refl _) cs
theorem SB_new {p : World} {old : Array Value} {a : Option Addr} {c : Nat} {l : List UInt8} (h : Bs p a (absR l).length c (absR l)) :
    SB ((p.alloc (.cells old 33)).setRow p.heap.size (dcells (absH H8 l) a (absR l).length c l.length)) p.heap.size l :=
  ⟨a, c, setRow_heap _ _ _ _ _ _ (heap_new rfl), h.below (stepAR p _ _)⟩
theorem size33n (l : List UInt8) (a : Option Addr) (n c : Nat) (L : Int) : (Tryd.prog.info? 33).map (·.size) = some (dcells (absH H8 l) a n c L).size := by rw [dcells_size _ _ _ _ _ (absH_len l)]; exact size33
theorem eqg24 : Tryd.prog.eqGuardType Tryd.prog.depth 24 = false := by kernel_rfl
/-- a block holds a hash value -/
def HB (w : World) (g : Nat) (x : List UInt8) : Prop := w.heap[g]? = some (.cells (bcells x) 24 (0, 0)) ∧ x.length = 32
/-- what a law's walk carries: the tables, what was below, the states and the hash values in its blocks -/
structure Now (w p : World) (L H : List (Nat × List UInt8)) : Prop where
  tabs : Tabs p
  bel : Below w.heap.size w p
  sb : ∀ x ∈ L, SB p x.1 x.2
  hb : ∀ x ∈ H, HB p x.1 x.2
theorem Now.start {w : World} (h : Tabs w) : Now w w [] [] := ⟨h, Below.refl _ _, (by simp), (by simp)⟩
theorem Now.step {w p p' : World} {L H : List (Nat × List UInt8)} (N : Now w p L H) (h : Below p.heap.size p p') : Now w p' L H :=
  ⟨tabs_below N.tabs h, N.bel.trans (h.mono N.bel.size), fun x hx => (N.sb x hx).below h, fun x hx => ⟨(h.block _ (heap_lt (N.hb x hx).1)).trans (N.hb x hx).1, (N.hb x hx).2⟩⟩
theorem Now.put33 {w p : World} {L H : List (Nat × List UInt8)} (N : Now w p L H) {a : Option Addr} {c : Nat} {l : List UInt8} (h : Bs p a (absR l).length c (absR l)) :
    ∃ W, (p.alloc (.cells #[.int .u32 0, .int .u32 0, .int .u32 0, .int .u32 0, .int .u32 0, .int .u32 0, .int .u32 0, .int .u32 0, .slice none 0 0, .int .i64 0] 33)).setRow p.heap.size (dcells (absH H8 l) a (absR l).length c l.length) = W ∧ Now w W ((p.heap.size, l) :: L) H ∧ p.heap.size < W.heap.size := by
  refine ⟨_, rfl, ?_, heap_lt (setRow_heap _ _ _ _ _ _ (heap_new rfl))⟩
  have N' := N.step (stepAR p (.cells #[.int .u32 0, .int .u32 0, .int .u32 0, .int .u32 0, .int .u32 0, .int .u32 0, .int .u32 0, .int .u32 0, .slice none 0 0, .int .i64 0] 33) (dcells (absH H8 l) a (absR l).length c l.length))
  refine ⟨N'.tabs, N'.bel, fun x hx => ?_, N'.hb⟩
  rcases List.mem_cons.1 hx with rfl | hx
  · exact SB_new h
  · exact N'.sb x hx
theorem Now.put24 {w p : World} {L H : List (Nat × List UInt8)} (N : Now w p L H) (x : List UInt8) (hl : x.length = 32) :
    ∃ W, (p.alloc (.cells #[.int .u8 0, .int .u8 0, .int .u8 0, .int .u8 0, .int .u8 0, .int .u8 0, .int .u8 0, .int .u8 0, .int .u8 0, .int .u8 0, .int .u8 0, .int .u8 0, .int .u8 0, .int .u8 0, .int .u8 0, .int .u8 0, .int .u8 0, .int .u8 0, .int .u8 0, .int .u8 0, .int .u8 0, .int .u8 0, .int .u8 0, .int .u8 0, .int .u8 0, .int .u8 0, .int .u8 0, .int .u8 0, .int .u8 0, .int .u8 0, .int .u8 0, .int .u8 0] 24)).setRow p.heap.size (bcells x) = W ∧ Now w W L ((p.heap.size, x) :: H) ∧ p.heap.size < W.heap.size := by
  refine ⟨_, rfl, ?_, heap_lt (setRow_heap _ _ _ _ _ _ (heap_new rfl))⟩
  have N' := N.step (stepAR p (.cells #[.int .u8 0, .int .u8 0, .int .u8 0, .int .u8 0, .int .u8 0, .int .u8 0, .int .u8 0, .int .u8 0, .int .u8 0, .int .u8 0, .int .u8 0, .int .u8 0, .int .u8 0, .int .u8 0, .int .u8 0, .int .u8 0, .int .u8 0, .int .u8 0, .int .u8 0, .int .u8 0, .int .u8 0, .int .u8 0, .int .u8 0, .int .u8 0, .int .u8 0, .int .u8 0, .int .u8 0, .int .u8 0, .int .u8 0, .int .u8 0, .int .u8 0, .int .u8 0] 24) (bcells x))
  refine ⟨N'.tabs, N'.bel, N'.sb, fun y hy => ?_⟩
  rcases List.mem_cons.1 hy with rfl | hy
  · exact ⟨setRow_heap _ _ _ _ _ _ (heap_new rfl), hl⟩
  · exact N'.hb y hy
theorem own_empty (p : World) : (p.alloc (.cells #[] 5)).ownsRow p.heap.size 5 1 (.slice (some ⟨p.heap.size, 0, none⟩) 0 0) 0 [] :=
  ⟨by simp, .inr ⟨p.heap.size, 0, #[], rfl, Nat.le_refl _, heap_new rfl, Nat.le_refl _, by decide, rfl, rfl⟩⟩
def load24A (v : Value) : Sem Next := do pure (.value (← Instr.loadAt 24 v))
theorem exec_load24 (ρ : Operand → Value) (d : Option Tmp) (x : Operand) (ty : TypeId) (pos : String) (af : Array Edge) (gd : Option (Nat × Bool)) :
    execOp ρ { dst := d, op := .load 24 x, type := ty, pos := pos, after := af, guard := gd } = load24A (ρ x) := rfl
theorem HB.load {w : World} {g : Nat} {x : List UInt8} (h : HB w g x) : (load24A (.pointer (some ⟨g, 0, none⟩))).run Tryd.prog w = .ok (.value (.agg (bcells x))) w := by
  unfold load24A
  simp only [Instr.loadAt, Instr.sureAddr, Sem.run_bind, Sem.run_pure, Result.andThen_ok, run_loadVar_row w g 24 24 _ (0, 0) _ h.1 Tryd.underlying24 rfl (by rw [bcells_size, h.2]; exact size32b)]
theorem Now.drew {w p : World} {L H : List (Nat × List UInt8)} (N : Now w p L H) : Now w p.drew L H := N.step (Below.refl _ _).drew
attribute [local go_sem ↓] exec_load33 exec_load24
attribute [local go_sem] run_eq24 Hv_len eqg24
attribute [local go_sem ↓] exec_at_zero exec_at_succ Go.wp_at_zero Go.wp_at_succ
set_option maxRecDepth 100000 in
set_option maxHeartbeats 2000000 in
theorem goes_any (a1 : Option Addr) (n1 c1 : Nat) (la : List UInt8) (a2 : Option Addr) (n2 c2 : Nat) (lb : List UInt8) (a3 : Option Addr) (n3 c3 : Nat) (lc : List UInt8) (w : World) (hT : Tabs w)
    (h1 : Bs w a1 n1 c1 la) (h2 : Bs w a2 n2 c2 lb) (h3 : Bs w a3 n3 c3 lc) (b1 : n1 ≤ 1048576) (b2 : n2 ≤ 1048576) (b3 : n3 ≤ 1048576) :
    Calls Tryd.prog 7 #[.slice a1 n1 c1, .slice a2 n2 c2, .slice a3 n3 c3] w fun e w' => e = .returned (.bool true) ∧ Below w.heap.size w w' := by
  have E1 := Lib.hid h1.1
  have E2 := Lib.hid h2.1
  have E3 := Lib.hid h3.1
  have N0 := Lib.hid (Now.start hT)
  have A0 := Lib.hid (And.intro h1 (And.intro h2 h3))
  clear hT h1 h2 h3
  obtain ⟨lab, hab⟩ : ∃ x, x = la ++ lb := ⟨_, rfl⟩
  obtain ⟨lac, hac⟩ : ∃ x, x = la ++ lc := ⟨_, rfl⟩
  have HAB := Lib.hid hab
  have HAC := Lib.hid hac
  have LAB : Hid (lab.length ≤ 2097152) := Lib.hid (by have := E1.out; have := E2.out; rw [hab, List.length_append]; omega)
  have LAC : Hid (lac.length ≤ 2097152) := Lib.hid (by have := E1.out; have := E3.out; rw [hac, List.length_append]; omega)
  clear hab hac
  go_enter Tryd.func7, Tryd.ntmps7
  go_upto_region 2 with (first
    | (go_at_call 18; refine (new_any _ N0.out.tabs).mono ?_; rintro e w1 ⟨v1, rfl, S1, hb⟩; have N1 := Lib.hid (N0.out.step hb); clear hb)
    | (go_at_call 17; refine (write_any _ [] a1 n1 c1 la _ N1.out.tabs S1 (A0.out.1.below N1.out.bel) (by have := E1.out; simp; omega)).mono ?_; rintro e w2 ⟨v2, rfl, ⟨ua, uc, rfl, hu⟩, hb⟩; rw [List.nil_append] at hu ⊢; have N2 := Lib.hid (N1.out.step hb); have U2 := Lib.hid hu; clear hb hu)
    | (refine wpList_store_row rfl 33 (.tmp 7) (.tmp 15) rfl w2.heap.size _ rfl rfl 33 _ (heap_new rfl) (size33n _ _ _ _ _) (by rw [dcells_size _ _ _ _ _ (absH_len _)]; rfl) (dcells_one _ _ _ _ _) ?_; obtain ⟨w3, hw3, hN, hz3⟩ := N2.out.put33 U2.out; rw [hw3]; have N3 := Lib.hid hN; have Z3 := Lib.hid hz3; clear hw3 hN hz3))
  generalize w2.heap.size = g7 at *
  obtain ⟨v3, ld3, S3⟩ := (N3.out.sb (g7, la) (by simp)).st
  simp only at ld3
  go_upto_region 3 with (first
    | (go_at_call 22; refine (close_any v3 la _ N3.out.tabs S3 (by have := E1.out; omega)).mono ?_; rintro e w4 ⟨rfl, hb⟩; have N4 := Lib.hid (N3.out.step hb); clear hb)
    | (refine wpList_store_row rfl 24 (.tmp 8) (.tmp 17) rfl w4.heap.size _ rfl rfl 24 _ (heap_new rfl) (by rw [bcells_size, Hv_len]; exact size32b) (by rw [bcells_size, Hv_len]; rfl) (bcells_one _) ?_; obtain ⟨w5, hw5, hN, hz5⟩ := N4.out.put24 (Hv la) (Hv_len la); rw [hw5]; have N5 := Lib.hid hN; clear hw5 hN hz5))
  generalize w4.heap.size = g8 at *
  obtain ⟨v5, ld5, S5⟩ := (N5.out.sb (g7, la) (by simp)).st
  simp only at ld5
  go_upto_region 4 with (first
    | (go_at_call 17; refine (write_any _ la a2 n2 c2 lb _ N5.out.tabs S5 (A0.out.2.1.below N5.out.bel) (by have := E1.out; have := E2.out; omega)).mono ?_; rintro e w6 ⟨v6, rfl, ⟨ub, uc6, rfl, hu⟩, hb⟩; rw [← HAB.out] at hu ⊢; have N6 := Lib.hid (N5.out.step hb); have U6 := Lib.hid hu; clear hb hu)
    | (refine wpList_store_row rfl 33 (.tmp 9) (.tmp 20) rfl w6.heap.size _ rfl rfl 33 _ (heap_new rfl) (size33n _ _ _ _ _) (by rw [dcells_size _ _ _ _ _ (absH_len _)]; rfl) (dcells_one _ _ _ _ _) ?_; obtain ⟨w7, hw7, hN, hz7⟩ := N6.out.put33 U6.out; rw [hw7]; have N7 := Lib.hid hN; clear hw7 hN hz7))
  generalize w6.heap.size = g9 at *
  obtain ⟨v7, ld7, S7⟩ := (N7.out.sb (g7, la) (by simp)).st
  simp only at ld7
  go_upto_region 5 with (first
    | (go_at_call 17; refine (write_any _ la a3 n3 c3 lc _ N7.out.tabs S7 (A0.out.2.2.below N7.out.bel) (by have := E1.out; have := E3.out; omega)).mono ?_; rintro e w8 ⟨v8, rfl, ⟨ud, uc8, rfl, hu⟩, hb⟩; rw [← HAC.out] at hu ⊢; have N8 := Lib.hid (N7.out.step hb); have U8 := Lib.hid hu; clear hb hu)
    | (refine wpList_store_row rfl 33 (.tmp 10) (.tmp 23) rfl w8.heap.size _ rfl rfl 33 _ (heap_new rfl) (size33n _ _ _ _ _) (by rw [dcells_size _ _ _ _ _ (absH_len _)]; rfl) (dcells_one _ _ _ _ _) ?_; obtain ⟨w9, hw9, hN, hz9⟩ := N8.out.put33 U8.out; rw [hw9]; have N9 := Lib.hid hN; clear hw9 hN hz9))
  generalize w8.heap.size = g10 at *
  obtain ⟨v9, ld9, S9⟩ := (N9.out.sb (g9, lab) (by simp)).st
  simp only at ld9
  go_upto_region 6 with (first
    | (go_at_call 22; refine (close_any v9 lab _ N9.out.tabs S9 (by have := LAB.out; omega)).mono ?_; rintro e w10 ⟨rfl, hb⟩; have N10 := Lib.hid (N9.out.step hb); clear hb)
    | (at_builtin; refine append_bs rfl (.tmp 26) (.tmp 27) rfl w10.heap.size _ 0 [] rfl (own_empty w10) a1 n1 c1 la rfl ((A0.out.1.below N10.out.bel).alloc _) (by omega) (by simp) ?_; intro va w11 hown hgrow; have OW := Lib.hid hown; have BA := Lib.hid (own_below ((Below.refl _ _).alloc (Nat.le_refl _) _) (own_empty w10) hgrow (by simp)); clear hown hgrow)
    | (at_builtin; refine append_bs rfl (.tmp 28) (.tmp 29) rfl w10.heap.size _ _ _ rfl OW.out a2 n2 c2 lb rfl (A0.out.2.1.below (N10.out.step BA.out).bel) (by omega) BA.out.size ?_; intro vb w12 hown hgrow; have BB := Lib.hid (own_below BA.out OW.out hgrow BA.out.size); obtain ⟨ca, cc, rfl, hBs⟩ := Bs_of_own (l := lab) (by rw [HAB.out, List.length_append, E1.out, E2.out, vals_app]; simpa using hown); have N12 := Lib.hid (N10.out.step BB.out); have SB12 := Lib.hid hBs; clear hown hgrow hBs)
    | (go_at_call 12; refine (sum_any ca _ cc lab _ N12.out.tabs SB12.out (by have := LAB.out; omega)).mono ?_; rintro e w13 ⟨rfl, hb⟩; have N13 := Lib.hid (N12.out.step hb); clear hb))
  obtain ⟨v13, ld13, S13⟩ := (N13.out.sb (g10, lac) (by simp)).st
  simp only at ld13
  go_upto_region 7 with (first
    | (go_at_call 22; refine (close_any v13 lac _ N13.out.tabs S13 (by have := LAC.out; omega)).mono ?_; rintro e w14 ⟨rfl, hb⟩; have N14 := Lib.hid (N13.out.step hb); clear hb)
    | (at_builtin; refine append_bs rfl (.tmp 35) (.tmp 36) rfl w14.heap.size _ 0 [] rfl (own_empty w14) a1 n1 c1 la rfl ((A0.out.1.below N14.out.bel).alloc _) (by omega) (by simp) ?_; intro vc w15 hown hgrow; have OW2 := Lib.hid hown; have BA2 := Lib.hid (own_below ((Below.refl _ _).alloc (Nat.le_refl _) _) (own_empty w14) hgrow (by simp)); clear hown hgrow)
    | (at_builtin; refine append_bs rfl (.tmp 37) (.tmp 38) rfl w14.heap.size _ _ _ rfl OW2.out a3 n3 c3 lc rfl (A0.out.2.2.below (N14.out.step BA2.out).bel) (by omega) BA2.out.size ?_; intro vd w16 hown hgrow; have BB2 := Lib.hid (own_below BA2.out OW2.out hgrow BA2.out.size); obtain ⟨cb, cd, rfl, hBs⟩ := Bs_of_own (l := lac) (by rw [HAC.out, List.length_append, E1.out, E3.out, vals_app]; simpa using hown); have N16 := Lib.hid (N14.out.step BB2.out); have SB16 := Lib.hid hBs; clear hown hgrow hBs)
    | (go_at_call 12; refine (sum_any cb _ cd lac _ N16.out.tabs SB16.out (by have := LAC.out; omega)).mono ?_; rintro e w17 ⟨rfl, hb⟩; have N17 := Lib.hid (N16.out.step hb); clear hb))
  clear ld3 ld5 ld7 ld9 ld13 S3 S5 S7 S9 S13 OW BA BB OW2 BA2 BB2 SB12 SB16 N1 N2 N3 N4 N5 N6 N7 N8 N9 N10 N12 N13 N14 N16 U2 U6 U8
  obtain ⟨v17, ld17, S17⟩ := (N17.out.sb (g7, la) (by simp)).st
  have ld17d : (load33A (.pointer (some ⟨g7, 0, none⟩))).run Tryd.prog w17.drew = .ok (.value v17) w17.drew := by
    obtain ⟨a, c, hg, hB⟩ := N17.out.sb (g7, la) (by simp)
    have e := run_load33 (absH_len la) hg
    have e2 := e.symm.trans ld17
    simp only [Result.ok.injEq, Next.value.injEq, and_true] at e2
    rw [← e2]
    exact run_load33 (w := w17.drew) (absH_len la) hg
  have lh17 := (N17.out.hb (g8, Hv la) (by simp)).load
  have lh17d := (N17.out.drew.hb (g8, Hv la) (by simp)).load
  simp only at ld17 lh17 lh17d
  go_region_with (first
    | (go_at_call 22; refine (close_any v17 la _ N17.out.drew.tabs S17 (by have := E1.out; omega)).mono ?_; rintro e w18 ⟨rfl, hb⟩; have N18 := Lib.hid (N17.out.drew.step hb); have lh18 := (N18.out.hb (g8, Hv la) (by simp)).load; simp only at lh18; clear hb)
    | (go_at_call 12; refine (sum_any a1 n1 c1 la _ N18.out.tabs (A0.out.1.below N18.out.bel) (by omega)).mono ?_; rintro e w19 ⟨rfl, hb⟩; have N19 := Lib.hid (N18.out.step hb); have lh19 := (N19.out.hb (g8, Hv la) (by simp)).load; simp only at lh19; clear hb)
    | (go_at_call 14; refine (lives_any _ N19.out.tabs).mono ?_; rintro e w20 ⟨rfl, hb⟩; have N20 := Lib.hid (N19.out.step hb); clear hb))
  all_goals
    go_wp2_with fail
    go_ret
    exact ⟨rfl, N20.out.bel⟩
end Go.Proofs.YtdfpjhpkkhdpoaaDoor

/-
  The reference's State.
-/
import Derived.Test.YtdfpjhpkkhdpoaaDoorF4
import Derived.Test.YtdfpjhpkkhdpoaaDoorE4
namespace Go.Proofs.YtdfpjhpkkhdpoaaDoor
open Go.RowKit
set_option linter.unusedSimpArgs false
set_option linter.unusedVariables false
/-- append of bytes onto the nil slice, as a step of a region that draws its order -/
theorem goes_append_nil {o : Oper} {a1 : Act} {w : World} {T : Value → World → Prop}
    (hg : o.guard = none) (s x : Operand) (hop : o.op = Op.call { callee := Callee.builtin Builtin.append, args := #[s, x], argTypes := #[22, 22] })
    (hs : a1.eval s = .slice none 0 0) (xa : Option Addr) (m c : Nat) (l : List UInt8) (hx : a1.eval x = .slice xa m c) (hB : Bs w xa m c l) (hn : m ≤ 140737488355328)
    (hT : ∀ v' w', (∃ a2 c2, v' = .slice a2 l.length c2 ∧ Bs w' a2 l.length c2 l) → Below w.heap.size w w' → T v' w') : wpList Tryd.prog #[] (Roll.Post a1 o.dst T) [o] a1 w := by
  obtain ⟨i0, hi, hz0, hz1, hz2⟩ := info_parts info5
  obtain ⟨h1, h2, h3, h4, h5⟩ := hB
  cases xa with
  | none =>
    have hc := h4 rfl
    subst hc
    have hm : m = 0 := by omega
    subst hm
    have hl : l = [] := List.eq_nil_of_length_eq_zero h1
    subst hl
    have hrun := run_append_owned_none (P := Tryd.prog) (w := w) w.heap.size 22 o.type 5 i0 1 Tryd.underlying22 hi (.slice none 0 0) 0 [] (own_nil w _)
    refine Roll.goes_val (w' := w) (.slice none 0 0) hg ?_ (hT _ _ ⟨none, 0, rfl, Bs_empty _ _ _ (Nat.zero_le _) (fun _ => rfl)⟩ (Below.refl _ _))
    unfold execOp
    simp [hop, resolve, invoke, builtin, hs, hx, hrun, Result.andThen]
  | some ad =>
    obtain ⟨v', w', hr, r1, r2, r3⟩ := run_append_own (P := Tryd.prog) w w.heap.size 22 o.type 5 i0 (.int .u8 0) 1 1 Tryd.underlying22 hi hz0 hz1 hz2 rfl (by decide) (.slice none 0 0) 0 [] (own_nil w _) ad m c (vals l) (by rw [vals_len, h1]; omega) (fun j u hu => by
      obtain ⟨hj, rfl⟩ := vals_get l j u hu
      obtain ⟨b, off, hab, hc⟩ := h5 (by omega)
      cases hab
      rw [show (⟨b, off, none⟩ : Addr).add j = ⟨b, off + j, none⟩ by unfold Addr.add; split <;> simp_all]
      exact hc j (by omega)) (vals_one l) (by unfold maxLen; omega) (by omega) (Nat.le_refl _)
    have ho2 : w'.ownsRow w.heap.size 5 1 v' l.length (vals l) := by rw [h1]; simpa using r1
    refine Roll.goes_val (w' := w') v' hg ?_ (hT _ _ (Bs_of_own ho2) (own_below (Below.refl _ _) (own_nil w _) r2 (Nat.le_refl _)))
    unfold execOp
    simp [hop, resolve, invoke, builtin, hs, hx, hr, Result.andThen]
/-- what the walk carries -/
structure SI (w : World) (p : World) : Prop where
  z : p.heap[w.heap.size]? = some (.cells (dcells (List.replicate 8 0) none 0 0 0) 33 (0, 0))
  bel : Below w.heap.size w p
theorem SI.step {w p q : World} (h : SI w p) (hb : Below p.heap.size p q) : SI w q :=
  ⟨(hb.block _ (heap_lt h.z)).trans h.z, h.bel.trans (hb.mono h.bel.size)⟩
attribute [local go_sem ↓] exec_sliceF exec_build33 exec_store33
def Dstate2 : List (Option Tmp) := [some 4, some 5, some 6, some 7, some 8, some 9, some 10, some 11, some 12, some 13, some 14, some 15, some 16, none]
def Lstate2 : List (List Nat) := [[], [0], [], [], [], [4], [5], [6], [3, 7], [2, 8], [], [10], [1, 9, 11], [12]]
set_option maxRecDepth 100000 in
set_option maxHeartbeats 1000000 in
theorem state_any (a : Option Addr) (n c : Nat) (l : List UInt8) (w : World) (hB : Bs w a n c l) (hn : n ≤ 140737488355328) :
    Calls Tryd.prog 20 #[.slice a n c] w fun e w' => ∃ v, e = .returned v ∧ St w' v l ∧ Below w.heap.size w w' := by
  obtain ⟨F, hF⟩ : ∃ F, F = 64 * (n / 64) := ⟨_, rfl⟩
  have hFn : F ≤ n := by omega
  obtain ⟨a', c', hsl, hBs⟩ := run_sliceF hB F hFn
  obtain ⟨R, hR0⟩ : ∃ R, R = l.drop F := ⟨_, rfl⟩
  rw [← hR0] at hBs
  have hRR : absR l = R := by unfold absR; rw [hB.1, hR0, hF]
  obtain ⟨G, hG⟩ : ∃ G : Nat, G = n / 64 := ⟨_, rfl⟩
  have e1 : (n : Int).tdiv 64 = (G : Int) := by rw [Int.tdiv_eq_ediv_of_nonneg (by omega)]; omega
  have e2 : (n : Int) / 64 = (G : Int) := by omega
  have e3 : (G : Int) * 64 = (F : Int) := by omega
  have e4 : IntKind.i64.wrap (G : Int) = (G : Int) := i64_id _ (by omega) (by omega)
  have e5 : IntKind.i64.wrap (F : Int) = (F : Int) := i64_id _ (by omega) (by omega)
  have HB := Lib.hid hB
  have HR := Lib.hid hRR
  have HBs := Lib.hid hBs
  have Hhl : Hid ((absH H8 l).length = 8) := Lib.hid (absH_len l)
  have Hn := Lib.hid hn
  have HFn := Lib.hid hFn
  clear hB hRR hBs hF hR0 hG hFn
  go_enter Tryd.func20, Tryd.ntmps20
  go_upto_region 2 with (fail)
  rw [zeros33]
  have si : SI w (w.alloc (.cells (dcells (List.replicate 8 0) none 0 0 0) 33)) := ⟨heap_new rfl, (Below.refl _ _).alloc (Nat.le_refl _) _⟩
  generalize w.alloc (.cells (dcells (List.replicate 8 0) none 0 0 0) 33) = q0 at *
  have S0 := Lib.hid si
  clear si
  refine Roll.region_f 13 17 Dstate2 Lstate2 [(0, .slice a n c), (2, .pointer (some ⟨w.heap.size, 0, none⟩)), (3, .slice none 0 0)] (fun p => SI w p) (fun p p' => Below p.heap.size p p') [fun vv p => vv = .slice a n c, fun vv p => vv = .agg (wcells (absH H8 l)), fun vv p => vv = .slice none 0 0, fun vv p => vv = .slice a n c, fun vv p => vv = .slice a n c, fun vv p => vv = .int .i64 (n : Int), fun vv p => vv = .int .i64 (G : Int), fun vv p => vv = .int .i64 (F : Int), fun vv p => vv = .slice a' (n - F) c', fun vv p => (∃ aa cc, vv = .slice aa R.length cc ∧ Bs p aa R.length cc R), fun vv p => vv = .slice a n c, fun vv p => vv = .int .i64 (n : Int), fun vv p => (∃ aa cc, vv = .agg (dcells (absH H8 l) aa R.length cc (n : Int)) ∧ Bs p aa R.length cc R)] (by kernel_rfl) (by kernel_rfl) rfl ⟨rfl, rfl, rfl, trivial⟩ (S0.out.step (Below.refl _ _).drew) ?_ ?_ ?_
  · exact ⟨fun _ _ _ _ h => h, fun _ _ _ _ h => h, fun _ _ _ _ h => h, fun _ _ _ _ h => h, fun _ _ _ _ h => h, fun _ _ _ _ h => h, fun _ _ _ _ h => h, fun _ _ _ _ h => h, fun _ _ _ _ h => h, fun v p p' hb h => (match h with | ⟨aa, cc, e, hB⟩ => ⟨aa, cc, e, hB.below hb⟩), fun _ _ _ _ h => h, fun _ _ _ _ h => h, fun v p p' hb h => (match h with | ⟨aa, cc, e, hB⟩ => ⟨aa, cc, e, hB.below hb⟩), trivial⟩
  · intro b0 hN hlv
    refine ⟨?_, ?_, ?_, ?_, ?_, ?_, ?_, ?_, ?_, ?_, ?_, ?_, ?_, trivial⟩
    · intro vals p hI hp
      have e0 : (Roll.putD Dstate2 vals [] b0).eval (.tmp 0) = .slice a n c := (Roll.eval_old rfl).trans (hlv.at 0 (0, .slice a n c) rfl)
      clear hp hlv hN
      unfold Roll.Goes
      simp only [Lstate2, List.getD_cons_zero, List.getD_cons_succ]
      generalize Roll.putD Dstate2 vals [] b0 = a1 at *
      refine Roll.goes_val (w' := p) (.slice a n c) rfl ?_ ⟨hI, Below.refl _ _, rfl⟩
      (have ec : ∀ x, a1.eval (.const x) = x := fun _ => rfl); (have ef : ∀ x, a1.eval (.func x) = .func (.func x) #[] #[] := fun _ => rfl); generalize a1.eval = ρ at *
      skip
      go_simp <;> (intros; first | (exfalso; omega) | rfl)
    · intro vals p hI hp
      have h0 : (vals 0) = .slice a n c := hp 0 (by simp [Lstate2])
      have e4 : (Roll.putD Dstate2 vals [0] b0).eval (.tmp 4) = .slice a n c := (Roll.eval_new 0 rfl (by decide) (by decide) (by omega)).trans h0
      clear hp hlv hN
      unfold Roll.Goes
      simp only [Lstate2, List.getD_cons_zero, List.getD_cons_succ]
      generalize Roll.putD Dstate2 vals [0] b0 = a1 at *
      refine Roll.goes_call 33 #[.slice a n c] p rfl (by have ec : ∀ x, a1.eval (.const x) = x := fun _ => rfl; have ef : ∀ x, a1.eval (.func x) = .func (.func x) #[] #[] := fun _ => rfl; generalize a1.eval = ρ at *; go_simp) ?_
      refine (rblocks_any a n c l p (HB.out.below hI.bel) Hn.out).mono ?_
      rintro e p2 ⟨rfl, hb⟩
      exact ⟨_, rfl, hI.step hb, hb, rfl⟩
    · intro vals p hI hp
      have e3 : (Roll.putD Dstate2 vals [] b0).eval (.tmp 3) = .slice none 0 0 := (Roll.eval_old rfl).trans (hlv.at 2 (3, .slice none 0 0) rfl)
      clear hp hlv hN
      unfold Roll.Goes
      simp only [Lstate2, List.getD_cons_zero, List.getD_cons_succ]
      generalize Roll.putD Dstate2 vals [] b0 = a1 at *
      refine Roll.goes_val (w' := p) (.slice none 0 0) rfl ?_ ⟨hI, Below.refl _ _, rfl⟩
      (have ec : ∀ x, a1.eval (.const x) = x := fun _ => rfl); (have ef : ∀ x, a1.eval (.func x) = .func (.func x) #[] #[] := fun _ => rfl); generalize a1.eval = ρ at *
      skip
      go_simp <;> (intros; first | (exfalso; omega) | rfl)
    · intro vals p hI hp
      have e0 : (Roll.putD Dstate2 vals [] b0).eval (.tmp 0) = .slice a n c := (Roll.eval_old rfl).trans (hlv.at 0 (0, .slice a n c) rfl)
      clear hp hlv hN
      unfold Roll.Goes
      simp only [Lstate2, List.getD_cons_zero, List.getD_cons_succ]
      generalize Roll.putD Dstate2 vals [] b0 = a1 at *
      refine Roll.goes_val (w' := p) (.slice a n c) rfl ?_ ⟨hI, Below.refl _ _, rfl⟩
      (have ec : ∀ x, a1.eval (.const x) = x := fun _ => rfl); (have ef : ∀ x, a1.eval (.func x) = .func (.func x) #[] #[] := fun _ => rfl); generalize a1.eval = ρ at *
      skip
      go_simp <;> (intros; first | (exfalso; omega) | rfl)
    · intro vals p hI hp
      have e0 : (Roll.putD Dstate2 vals [] b0).eval (.tmp 0) = .slice a n c := (Roll.eval_old rfl).trans (hlv.at 0 (0, .slice a n c) rfl)
      clear hp hlv hN
      unfold Roll.Goes
      simp only [Lstate2, List.getD_cons_zero, List.getD_cons_succ]
      generalize Roll.putD Dstate2 vals [] b0 = a1 at *
      refine Roll.goes_val (w' := p) (.slice a n c) rfl ?_ ⟨hI, Below.refl _ _, rfl⟩
      (have ec : ∀ x, a1.eval (.const x) = x := fun _ => rfl); (have ef : ∀ x, a1.eval (.func x) = .func (.func x) #[] #[] := fun _ => rfl); generalize a1.eval = ρ at *
      skip
      go_simp <;> (intros; first | (exfalso; omega) | rfl)
    · intro vals p hI hp
      have h4 : (vals 4) = .slice a n c := hp 4 (by simp [Lstate2])
      have e8 : (Roll.putD Dstate2 vals [4] b0).eval (.tmp 8) = .slice a n c := (Roll.eval_new 4 rfl (by decide) (by decide) (by omega)).trans h4
      clear hp hlv hN
      unfold Roll.Goes
      simp only [Lstate2, List.getD_cons_zero, List.getD_cons_succ]
      generalize Roll.putD Dstate2 vals [4] b0 = a1 at *
      refine Roll.goes_val (w' := p) (.int .i64 (n : Int)) rfl ?_ ⟨hI, Below.refl _ _, rfl⟩
      (have ec : ∀ x, a1.eval (.const x) = x := fun _ => rfl); (have ef : ∀ x, a1.eval (.func x) = .func (.func x) #[] #[] := fun _ => rfl); generalize a1.eval = ρ at *
      clear h4
      go_simp <;> (intros; first | (exfalso; omega) | rfl)
    · intro vals p hI hp
      have h5 : (vals 5) = .int .i64 (n : Int) := hp 5 (by simp [Lstate2])
      have e9 : (Roll.putD Dstate2 vals [5] b0).eval (.tmp 9) = .int .i64 (n : Int) := (Roll.eval_new 5 rfl (by decide) (by decide) (by omega)).trans h5
      clear hp hlv hN
      unfold Roll.Goes
      simp only [Lstate2, List.getD_cons_zero, List.getD_cons_succ]
      generalize Roll.putD Dstate2 vals [5] b0 = a1 at *
      refine Roll.goes_val (w' := p) (.int .i64 (G : Int)) rfl ?_ ⟨hI, Below.refl _ _, rfl⟩
      (have ec : ∀ x, a1.eval (.const x) = x := fun _ => rfl); (have ef : ∀ x, a1.eval (.func x) = .func (.func x) #[] #[] := fun _ => rfl); generalize a1.eval = ρ at *
      clear h5
      go_simp <;> (intros; first | (exfalso; omega) | rfl)
    · intro vals p hI hp
      have h6 : (vals 6) = .int .i64 (G : Int) := hp 6 (by simp [Lstate2])
      have e10 : (Roll.putD Dstate2 vals [6] b0).eval (.tmp 10) = .int .i64 (G : Int) := (Roll.eval_new 6 rfl (by decide) (by decide) (by omega)).trans h6
      clear hp hlv hN
      unfold Roll.Goes
      simp only [Lstate2, List.getD_cons_zero, List.getD_cons_succ]
      generalize Roll.putD Dstate2 vals [6] b0 = a1 at *
      refine Roll.goes_val (w' := p) (.int .i64 (F : Int)) rfl ?_ ⟨hI, Below.refl _ _, rfl⟩
      (have ec : ∀ x, a1.eval (.const x) = x := fun _ => rfl); (have ef : ∀ x, a1.eval (.func x) = .func (.func x) #[] #[] := fun _ => rfl); generalize a1.eval = ρ at *
      clear h6
      go_simp <;> (intros; first | (exfalso; omega) | rfl)
    · intro vals p hI hp
      have h3 : (vals 3) = .slice a n c := hp 3 (by simp [Lstate2])
      have h7 : (vals 7) = .int .i64 (F : Int) := hp 7 (by simp [Lstate2])
      have e7 : (Roll.putD Dstate2 vals [3, 7] b0).eval (.tmp 7) = .slice a n c := (Roll.eval_new 3 rfl (by decide) (by decide) (by omega)).trans h3
      have e11 : (Roll.putD Dstate2 vals [3, 7] b0).eval (.tmp 11) = .int .i64 (F : Int) := (Roll.eval_new 7 rfl (by decide) (by decide) (by omega)).trans h7
      clear hp hlv hN
      unfold Roll.Goes
      simp only [Lstate2, List.getD_cons_zero, List.getD_cons_succ]
      generalize Roll.putD Dstate2 vals [3, 7] b0 = a1 at *
      refine Roll.goes_val (w' := p) (.slice a' (n - F) c') rfl ?_ ⟨hI, Below.refl _ _, rfl⟩
      (have ec : ∀ x, a1.eval (.const x) = x := fun _ => rfl); (have ef : ∀ x, a1.eval (.func x) = .func (.func x) #[] #[] := fun _ => rfl); generalize a1.eval = ρ at *
      clear h3 h7
      go_simp <;> (intros; first | (exfalso; omega) | rfl)
    · intro vals p hI hp
      have h2 : (vals 2) = .slice none 0 0 := hp 2 (by simp [Lstate2])
      have h8 : (vals 8) = .slice a' (n - F) c' := hp 8 (by simp [Lstate2])
      have e6 : (Roll.putD Dstate2 vals [2, 8] b0).eval (.tmp 6) = .slice none 0 0 := (Roll.eval_new 2 rfl (by decide) (by decide) (by omega)).trans h2
      have e12 : (Roll.putD Dstate2 vals [2, 8] b0).eval (.tmp 12) = .slice a' (n - F) c' := (Roll.eval_new 8 rfl (by decide) (by decide) (by omega)).trans h8
      clear hp hlv hN
      unfold Roll.Goes
      simp only [Lstate2, List.getD_cons_zero, List.getD_cons_succ]
      generalize Roll.putD Dstate2 vals [2, 8] b0 = a1 at *
      refine goes_append_nil rfl (.tmp 6) (.tmp 12) rfl e6 a' (n - F) c' R e12 (HBs.out.below hI.bel) (by have := Hn.out; omega) ?_
      intro v' w' hv hb
      exact ⟨hI.step hb, hb, hv⟩
    · intro vals p hI hp
      have e0 : (Roll.putD Dstate2 vals [] b0).eval (.tmp 0) = .slice a n c := (Roll.eval_old rfl).trans (hlv.at 0 (0, .slice a n c) rfl)
      clear hp hlv hN
      unfold Roll.Goes
      simp only [Lstate2, List.getD_cons_zero, List.getD_cons_succ]
      generalize Roll.putD Dstate2 vals [] b0 = a1 at *
      refine Roll.goes_val (w' := p) (.slice a n c) rfl ?_ ⟨hI, Below.refl _ _, rfl⟩
      (have ec : ∀ x, a1.eval (.const x) = x := fun _ => rfl); (have ef : ∀ x, a1.eval (.func x) = .func (.func x) #[] #[] := fun _ => rfl); generalize a1.eval = ρ at *
      skip
      go_simp <;> (intros; first | (exfalso; omega) | rfl)
    · intro vals p hI hp
      have h10 : (vals 10) = .slice a n c := hp 10 (by simp [Lstate2])
      have e14 : (Roll.putD Dstate2 vals [10] b0).eval (.tmp 14) = .slice a n c := (Roll.eval_new 10 rfl (by decide) (by decide) (by omega)).trans h10
      clear hp hlv hN
      unfold Roll.Goes
      simp only [Lstate2, List.getD_cons_zero, List.getD_cons_succ]
      generalize Roll.putD Dstate2 vals [10] b0 = a1 at *
      refine Roll.goes_val (w' := p) (.int .i64 (n : Int)) rfl ?_ ⟨hI, Below.refl _ _, rfl⟩
      (have ec : ∀ x, a1.eval (.const x) = x := fun _ => rfl); (have ef : ∀ x, a1.eval (.func x) = .func (.func x) #[] #[] := fun _ => rfl); generalize a1.eval = ρ at *
      clear h10
      go_simp <;> (intros; first | (exfalso; omega) | rfl)
    · intro vals p hI hp
      have h1 : (vals 1) = .agg (wcells (absH H8 l)) := hp 1 (by simp [Lstate2])
      have h9 : (∃ aa cc, (vals 9) = .slice aa R.length cc ∧ Bs p aa R.length cc R) := hp 9 (by simp [Lstate2])
      have h11 : (vals 11) = .int .i64 (n : Int) := hp 11 (by simp [Lstate2])
      have e5 : (Roll.putD Dstate2 vals [1, 9, 11] b0).eval (.tmp 5) = .agg (wcells (absH H8 l)) := (Roll.eval_new 1 rfl (by decide) (by decide) (by omega)).trans h1
      have e13 : (Roll.putD Dstate2 vals [1, 9, 11] b0).eval (.tmp 13) = vals 9 := (Roll.eval_new 9 rfl (by decide) (by decide) (by omega))
      have e15 : (Roll.putD Dstate2 vals [1, 9, 11] b0).eval (.tmp 15) = .int .i64 (n : Int) := (Roll.eval_new 11 rfl (by decide) (by decide) (by omega)).trans h11
      clear hp hlv hN
      unfold Roll.Goes
      simp only [Lstate2, List.getD_cons_zero, List.getD_cons_succ]
      generalize Roll.putD Dstate2 vals [1, 9, 11] b0 = a1 at *
      obtain ⟨aa, cc, h9a, h9b⟩ := h9
      refine Roll.goes_val (w' := p) (.agg (dcells (absH H8 l) aa R.length cc (n : Int))) rfl ?_ ⟨hI, Below.refl _ _, aa, cc, rfl, h9b⟩
      rw [h9a] at e13
      have hrun := run_build33 p (absH H8 l) Hhl.out aa R.length cc (n : Int)
      rw [← e5, ← e13, ← e15] at hrun
      rw [exec_build33]
      exact hrun
  · intro vals p hI hR
    have h0 : (vals 0) = .slice a n c := hR 0 (by omega)
    have h1 : (vals 1) = .agg (wcells (absH H8 l)) := hR 1 (by omega)
    have h2 : (vals 2) = .slice none 0 0 := hR 2 (by omega)
    have h3 : (vals 3) = .slice a n c := hR 3 (by omega)
    have h4 : (vals 4) = .slice a n c := hR 4 (by omega)
    have h5 : (vals 5) = .int .i64 (n : Int) := hR 5 (by omega)
    have h6 : (vals 6) = .int .i64 (G : Int) := hR 6 (by omega)
    have h7 : (vals 7) = .int .i64 (F : Int) := hR 7 (by omega)
    have h8 : (vals 8) = .slice a' (n - F) c' := hR 8 (by omega)
    have h9 : (∃ aa cc, (vals 9) = .slice aa R.length cc ∧ Bs p aa R.length cc R) := hR 9 (by omega)
    have h10 : (vals 10) = .slice a n c := hR 10 (by omega)
    have h11 : (vals 11) = .int .i64 (n : Int) := hR 11 (by omega)
    have h12 : (∃ aa cc, (vals 12) = .agg (dcells (absH H8 l) aa R.length cc (n : Int)) ∧ Bs p aa R.length cc R) := hR 12 (by omega)
    clear hR
    simp only [List.range_succ, List.range_zero, List.nil_append, List.cons_append, Roll.putD, Act.put, List.getD_cons_zero, List.getD_cons_succ, List.setIfInBounds_toArray, List.set_cons_zero, List.set_cons_succ, List.drop_succ_cons, List.drop_zero, Dstate2]
    simp only [h0, h1, h2, h3, h4, h5, h6, h7, h8, h10, h11]
    clear h0 h1 h2 h3 h4 h5 h6 h7 h8 h10 h11
    obtain ⟨aa, cc, hv12, hB12⟩ := h12
    rw [hv12]
    clear h9 hv12
    have hrun := run_store33 p w.heap.size (absH H8 l) Hhl.out aa R.length cc (n : Int) ⟨_, _, _, _, _, by simp, hI.z⟩
    have HI := Lib.hid hI
    have HB12 := Lib.hid hB12
    clear hI hB12
    go_wp2_with fail
    
    refine bodyPost_ret (v := .agg (dcells (absH H8 l) aa R.length cc (n : Int))) ?_ rfl ⟨_, rfl, ⟨aa, cc, by rw [HR.out, HB.out.1], ?_⟩, Below_setRow HI.out.bel (by omega) _⟩
    · exact results_cell_row rfl _ _ w.heap.size 33 _ (0, 0) _ rfl (setRow_heap _ _ _ _ _ _ HI.out.z) Tryd.underlying33 rfl (by rw [dcells_size _ _ _ _ _ Hhl.out]; exact size33)
    · rw [HR.out]; exact Bs_setRow33 HB12.out ⟨_, _, _, _, _, by simp, HI.out.z⟩ _
end Go.Proofs.YtdfpjhpkkhdpoaaDoor

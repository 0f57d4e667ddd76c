/-
  The reference's readers, by value: Fail, End, Zag, ReadUint.
-/
import Derived.Test.YtdnbkiaolimfjaaB1
import Derived.Test.YtdnbkiaolimfjaaN1
namespace Go.Proofs.Ytdnbkiaolimfjaa
open Go.RowKit
set_option linter.unusedSimpArgs false
set_option linter.unusedVariables false
theorem Below_row {B : Nat} {w w' : World} (h : Below B w w') {g : Nat} (hg : B ≤ g) (cs : Array Value) : Below B w (w'.setRow g cs) :=
  ⟨h.os, h.tape, h.output, by simpa using h.size, fun k hk => (setRow_other w' g k cs (by omega)).trans (h.block k hk)⟩
/-- two results: a row of cells and a slot -/
theorem results_row_tmp {P : Program} {fn : Func} {p q : Tmp} {ty : TypeId} (h : fn.results = #[.cell p ty, .tmp q]) (tmps : Array Value) (w : World) (g : Nat) (t : TypeId) (cs : Array Value) (fr : Nat × Nat) (d : TypeDesc)
    (hp : tmps.getD p undef = .pointer (some ⟨g, 0, none⟩)) (hg : w.heap[g]? = some (.cells cs t fr))
    (hu : P.underlying ty = some d) (hd : (match d with | .struct _ | .array _ _ => true | _ => false) = true) (hi : (P.info? ty).map (·.size) = some cs.size) (v : Value) (hq : tmps.getD q undef = v) :
    (results fn tmps).run P w = .ok (.tuple #[.agg cs, v]) w := by
  have hp' : tmps[p]?.getD undef = .pointer (some ⟨g, 0, none⟩) := by simpa using hp
  have hq' : tmps[q]?.getD undef = v := by simpa using hq
  simp [results, h, hp', hq', asAddr, run_loadVar_row w g t ty cs fr d hg hu hd hi]
/-- two results: two rows of cells -/
theorem results_row_row {P : Program} {fn : Func} {p q : Tmp} {ty ty2 : TypeId} (h : fn.results = #[.cell p ty, .cell q ty2]) (tmps : Array Value) (w : World) (g : Nat) (t : TypeId) (cs : Array Value) (fr : Nat × Nat) (d : TypeDesc)
    (hp : tmps.getD p undef = .pointer (some ⟨g, 0, none⟩)) (hg : w.heap[g]? = some (.cells cs t fr))
    (hu : P.underlying ty = some d) (hd : (match d with | .struct _ | .array _ _ => true | _ => false) = true) (hi : (P.info? ty).map (·.size) = some cs.size)
    (g2 : Nat) (t2 : TypeId) (cs2 : Array Value) (fr2 : Nat × Nat) (d2 : TypeDesc)
    (hp2 : tmps.getD q undef = .pointer (some ⟨g2, 0, none⟩)) (hg2 : w.heap[g2]? = some (.cells cs2 t2 fr2))
    (hu2 : P.underlying ty2 = some d2) (hd2 : (match d2 with | .struct _ | .array _ _ => true | _ => false) = true) (hi2 : (P.info? ty2).map (·.size) = some cs2.size) :
    (results fn tmps).run P w = .ok (.tuple #[.agg cs, .agg cs2]) w := by
  have hp' : tmps[p]?.getD undef = .pointer (some ⟨g, 0, none⟩) := by simpa using hp
  have hq' : tmps[q]?.getD undef = .pointer (some ⟨g2, 0, none⟩) := by simpa using hp2
  simp [results, h, hp', hq', asAddr, run_loadVar_row w g t ty cs fr d hg hu hd hi, run_loadVar_row w g2 t2 ty2 cs2 fr2 d2 hg2 hu2 hd2 hi2]
/-- a reader by value -/
def rdv (a : Option Addr) (n c e : Nat) : Value := .agg #[.slice a n c, .int .i64 (e : Int)]
/-- what a reading by value gives: the reader and a value -/
def RdsV (D : Nat → Prop) (w : World) (s : RS) (v : Value) (x : Ending) (w' : World) : Prop :=
  ∃ a c, x = .returned (.tuple #[rdv a s.l.length c s.e, v]) ∧ Bs D w' a s.l.length c s.l ∧ Below w.heap.size w w'
def fails (e f : Nat) : Nat := if e = 0 then f else e
set_option maxRecDepth 100000 in
set_option maxHeartbeats 400000 in
theorem refFail_any (a : Option Addr) (n c e f : Nat) (w : World) :
    Calls Try.prog 60 #[rdv a n c e, .int .i64 (f : Int)] w fun x w' => x = .returned (rdv a n c (fails e f)) ∧ Below w.heap.size w w' := by
  unfold rdv
  have hb2 : ∀ o o' : Obj, Below w.heap.size w ((w.alloc o).alloc o') := fun o o' => ((Below.refl _ _).alloc (Nat.le_refl _) _).alloc (by simp) _
  have HB2 := Lib.hid hb2
  clear hb2
  by_cases he : e = 0
  · subst he
    go_enter Try.func60, Try.ntmps60
    go_wp2
    exact bodyPost_ret (v := .agg #[.slice a n c, .int .i64 (f : Int)]) (by simp [results, Try.results60, go_sem]) rfl ⟨rfl, HB2.out _ _⟩
  · have he2 : ((e : Int) == 0) = false := by rw [beq_eq_false_iff_ne]; omega
    have hf : Hid (fails e f = e) := Lib.hid (by unfold fails; rw [if_neg he])
    go_enter Try.func60, Try.ntmps60
    go_wp2
    exact bodyPost_ret (v := .agg #[.slice a n c, .int .i64 (e : Int)]) (by simp [results, Try.results60, go_sem]) rfl ⟨by rw [hf.out], HB2.out _ _⟩
set_option maxRecDepth 100000 in
set_option maxHeartbeats 400000 in
theorem refEnd_any (a : Option Addr) (n c e : Nat) (w : World) (hn : n ≤ 9223372036854775807) :
    Calls Try.prog 26 #[rdv a n c e] w fun x w' => x = .returned (.int .i64 (endE e n : Int)) ∧ Below w.heap.size w w' := by
  unfold rdv
  have hb1 : ∀ o : Obj, Below w.heap.size w (w.alloc o) := fun o => ((Below.refl _ _).alloc (Nat.le_refl _) _)
  have HB1 := Lib.hid hb1
  clear hb1
  obtain ⟨E, hE⟩ : ∃ E, E = endE e n := ⟨_, rfl⟩
  rw [← hE]
  have HE := Lib.hid hE
  clear hE
  by_cases he : e = 0
  · subst he
    by_cases h0 : 0 < n
    · have HE2 : Hid (E = 7) := Lib.hid (by rw [HE.out, endE, if_pos ⟨rfl, h0⟩])
      go_enter Try.func26, Try.ntmps26
      go_wp2
      go_ret
      exact ⟨by rw [HE2.out]; rfl, HB1.out _⟩
    · obtain rfl : n = 0 := by omega
      have HE2 : Hid (E = 0) := Lib.hid (by rw [HE.out, endE, if_neg (by omega)])
      go_enter Try.func26, Try.ntmps26
      go_wp2
      go_ret
      exact ⟨by rw [HE2.out]; rfl, HB1.out _⟩
  · have he2 : ((e : Int) == 0) = false := by rw [beq_eq_false_iff_ne]; omega
    have HE2 : Hid (E = e) := Lib.hid (by rw [HE.out, endE, if_neg (by omega)])
    go_enter Try.func26, Try.ntmps26
    go_wp2
    go_ret
    exact ⟨by rw [HE2.out]; rfl, HB1.out _⟩
theorem refZag_any (u : Nat) (U : Int) (w : World) (hu : u < 18446744073709551616) (hU : U = (u : Int)) :
    Calls Try.prog 61 #[.int .u64 U] w fun x w' => x = .returned (.int .i64 (zag u)) ∧ w = w' := by
  subst hU
  obtain ⟨Z, hZ⟩ : ∃ Z, Z = zag u := ⟨_, rfl⟩
  rw [← hZ]
  have HZ := Lib.hid hZ
  clear hZ
  by_cases h : u % 2 = 1
  · have h1 : ((u : Int) % 2 == 1) = true := by rw [beq_iff_eq]; omega
    have hw1 : IntKind.i64.wrap ((u : Int) / 2) = (u : Int) / 2 := i64_id _ (by omega) (by omega)
    have hw2 : IntKind.i64.wrap (-((u : Int) / 2)) = -((u : Int) / 2) := i64_id _ (by omega) (by omega)
    have hw3 : IntKind.i64.wrap (-((u : Int) / 2) - 1) = -((u : Int) / 2) - 1 := i64_id _ (by omega) (by omega)
    have HZ2 : Hid (Z = -((u : Int) / 2) - 1) := Lib.hid (by rw [HZ.out]; unfold zag; rw [if_neg (by omega)]; omega)
    go_enter Try.func61, Try.ntmps61
    go_wp2
    go_ret
    exact ⟨by rw [HZ2.out]; rfl, rfl⟩
  · have h1 : ((u : Int) % 2 == 1) = false := by rw [beq_eq_false_iff_ne]; omega
    have hw1 : IntKind.i64.wrap ((u : Int) / 2) = (u : Int) / 2 := i64_id _ (by omega) (by omega)
    have HZ2 : Hid (Z = (u : Int) / 2) := Lib.hid (by rw [HZ.out]; unfold zag; rw [if_pos (by omega)]; omega)
    go_enter Try.func61, Try.ntmps61
    go_wp2
    go_ret
    exact ⟨by rw [HZ2.out]; rfl, rfl⟩
end Go.Proofs.Ytdnbkiaolimfjaa

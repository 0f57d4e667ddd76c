/-
  For all lists of slices of bytes of bulk at most 1048576: the law DigestTails returns true, and its argument reads as it did. The tables of the hash function hold what their initialisers lay.
-/
import Derived.Test.YtdfpjhpkkhdpoaaDoorC2
import Derived.Test.YtdfpjhpkkhdpoaaDoorD2
import Derived.Deep.Matrix
namespace Go.Proofs.YtdfpjhpkkhdpoaaDoor.lawTails
open Go.ChangeShapes Go.WideShapes Go.ChangeAt Go.RowKit
theorem row_bs {W : World} {A : Option Addr} {L C : Nat} {Z : List Int} (h1 : L ≤ C) (h2 : C ≤ maxLen) (h3 : Z.length = C) (h4 : ∀ n ∈ Z, (Lit.int .u8 n).wf = true) (h5 : A = none → C = 0)
    (h6 : ∀ a', A = some a' → 0 ≤ a'.block ∧ ∀ c, c < C → W.cell? (a'.add c) = some (.int .u8 (Z.getD c 0))) : Bs W A L C ((Z.take L).map fun n => UInt8.ofNat n.toNat) := by
  have hlen : ((Z.take L).map fun n => UInt8.ofNat n.toNat).length = L := by simp; omega
  refine ⟨hlen, h1, h2, h5, fun hn => ?_⟩
  cases A with
  | none => have := h5 rfl; omega
  | some a =>
    have hcell := (h6 a rfl).2
    obtain ⟨ab, ao, spot⟩ := a
    have hspot : spot = none := by simpa [Addr.add] using World.cell?_spot (hcell 0 (by omega))
    subst hspot
    refine ⟨ab, ao, rfl, fun i hi => ?_⟩
    have hci := hcell i (by omega)
    rw [Addr.add_mid] at hci
    rw [hci]
    have hb := range_u8 h4 i
    have e : Z[i]?.getD 0 = Z[i]'(by omega) := by simp [List.getElem?_eq_getElem (show i < Z.length by omega)]
    rw [e] at hb
    rw [byteAt_lt _ _ (by rw [hlen]; exact hi), List.getD_eq_getElem?_getD, e]
    simp only [List.getElem_map, List.getElem_take, bi]
    congr 2
    simp only [UInt8.toNat_ofNat']
    omega
theorem row_bulk {H : Type} {A : Option Addr} {L C : Nat} {Z : List Int} (h1 : L ≤ C) (h3 : Z.length = C) (h5 : A = none → C = 0) : L + 1 ≤ Rows.uptoBulk (Go.Deep.intRow (H := H) .u8 A L Z) := by
  cases A with
  | none =>
    have := h5 rfl
    simp only [Go.Deep.intRow, Rows.uptoBulk]
    omega
  | some a =>
    have := bulk_lits (H := H) .u8 (Z.take L)
    rw [List.length_take] at this
    simp only [Go.Deep.intRow, Rows.uptoBulk]
    omega
theorem rows_bulk {H : Type} (A : Nat → Option Addr) (L : Nat → Nat) (Z : Nat → List Int) (P : Nat → Pc) (R : List Nat) (hr : ∀ r ∈ R, (P r).l.length + 1 ≤ Rows.uptoBulk (Go.Deep.intRow (H := H) .u8 (A r) (L r) (Z r))) :
    (joined (R.map P)).length + R.length ≤ Rows.uptoBulkAll (R.map fun r => Go.Deep.intRow (H := H) .u8 (A r) (L r) (Z r)) := by
  induction R with
  | nil => simp [joined]
  | cons r R ih =>
    have h1 := hr r (by simp)
    have h2 := ih (fun x hx => hr x (by simp [hx]))
    simp only [joined, List.map_cons, List.flatMap_cons, List.length_append, List.length_cons, Rows.uptoBulkAll] at h2 ⊢
    omega
/-- a list of slices of bytes that came in -/
theorem open_parts {H : Type} {enc : TypeId × Value → H} {W : World} {base : Nat} {v : Value} {d : DataW H} {p : List MemPlace} (hval : Value.okWide Tryd.prog W .any base 39 v) (h : DataW.Trod enc Tryd.prog W 0 (fun _ => true) true 39 v d p) :
    ∃ a n c ps, v = .slice a n c ∧ Ps W a n ps ∧ n + (joined ps).length ≤ Rows.uptoBulk d := by
  obtain ⟨a1, n, c, rfl⟩ := okWide_slice Tryd.underlying39 hval
  obtain ⟨fuel, hf⟩ := h
  rcases Go.Deep.open_int_rows Tryd.underlying39 Tryd.underlying22 u8_under (by kernel_rfl) cells1b hf with ⟨hcs, hx⟩ | ⟨a, n', c', A, L, C, Z, hcs, _, hl, hm, hx, hr⟩
  · simp [Value.cells] at hcs
    obtain ⟨rfl, rfl, rfl⟩ := hcs
    exact ⟨none, 0, 0, [], rfl, ⟨rfl, fun h => absurd h (by omega), by simp⟩, by simp [joined]⟩
  · simp [Value.cells] at hcs
    obtain ⟨rfl, rfl, rfl⟩ := hcs
    simp only [Prod.mk.injEq] at hx
    obtain ⟨rfl, rfl⟩ := hx
    have hbs : ∀ r, r < n → Bs W (A r) (L r) (C r) (((Z r).take (L r)).map fun n => UInt8.ofNat n.toNat) := fun r hrn => by
      obtain ⟨_, r1, r2, r3, r4, r5, r6⟩ := hr r (by omega)
      exact row_bs r1 r2 r3 r4 r5 r6
    refine ⟨some a, n, c, (List.range n).map fun r => ⟨A r, L r, C r, ((Z r).take (L r)).map fun n => UInt8.ofNat n.toNat⟩, rfl, ⟨by simp, fun hn => ?_, fun q hq => ?_⟩, ?_⟩
    · obtain ⟨ab, ao, spot⟩ := a
      have hspot : spot = none := by simpa [Addr.add] using World.cell?_spot (hr 0 (by omega)).1
      subst hspot
      refine ⟨ab, ao, rfl, fun i hi => ?_⟩
      have hin : i < n := by simpa using hi
      have := (hr i (by omega)).1
      rw [Addr.add_mid] at this
      rw [this]
      simp
    · obtain ⟨r, hrr, rfl⟩ := List.mem_map.1 hq
      exact hbs r (List.mem_range.1 hrr)
    · have := rows_bulk (H := H) A L Z (fun r => ⟨A r, L r, C r, ((Z r).take (L r)).map fun n => UInt8.ofNat n.toNat⟩) (List.range n) (fun r hrr => by
        obtain ⟨_, r1, _, r3, _, r5, _⟩ := hr r (by have := List.mem_range.1 hrr; omega)
        rw [(hbs r (List.mem_range.1 hrr)).1]
        exact row_bulk r1 r3 r5)
      rw [List.length_range] at this
      simp only [Rows.uptoBulk]
      omega
theorem contract (H : Type) (enc : TypeId × Value → H) (W : World) (base : Nat) (args : Array Value) (ds gs : List (DataW H)) (before : List MemPlace)
    (hval : ∀ (j : Nat) t v, Tryd.f8.params[j]? = some t → args[j]? = some v → Value.okWide Tryd.prog W .any base t v)
    (hW : DataW.Whole enc Tryd.prog Tryd.f8.params.toList Rows.digestTailsSpec.vars false W args.toList ds gs before) (hL : laidMetH Tryd.prog Rows.digestTailsUptoRow.laid W) (hk : Rows.uptoSmall H (ds ++ gs) = true) :
    Calls Tryd.prog 8 args W fun e W' => ∃ v, e = .returned v ∧ Rows.digestTailsSpec.post enc Tryd.prog Tryd.f8 false true false false W args v W' := by
  have hW' := hW
  obtain ⟨p, q, hA0, hV, rfl, hfz, hnd⟩ := hW
  have hA : DataW.TrodAll enc Tryd.prog W 0 (fun _ => true) true Tryd.f8.params.toList args.toList ds p := hA0
  rw [Tryd.params8] at hA hval
  obtain ⟨v0, vs0, d0, ds0, p0, q0, hargs, rfl, rfl, h0, r0⟩ := trodAll_cons hA
  obtain ⟨rfl, rfl, rfl⟩ := trodAll_nil r0
  obtain rfl : args = #[v0] := by cases args; simp_all
  obtain ⟨rfl, rfl⟩ := trodVars_none hV
  obtain ⟨a, n, c, ps, rfl, k1, m1⟩ := open_parts (hval 0 39 v0 rfl rfl) h0
  clear hA0
  have hb := of_decide_eq_true hk
  simp only [List.append_nil, Rows.uptoBulkAll] at hb
  have lt : ∀ x ∈ p0, x.block < W.heap.size := fun x hx => hW'.lt x (by simpa using hx)
  refine (tails_any a n c ps W (tabs_laid hL) k1 (by omega) (by omega)).mono fun e W' ⟨he, hg⟩ => ?_
  subst he
  refine ⟨_, rfl, _, _, _, [], p0 ++ [], [], hW', ?_, ?_, ?_, hg.frame _, fun h => by cases h⟩
  · exact trodAll_cons_mk (shut_bool Tryd.underlying4 _) trodAll_mk0
  · exact trodAll_cons_mk (Below.trod laidOut (by kernel_rfl) (of_decide_eq_true (by kernel_rfl)) h0 hg lt) trodAll_mk0
  · rfl
theorem laid_met (os : Os) : laidMet Tryd.prog Rows.digestTailsUptoRow.laid ((laidWorld os).forCall (fun _ _ => 0) ⟨#[], #[.slice none 0 0], []⟩).memory :=
  laidMet_of_run' 8 (by kernel_rfl) (by kernel_rfl)
theorem reads (os : Os) {H : Type} (enc : TypeId × Value → H) : ∃ places, DataW.whole enc Tryd.prog ((laidWorld os).forCall (fun _ _ => 0) ⟨#[], #[.slice none 0 0], []⟩).memory Tryd.f8.params.toList Rows.digestTailsSpec.vars false #[Value.slice none 0 0].toList 8 = some ([.nil], [], places) :=
  ⟨[], by kernel_rfl⟩
set_option maxRecDepth 100000 in
theorem liftedUpto (os : Os) (started : os.Started) (H : Type) (enc : TypeId × Value → H) (F : Stop.Interp) :
    ReturnsInHanded {} Tryd.checked os 8 .any ((Rows.OpenSpec.upto Rows.digestTailsSpec).preRow enc Tryd.prog Tryd.f8 Rows.digestTailsUptoRow.domain false Rows.digestTailsUptoRow.laid) (((Rows.OpenSpec.upto Rows.digestTailsSpec).at F).post enc Tryd.prog Tryd.f8 false true false false) := by
  obtain ⟨places, hx⟩ := reads os enc
  refine returnsInHanded_of_row (C := Tryd.checked) (s := Rows.OpenSpec.upto Rows.digestTailsSpec) own started (by kernel_rfl) Tryd.func8
    (witness_row_at (enc := enc) (C := Tryd.checked) false (laidWorld os) #[.slice none 0 0] rfl (by kernel_rfl) (by kernel_rfl) (by kernel_rfl)
      (OpenSpec.preRow_of_cond 8 hx (by kernel_rfl) (fun k hk => by cases hk; kernel_rfl) (by kernel_rfl) (laid_met os))) ?_
  intro W base args ds gs before hval hW _ hk _ hL _ _
  exact contract H enc W base args ds gs before hval hW hL (hk _ rfl)
theorem saidUpto : Rows.DigestTailsUptoSaid :=
  OpenClaim.holds_of_cond 8 Tryd.f8 rfl rfl rfl rfl rfl rfl rfl ⟨rfl, rfl, rfl, rfl, rfl⟩ rfl rfl rfl rfl rfl (by kernel_rfl) Tryd.func8 (by kernel_rfl)
    (of_decide_eq_true (by kernel_rfl)) (by unfold Func.isWrapper; first | (rw [if_pos (by decide +kernel)]; kernel_rfl) | (rw [if_neg (by decide +kernel)]; exact ⟨rfl, rfl⟩))
    (fun os started H enc _ F => by rw [OpenClaim.pre_eq_preRow]; exact liftedUpto os started H enc F)
theorem plain (f : FuncId) (fn : Func) (hf : Tryd.pinned.checked.prog.funcNamed "rollbook/rollbooklaw01.DigestTails" = some f) (hfn : Tryd.pinned.checked.prog.funcs[f]? = some fn) :
    false = Tryd.pinned.checked.prog.looks [] ∧ ∀ (j : Nat) t, fn.params[j]? = some t → Tryd.pinned.checked.prog.wantsStandIn t = false := by
  obtain rfl : f = 8 := Option.some.inj ((show Tryd.prog.funcNamed "rollbook/rollbooklaw01.DigestTails" = some 8 by kernel_rfl).symm.trans hf) |>.symm
  obtain rfl : fn = Tryd.f8 := (Option.some.inj (Tryd.func8.symm.trans hfn)).symm
  refine ⟨by kernel_rfl, fun j t ht => ?_⟩
  rw [Tryd.params8] at ht
  obtain rfl : t = 39 := by simpa using Array.mem_of_getElem? ht
  exact (show Tryd.prog.wantsStandIn 39 = false by kernel_rfl)
/-- the second form's card -/
theorem cardUpto : Rows.DigestTailsUptoCardSaid :=
  Claim7.holds_tied_plain_at .later [] _ _ _ _ saidUpto (fun _ h => by cases h) (by kernel_rfl) (fun _ h => by cases h) digestTailsUpto_row_tie rfl ⟨rfl, rfl⟩ (by kernel_rfl) rfl plain (by kernel_rfl)
end Go.Proofs.YtdfpjhpkkhdpoaaDoor.lawTails

/-
  The disk and its specification side by side: reads, writes, flushes.
-/
import Derived.Test.YtbnodhcgdgcebaaYF
import Derived.Test.YtbnodhcgdgcebaaYH
import Derived.Test.YtbnodhcgdgcebaaT6
namespace Go.Proofs.Ytbnodhcgdgcebaa
open Go.RowKit
set_option linter.unusedSimpArgs false
set_option linter.unusedVariables false
/-- an operation in a block of its own -/
def opO (gb : Nat) (m : OM) : Obj := ⟨fun B w => w.heap[gb]? = some (.cells m.cells.toArray 35 (0, 0)) ∧ B gb, fun {B S w w'} h hk hs => ⟨hk.heap h.1 (hs gb (heap_lt h.1) h.2), h.2⟩⟩
/-- two of them -/
theorem Lv.pick {w0 w : World} {L : List Obj} (h : Lv w0 w L) {i j : Nat} {o1 o2 : Obj} (hij : i ≠ j) (h1 : L[i]? = some o1) (h2 : L[j]? = some o2) : Lv w0 w [o1, o2] := by
  obtain ⟨k1, Bs, k2, k3, k4⟩ := h
  have hil : i < L.length := (List.getElem?_eq_some_iff.1 h1).1
  have hjl : j < L.length := (List.getElem?_eq_some_iff.1 h2).1
  have e1 : Bs[i]? = some Bs[i] := List.getElem?_eq_getElem (by omega)
  have e2 : Bs[j]? = some Bs[j] := List.getElem?_eq_getElem (by omega)
  refine ⟨k1, [Bs[i], Bs[j]], rfl, fun a o B ho hB => ?_, fun a b A B hab hA hB x hx hx2 => ?_⟩
  · match a, ho, hB with
    | 0, ho, hB => cases ho; cases hB; exact k3 i o1 _ h1 e1
    | 1, ho, hB => cases ho; cases hB; exact k3 j o2 _ h2 e2
    | a + 2, ho, hB => cases ho
  · match a, b, hA, hB with
    | 0, 0, hA, hB => exact hab rfl
    | 0, 1, hA, hB => cases hA; cases hB; exact k4 i j _ _ hij e1 e2 x hx hx2
    | 1, 0, hA, hB => cases hA; cases hB; exact k4 j i _ _ (fun e => hij e.symm) e2 e1 x hx hx2
    | 1, 1, hA, hB => exact hab rfl
    | a + 2, _, hA, _ => cases hA
    | 0, b + 2, _, hB => cases hB
    | 1, b + 2, _, hB => cases hB
section
variable {w0 w : World} {L : List Obj} {i g gb : Nat} {d : DM} {m : OM}
theorem Lv.opc (h : Lv w0 w L) (hi : L[i]? = some (opO gb m)) : gb < w.heap.size ∧ w.cell? ⟨gb, 0, none⟩ = some (.int .i64 m.kind) ∧ w.cell? ⟨gb, 1, none⟩ = some (.int .i64 m.k) ∧ w.cell? ⟨gb, 2, none⟩ = some (.int .i64 m.n) ∧ w.cell? ⟨gb, 3, none⟩ = some (.slice m.ba m.bn m.bc) ∧ w.cell? ⟨gb, 4, none⟩ = some (.slice m.la m.ln m.lc) := by
  obtain ⟨B, ⟨h1, _⟩, _⟩ := h.get hi
  refine ⟨heap_lt h1, ?_, ?_, ?_, ?_, ?_⟩ <;> (rw [cell_of_row w gb _ _ _ _ h1]; rfl)
theorem Lv.refc (h : Lv w0 w L) (hi : L[i]? = some (refO g d)) (hp : 0 < d.S.length) : ∃ gs so co, g < w.heap.size ∧ w.cell? ⟨g, 0, none⟩ = some (.slice (some ⟨gs, so, none⟩) d.S.length co) ∧ w.cell? ⟨g, 1, none⟩ = some (.bool (!d.on)) ∧ d.S.length ≤ co ∧ co ≤ 9223372036854775807 := by
  obtain ⟨B, ⟨gso, vo, row, Bf, hT, _⟩, _⟩ := h.get hi
  obtain ⟨gs, so, co, rfl, rfl, e1, e2⟩ := hT.vo_at hp
  obtain ⟨g1, c0, c1, _, _⟩ := hT.cells3
  exact ⟨gs, so, co, g1, c0, c1, e1, e2⟩
theorem Lv.nilb (h : Lv w0 w L) : Lv w0 w (bytesO (.slice none 0 0) [] :: L) :=
  h.cons (Below.refl _ _) (B := fun _ => False) ⟨none, 0, rfl, rfl, Sl.empty _ _ _ _ _ (Nat.zero_le _) (fun _ => rfl)⟩ (fun _ h => h.elim)
/-- what Read returns -/
def rdE (d : DM) (k : Int) : Int := if hasB d k then (if d.on then 0 else 10) else 5
def rdL (d : DM) (k : Int) : List UInt8 := if hasB d k then (if d.on then lastB (d.S.getD k.toNat []) else []) else []
theorem hasB_nat {d : DM} {k : Int} (h : hasB d k = true) : ∃ q : Nat, k = (q : Int) ∧ q < d.S.length := by
  unfold hasB at h
  have h := of_decide_eq_true h
  exact ⟨k.toNat, by omega, by omega⟩
theorem getD_get (S : List (List (List UInt8))) (q : Nat) (h : q < S.length) : S.getD q [] = S[q] := by rw [List.getD_eq_getElem?_getD, List.getElem?_eq_getElem h]; rfl
theorem dread_w (h : Lv w0 w L) (hi : L[i]? = some (diskO g d)) (k : Int) :
    Calls Try.prog 21 #[.pointer (some ⟨g, 0, none⟩), .int .i64 k] w fun e w' => ∃ v, e = .returned (.tuple #[v, .int .i64 (rdE d k)]) ∧ Lv w0 w' (bytesO v (rdL d k) :: L) := by
  unfold rdE rdL
  cases hh : hasB d k with
  | false =>
    refine (read_lv_no h hi k hh).mono ?_
    rintro e w' ⟨rfl, rfl⟩
    exact ⟨_, rfl, h.nilb⟩
  | true =>
    cases ho : d.on with
    | false =>
      refine (read_lv_off h hi k hh ho).mono ?_
      rintro e w' ⟨rfl, rfl⟩
      exact ⟨_, rfl, h.nilb⟩
    | true =>
      obtain ⟨q, rfl, hq⟩ := hasB_nat hh
      refine (read_lv h hi q hq ho).mono ?_
      rintro e w' ⟨v, rfl, hl⟩
      refine ⟨v, rfl, ?_⟩
      simp only [if_true, Int.toNat_natCast]
      rw [getD_get _ _ hq]
      exact hl
theorem rread_w (h : Lv w0 w L) (hi : L[i]? = some (refO g d)) (k : Int) (hok : d.Ok 100000) :
    Calls Try.prog 47 #[.pointer (some ⟨g, 0, none⟩), .int .i64 k] w fun e w' => ∃ v, e = .returned (.tuple #[v, .int .i64 (rdE d k)]) ∧ Lv w0 w' (bytesO v (rdL d k) :: L) := by
  unfold rdE rdL
  obtain ⟨B, ⟨gso, vo, row, Bf, hT, hTB⟩, hblt, _, hset⟩ := h.get hi
  cases hh : hasB d k with
  | false =>
    refine (rread_no hT k hh hok.1).mono ?_
    rintro e w' ⟨rfl, rfl⟩
    exact ⟨_, rfl, h.nilb⟩
  | true =>
    cases ho : d.on with
    | false =>
      refine (rread_off hT k hh ho).mono ?_
      rintro e w' ⟨rfl, rfl⟩
      exact ⟨_, rfl, h.nilb⟩
    | true =>
      obtain ⟨q, rfl, hq⟩ := hasB_nat hh
      have hs := hok.2.2.2 _ (List.getElem_mem hq)
      refine (rread_any hT q hq hs.1 hs.2.2 ho).mono ?_
      rintro e w' ⟨v, rfl, a, c, rfl, hb, hbl⟩
      have hl := hs.2.2 _ (lastB_mem hs.1)
      refine ⟨_, rfl, ?_⟩
      simp only [if_true, Int.toNat_natCast]
      rw [getD_get _ _ hq]
      refine h.cons hbl (B := fun x => w.heap.size ≤ x ∧ x < w'.heap.size) ⟨a, c, by rw [hl], by rw [hl]; exact hb.small⟩ (fun j hj => hj)
/-- what Flush returns, and does -/
def flE (d : DM) : Int := if d.on then 0 else 10
def flD (d : DM) : DM := if d.on then d.flush else d
theorem dflush_w (h : Lv w0 w L) (hi : L[i]? = some (diskO g d)) :
    Calls Try.prog 30 #[.pointer (some ⟨g, 0, none⟩)] w fun e w' => e = .returned (.int .i64 (flE d)) ∧ Lv w0 w' (L.set i (diskO g (flD d))) := by
  unfold flE flD
  cases ho : d.on with
  | false =>
    refine (flush_lv_off h hi ho).mono ?_
    rintro e w' ⟨rfl, rfl⟩
    exact ⟨rfl, by rw [if_neg (by simp), set_self hi]; exact h⟩
  | true => exact flush_lv h hi ho
theorem rflush_w (h : Lv w0 w L) (hi : L[i]? = some (refO g d)) (hok : d.Ok 100000) :
    Calls Try.prog 48 #[.pointer (some ⟨g, 0, none⟩)] w fun e w' => e = .returned (.int .i64 (flE d)) ∧ Lv w0 w' (L.set i (refO g (flD d))) := by
  unfold flE flD
  cases ho : d.on with
  | false =>
    obtain ⟨B, ⟨gso, vo, row, Bf, hT, _⟩, _⟩ := h.get hi
    refine (rflush_off hT ho).mono ?_
    rintro e w' ⟨rfl, rfl⟩
    exact ⟨rfl, by rw [if_neg (by simp), set_self hi]; exact h⟩
  | true => exact rflush_lv h hi ho hok
theorem flD_ok {N : Nat} (h : d.Ok N) : (flD d).Ok N := by
  unfold flD
  split
  · exact (DM.flush_ok h).mono (Nat.zero_le _)
  · exact h
theorem flD_len : (flD d).S.length = d.S.length := by
  unfold flD
  split
  · exact flush_len d
  · rfl
theorem setFuse_ok {N : Nat} (h : d.Ok N) (n : Int) (h2 : n ≤ 9223372036854775807) : (d.setFuse n).Ok N := by
  unfold DM.setFuse
  split
  · exact ⟨h.1, h.2.1, by show n.toNat ≤ _; omega, h.2.2.2⟩
  · exact h
theorem setFuse_len (n : Int) : (d.setFuse n).S.length = d.S.length := by rw [setFuse_S']
end
/-- the two disks, and an operation -/
def LL (gb : Nat) (m : OM) (gr g : Nat) (dr d : DM) : List Obj := [opO gb m, refO gr dr, diskO g d]
/-- a write to both -/
theorem writes_both {w0 q : World} {gb gr g : Nat} {m : OM} {d : DM} {N : Nat} (h : Lv w0 q (LL gb m gr g d d)) (hok : d.Ok N) (hN : N ≤ 99999) (k : Int) (l : List UInt8) (hl : l.length ≤ 9223372036854775807) :
    ∃ (ev : Int) (d2 : DM) (B : Nat → Prop), d2.S.length = d.S.length ∧ d2.Ok (N + 1) ∧ ¬ B gb ∧ (∀ x, B x → x < q.heap.size) ∧
      (∀ (p : World) (a : Option Addr) (c : Nat) (Z : Nat → Prop), Below q.heap.size q p → Bs Z p a l.length c l → Calls Try.prog 31 #[.pointer (some ⟨g, 0, none⟩), .int .i64 k, .slice a l.length c] p fun e w' => e = .returned (.int .i64 ev) ∧ Kept B p w' ∧ Lv w0 w' (LL gb m gr g d d2)) ∧
      (∀ (p : World) (a : Option Addr) (c : Nat) (Z : Nat → Prop), Lv w0 p (LL gb m gr g d d2) → Bs Z p a l.length c l → Calls Try.prog 46 #[.pointer (some ⟨gr, 0, none⟩), .int .i64 k, .slice a l.length c] p fun e w' => e = .returned (.int .i64 ev) ∧ Lv w0 w' (LL gb m gr g d2 d2)) := by
  have hokM : d.Ok 100000 := hok.mono (by omega)
  obtain ⟨B, ⟨gd, gm, row, NN, hdk, hBB⟩, hlt, hoth, hset⟩ := h.get (i := 2) rfl
  have hdk := hdk.bound hok
  have hgb : ¬ B gb := by
    obtain ⟨B2, ⟨_, hb2⟩, hne⟩ := hoth 0 _ (by omega) (show (LL gb m gr g d d)[0]? = some (opO gb m) from rfl)
    exact hne gb hb2
  by_cases h64 : l.length = 64
  · rw [h64]
    cases hh : hasB d k with
    | false =>
      refine ⟨5, d, B, rfl, hok.mono (by omega), hgb, fun x hx => (hlt x hx).2, fun p a c Z hb hbs => ?_, fun p a c Z hp hbs => ?_⟩
      · refine (write_no (hdk.kept (Kept.of_below (fun _ => False) hb) (fun _ _ h => h)) a c k hh).mono ?_
        rintro e w' ⟨rfl, rfl⟩
        exact ⟨rfl, Kept.refl _ _, h.below hb⟩
      · obtain ⟨_, ⟨gso, vo, rw', Bf, hT, _⟩, _⟩ := hp.get (i := 1) rfl
        refine (rwrite_no hT k a c hh hok.1).mono ?_
        rintro e w' ⟨rfl, rfl⟩
        exact ⟨rfl, hp⟩
    | true =>
      cases ho : d.on with
      | false =>
        refine ⟨10, d, B, rfl, hok.mono (by omega), hgb, fun x hx => (hlt x hx).2, fun p a c Z hb hbs => ?_, fun p a c Z hp hbs => ?_⟩
        · refine (write_off (hdk.kept (Kept.of_below (fun _ => False) hb) (fun _ _ h => h)) a c k hh ho).mono ?_
          rintro e w' ⟨rfl, rfl⟩
          exact ⟨rfl, Kept.refl _ _, h.below hb⟩
        · obtain ⟨_, ⟨gso, vo, rw', Bf, hT, _⟩, _⟩ := hp.get (i := 1) rfl
          refine (rwrite_off hT k a c hh ho).mono ?_
          rintro e w' ⟨rfl, rfl⟩
          exact ⟨rfl, hp⟩
      | true =>
        obtain ⟨kk, rfl, hkk⟩ := hasB_nat hh
        refine ⟨0, d.write kk l, B, write_len d kk l, DM.write_ok hok h64, hgb, fun x hx => (hlt x hx).2, fun p a c Z hb hbs => ?_, fun p a c Z hp hbs => ?_⟩
        · refine (write_ok (hdk.kept (Kept.of_below (fun _ => False) hb) (fun _ _ h => h)) hbs kk hkk ho (by omega)).mono ?_
          rintro e w' ⟨rfl, row', hd2, hk2, hf2⟩
          have KB : Kept B p w' := hk2.mono (fun j _ hj => hBB j hj)
          have KQ : Kept B q w' := (Kept.of_below B hb).trans KB (fun _ _ h => h)
          exact ⟨rfl, KB, hset w' _ (Blk g gd gm row') ⟨gd, gm, row', _, hd2, fun _ h => h⟩ KQ (fun j hj => (hf2 j hj).imp (hBB j) (fun e => Nat.le_trans hb.size e)) (fun j hj => hd2.lt j hj)⟩
        · exact rwrite_lv hp (i := 1) rfl hbs kk hkk ho hokM
  · refine ⟨1, d, B, rfl, hok.mono (by omega), hgb, fun x hx => (hlt x hx).2, fun p a c Z hb hbs => ?_, fun p a c Z hp hbs => ?_⟩
    · refine (write_arg _ a k l.length c p h64 hl).mono ?_
      rintro e w' ⟨rfl, rfl⟩
      exact ⟨rfl, Kept.refl _ _, h.below hb⟩
    · refine (rwrite_arg _ k a l.length c p h64 hl).mono ?_
      rintro e w' ⟨rfl, rfl⟩
      exact ⟨rfl, hp⟩
set_option maxRecDepth 100000 in
set_option maxHeartbeats 2000000 in
/-- same, of a disk and its specification -/
theorem same_lv {w0 w : World} {L : List Obj} (h : Lv w0 w L) {i1 i2 : Nat} {g gr : Nat} {d : DM} (hi1 : L[i1]? = some (diskO g d)) (hi2 : L[i2]? = some (refO gr d)) (hok : d.Ok 100000) :
    Calls Try.prog 16 #[.pointer (some ⟨g, 0, none⟩), .pointer (some ⟨gr, 0, none⟩)] w fun e w' => e = .returned (.bool true) ∧ Lv w0 w' L := by
  obtain ⟨SN, hSN⟩ : ∃ SN, d.S.length = SN := ⟨_, rfl⟩
  have HSN := Lib.hid hSN
  have hsn1 : 0 < SN := by rw [← hSN]; exact hok.1
  have hsn2 : SN ≤ 4096 := by rw [← hSN]; exact hok.2.1
  have HOK := Lib.hid hok
  have HL0 := Lib.hid h
  have Hi1 := Lib.hid hi1
  have Hi2 := Lib.hid hi2
  clear h hSN hok hi1 hi2
  go_enter Try.func16, Try.ntmps16
  go_upto_region 2 with fail
  go_loopw [5] (fun t wr => ∃ k : Nat, k ≤ SN ∧ t = .int .i64 (k : Int) ∧ Lv w0 wr L) (fun t _ => SN - (intOf t).toNat)
  case atStart => exact ⟨0, Nat.zero_le _, rfl, HL0.out⟩
  case round =>
    obtain ⟨k, hk, rfl, hL⟩ := hrel
    have HL := Lib.hid hL
    obtain ⟨gs, so, co, hgr, cV0, _, hc1, hc2⟩ := hL.refc Hi2.out HOK.out.1
    rw [HSN.out] at cV0 hc1
    clear hL HL0 hgr
    by_cases hlt : k < SN
    · have hlt2 : (k : Int) < (SN : Int) := by omega
      have hw1 : IntKind.i64.wrap ((k : Int) + 1) = (k : Int) + 1 := i64_id _ (by omega) (by omega)
      obtain ⟨E, hE⟩ : ∃ E, rdE d (k : Int) = E := ⟨_, rfl⟩
      obtain ⟨RL, hRL⟩ : ∃ RL, rdL d (k : Int) = RL := ⟨_, rfl⟩
      have HE := Lib.hid hE
      have HRL := Lib.hid hRL
      clear hE hRL
      go_wp2_with (first
        | (have hL := HL.out; go_at_call 21; refine (dread_w hL Hi1.out (k : Int)).mono ?_; rintro e w2 ⟨v, rfl, hl⟩; rw [HE.out]; rw [HRL.out] at hl; obtain ⟨_, a2, c2, rfl, _⟩ := hl.bytes (i := 0) rfl; have HL2 := Lib.hid hl; clear hl HL hL)
        | (have hL := HL2.out; go_at_call 47; refine (rread_w hL (i := i2 + 1) Hi2.out (k : Int) HOK.out).mono ?_; rintro e w3 ⟨v, rfl, hl⟩; rw [HE.out]; rw [HRL.out] at hl; obtain ⟨_, a3, c3, rfl, _⟩ := hl.bytes (i := 0) rfl; have HL3 := Lib.hid hl; clear hl HL2 hL)
        | (have hL := HL3.out; go_at_call 22; obtain ⟨Zq, hq⟩ := hL.bs (i := 1) rfl; obtain ⟨Zr, hr⟩ := hL.bs (i := 0) rfl; refine (sameBytes_any _ _ _ _ _ _ _ _ _ _ _ hq hr).mono ?_; rintro e w4 ⟨rfl, rfl⟩; rw [beq_self_eq_true]; clear hL hq hr))
      go_roundw
      case rel => exact ⟨k + 1, by omega, by go_num, HL3.out.tail.tail⟩
      case measure => simp [intOf]; omega
    · obtain rfl : k = SN := by omega
      go_wp2_with fail
      go_ret
      exact ⟨rfl, HL.out⟩
end Go.Proofs.Ytbnodhcgdgcebaa

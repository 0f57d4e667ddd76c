/-
  A reader's Ints.
-/
import Derived.Test.YtbnodhcgdgcebaaW8
namespace Go.Proofs.Ytbnodhcgdgcebaa
open Go.RowKit
set_option linter.unusedSimpArgs false
set_option linter.unusedVariables false
/-- where the loop of Ints stands -/
def AtI (g : Nat) (k : Option Nat) (w : World) (L : Nat) (R : List Int × RS) (m : Nat) (v : Value) (wr : World) : Prop :=
  ∃ acc s, rIntsGo m acc s = R ∧ Reads g k w s.l s.e wr ∧ FreshI w v acc wr ∧ acc.length + s.l.length ≤ L
theorem FreshI.kept {S : Nat → Prop} {w w1 w2 : World} {v : Value} {l : List Int} (h : FreshI w v l w1) (hk : Kept S w1 w2) (hs : ∀ j, w.heap.size ≤ j → ¬ S j) : FreshI w v l w2 := by
  obtain ⟨kk, ho, hf⟩ := h
  exact ⟨kk, ho.kept hk (fun j hj => hs j (hf j hj)), hf⟩
set_option maxRecDepth 100000 in
set_option maxHeartbeats 1000000 in
theorem rints_any (g : Nat) (k : Option Nat) (l : List UInt8) (e : Nat) (most : Int) (w : World) (hR : Rd w g k l e) (hk : ∀ j, k = some j → j < w.heap.size) (hl : l.length ≤ 1000000000000) (h1 : -9223372036854775808 ≤ most) (h2 : most ≤ 9223372036854775807) :
    Calls Try.prog 43 #[.pointer (some ⟨g, 0, none⟩), .int .i64 most] w fun x w' => ∃ v, x = .returned v ∧ FreshI w v (rInts ⟨l, e⟩ most).1 w' ∧ Reads g k w (rInts ⟨l, e⟩ most).2.l (rInts ⟨l, e⟩ most).2.e w' := by
  obtain ⟨i0, hi, hz0, hz1, hz2⟩ := info_parts info3
  have hC := rlen_any g k l e most w hR (by omega) h1 h2
  have hg := hR.lt
  unfold rInts
  have hv : (rLen ⟨l, e⟩ most).1 < 18446744073709551616 := by
    unfold rLen
    split
    · show 0 < 18446744073709551616
      omega
    · exact rUint_val _
  have hll := rLen_len ⟨l, e⟩ most
  generalize rLen ⟨l, e⟩ most = R at *
  obtain ⟨V, S⟩ := R
  simp only at hC hv hll ⊢
  obtain ⟨T, hT⟩ : ∃ T, T = rIntsGo V [] S := ⟨_, rfl⟩
  rw [← hT]
  have HT := Lib.hid hT
  have HC := Lib.hid hC
  have HKk := Lib.hid hk
  clear hC hR hT hk
  go_enter Try.func43, Try.ntmps43
  go_wp2_with (go_at_call 60; refine HC.out.mono ?_; rintro e w1 ⟨rfl, h1⟩; have H1 := Lib.hid h1; clear h1)
  go_loopw [5, 10] (fun v t wr => ∃ m j : Nat, j + m = V ∧ t = .int .u64 (j : Int) ∧ AtI g k w l.length T m v wr) (fun _ t _ => V - (intOf t).toNat)
  case atStart => exact ⟨V, 0, by omega, rfl, [], S, HT.out.symm, H1.out, ⟨none, Own.nil _ _ _, fun _ h => by cases h⟩, by simpa using hll⟩
  case round =>
    obtain ⟨m, j, hjm, rfl, hA⟩ := hrel
    have HA := Lib.hid hA
    clear hA H1
    by_cases hlt : j < V
    · obtain ⟨acc, s, hgo, hrd, hfr, hlen⟩ := HA.out
      obtain ⟨m', rfl⟩ : ∃ m', m = m' + 1 := ⟨m - 1, by omega⟩
      have hCi := rint_any g k s.l s.e wr hrd.1 (by omega)
      have hok := rInt_ok s
      have hsh := rUint_shorter s
      have hbd := rInt_bd s
      rw [rIntsGo] at hgo
      have hS : rInt ⟨s.l, s.e⟩ = rInt s := rfl
      have hS2 : (rUint s).2 = (rInt s).2 := rfl
      rw [hS] at hCi
      rw [hS2] at hsh
      have hfr' := hfr
      obtain ⟨kk, ho, hf⟩ := hfr'
      obtain ⟨va, vc, rfl, -⟩ := ho.sl
      generalize rInt s = R at *
      obtain ⟨X, S'⟩ := R
      simp only at hCi hok hsh hbd hgo
      have HCi := Lib.hid hCi
      have Hgo := Lib.hid hgo
      have Hrd := Lib.hid hrd
      have Hfr := Lib.hid hfr
      have Ho := Lib.hid ho
      have Hf := Lib.hid hf
      have Hok := Lib.hid hok
      have Hsh := Lib.hid hsh
      clear hCi hgo hrd hfr ho hf HA hok hsh hS hS2
      by_cases he : S'.e = 0
      · have hg1 := Hgo.out
        rw [if_pos he] at hg1
        have Hg1 := Lib.hid hg1
        clear hg1 Hgo
        go_wp2_with (first
          | (at_builtin; refine wpList_append_any _ rfl (.tmp 19) (.tmp 21) 64 64 rfl 3 i0 (.int .i64 0) 1 8 Try.underlying64 hi hz0 hz1 hz2 rfl kk _ acc.length (ivals acc) rfl ((Ho.out.kept H2.out.2 (fun j hj e => by have := Hf.out j hj; omega)).kept ((Kept.refl (fun _ => False) w2).alloc _) (fun _ _ h => h)) 1 [.int .i64 X] (Src.ofSlice _ Try.underlying64 ⟨w2.heap.size, 0, none⟩ 1 1 _ rfl ?c1 ?c2) (by unfold maxLen; omega) (by omega) ?_)
          | (go_at_call 61; refine HCi.out.mono ?_; rintro e w2 ⟨rfl, h2⟩; have H2 := Lib.hid h2; obtain ⟨-, -, -, -, c1, -⟩ := h2.1.facts; have c2 : w2.cell? ⟨g, 1, none⟩ = some (.int .i64 0) := by rw [c1, he]; rfl))
        case c1 => intro j u hj; match j, hj with | 0, hj => simp at hj; subst hj; simp [Addr.add]
        case c2 => intro u hu; simp at hu; subst hu; rfl
        intro k' v' w' ho2 hf2 hK2 hn2
        have K2 : Kept (fun j => kk = some j) w2 w' := ((Kept.refl (fun j => kk = some j) w2).alloc _).trans hK2 (fun _ _ h => h)
        have Kw : Kept (fun j => j = g) w w' := (Hrd.out.2.trans H2.out.2 (fun _ _ h => h)).trans K2 (fun j hj e => by have := Hf.out j e; omega)
        have hsz : w.heap.size ≤ w2.heap.size := (Hrd.out.2.trans H2.out.2 (fun _ _ h => h)).size
        have Rd2 : Rd w' g k S'.l S'.e := H2.out.1.kept K2 (fun e => by have := Hf.out g e; omega) (fun j hj e => by have := Hf.out j e; have := HKk.out j hj; omega)
        have F2 : FreshI w v' (acc ++ [X]) w' := ⟨k', by rw [ivals_app, List.length_append]; exact ho2, fun j hj => by
          rcases hf2 j hj with h | h
          · exact Hf.out j h
          · omega⟩
        have hs := Hsh.out (Hok.out he) he
        have HA2 : Hid (AtI g k w l.length T m' v' w') := Lib.hid ⟨acc ++ [X], S', Hg1.out, ⟨Rd2, Kw⟩, F2, by simp only [List.length_append, List.length_cons, List.length_nil]; omega⟩
        clear K2 Kw hsz Rd2 F2 hs ho2 hf2 hK2 hn2
        go_wp2
        go_roundw
        case rel => exact ⟨m', j + 1, by omega, by go_num, HA2.out⟩
        case measure => simp [intOf]; omega
      · have hg1 := Hgo.out
        rw [if_neg he] at hg1
        have Hg1 := Lib.hid hg1
        have he3 : ((S'.e : Int) != 0) = true := by rw [bne_iff_ne]; omega
        clear hg1 Hgo
        go_wp2_with (first
          | (go_at_call 61; refine HCi.out.mono ?_; rintro e w2 ⟨rfl, h2⟩; have H2 := Lib.hid h2; obtain ⟨-, -, -, -, c1, -⟩ := h2.1.facts; clear h2))
        go_ret
        rw [← Hg1.out]
        exact ⟨_, rfl, ⟨none, Own.nil _ _ _, fun _ h => by cases h⟩, Hrd.out.trans H2.out⟩
    · obtain rfl : j = V := by omega
      obtain ⟨acc, s, hgo, hrd, hfr, hlen⟩ := HA.out
      obtain rfl : m = 0 := by omega
      have HF := Lib.hid hfr
      have HR := Lib.hid hrd
      rw [rIntsGo] at hgo
      subst hgo
      clear hfr hrd
      go_wp2
      go_ret
      exact ⟨_, rfl, HF.out, HR.out⟩
end Go.Proofs.Ytbnodhcgdgcebaa

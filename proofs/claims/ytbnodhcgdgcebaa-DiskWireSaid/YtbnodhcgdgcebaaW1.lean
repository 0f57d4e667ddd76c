/-
  The buffer's methods that append.
-/
import Derived.Test.YtbnodhcgdgcebaaW0
namespace Go.Proofs.Ytbnodhcgdgcebaa
open Go.RowKit
set_option maxRecDepth 100000 in
set_option maxHeartbeats 400000 in
theorem put_any (g : Nat) (k : Option Nat) (l : List UInt8) (x : UInt8) (X : Int) (w : World) (hW : Wr w g k l) (hl : l.length ≤ 1000000000000) (hX : X = (x.toNat : Int)) :
    Calls Try.prog 66 #[.pointer (some ⟨g, 0, none⟩), .int .u8 X] w fun e w' => e = .returned (.tuple #[]) ∧ Wrote g k w (l ++ [x]) w' := by
  obtain ⟨i0, hi, hz0, hz1, hz2⟩ := info_parts info5
  obtain ⟨v, hg, hO, hk⟩ := hW
  have h0 : w.cell? ⟨g, 0, none⟩ = some v := by rw [cell_of_row w g 0 _ _ _ hg]; rfl
  have hb : g < w.heap.size := (Array.getElem?_eq_some_iff.1 hg).1
  have HX := Lib.hid hX
  have HG := Lib.hid hg
  have HO := Lib.hid hO
  have HK := Lib.hid hk
  clear hX hg hO hk
  go_enter Try.func66, Try.ntmps66
  go_wp2_with (at_builtin; refine wpList_append_any _ rfl (.tmp 8) (.tmp 10) 32 32 rfl 5 i0 (.int .u8 0) 1 1 Try.underlying32 hi hz0 hz1 hz2 rfl k v l.length (vals l) rfl (HO.out.kept ((Kept.refl (fun _ => False) w).alloc _) (fun _ _ h => h)) 1 [.int .u8 X] (Src.ofSlice _ Try.underlying32 ⟨w.heap.size, 0, none⟩ 1 1 _ rfl ?c1 ?c2) (by unfold maxLen; omega) (by omega) ?_)
  case c1 => intro j u hj; match j, hj with | 0, hj => simp at hj; subst hj; simp [Addr.add]
  case c2 => intro u hu; simp at hu; subst hu; rfl
  intro k' v' w' ho hf hK hn
  obtain ⟨a, c, rfl, -⟩ := ho.sl
  have hK2 : Kept (fun j => k = some j) w w' := ((Kept.refl (fun j => k = some j) w).alloc _).trans hK (fun _ _ h => h)
  have hg' := hK2.heap HG.out HK.out
  have c0 : w'.cell? ⟨g, 0, none⟩ = some v := by rw [cell_of_row w' g 0 _ _ _ hg']; rfl
  have f0 : w'.frozen? ⟨g, 0, none⟩ = false := frozen_of_row w' g 0 _ _ hg'
  have R : Wrote g k w (l ++ [x]) (w'.setCell ⟨g, 0, none⟩ (.slice a (l.length + 1) c)) := by
    refine ⟨k', ⟨_, one_set hg', ?_, ?_⟩, ?_, (hK2.mono (fun _ _ h => .inr h)).setCell (fun _ => .inl rfl) _⟩
    · rw [vals_app, List.length_append]
      rw [HX.out] at ho
      exact ho.kept ((Kept.refl (fun j => j = g) w').setCell (fun _ => rfl) _) (fun j hj e => by
        subst e
        rcases hf _ hj with h | h
        · exact HK.out h
        · omega)
    · intro e
      rcases hf _ e with h | h
      · exact HK.out h
      · omega
    · intro j hj
      rcases hf j hj with h | h
      · exact .inl h
      · exact .inr (by omega)
  have HR := Lib.hid R
  clear R hg' hK2 hn hK hf ho h0
  go_wp2
  go_end0
  exact ⟨rfl, HR.out⟩
end Go.Proofs.Ytbnodhcgdgcebaa

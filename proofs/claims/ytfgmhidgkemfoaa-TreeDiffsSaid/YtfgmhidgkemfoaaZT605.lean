/-
  Texts OC, OD, OA, OE, O4, O5, OF, OI, one behind the other.
-/
import Derived.WalkKit
import Derived.WalkSpells
import Derived.WalkLawsBesides
import Derived.Laws.AppendOwn
import Derived.Laws.OwnMore
import Derived.Deep.AppendSrc
import Derived.Deep.MidRow
import Derived.Lib.Hide
import GoSem.Claim
import Derived.Lib.Bytealg
import Derived.Laws.Externs
import Derived.Deep.QuietTactic
import Derived.BigQuiet
import Derived.Deep.CutBlock
import Derived.OwnWalk
import Derived.Deep.DrawnRows
import Derived.Deep.CutRange
import Derived.Deep.LoopGhost
import Derived.Laws.Tables
import Derived.Laws.ResultCell
import Derived.Deep.WholeRow
import Derived.Lib.Strings
import Derived.Shelf.Spec.SlicesInsert
import Derived.Lib.AppendZerosOnto
import Derived.Lib.Overlaps
import Derived.Laws.CopyRow
import Derived.Deep.RegionLaw
import Derived.StillTailTactics
import Derived.RangeFuncNested
import Derived.RangeFuncBound
import Derived.RangeFuncCalls
import Derived.RangeFuncLeaves
import Derived.Shelf.Abstract
import Derived.Shelf.RegionOpen
import Derived.OwnWalkIn
import Derived.TacticsInMore
import Derived.LoopNIn
import Derived.LoopIn
import Derived.RangeFuncBox
import Derived.Orders
import Derived.Tactics
import Derived.Test.YtfgmhidgkemfoaaRows
import Derived.Test.YtfgmhidgkemfoaaZT604
namespace Go.Proofs.Ytfgmhidgkemfoaa
open Go.RowKit
set_option linter.unusedSimpArgs false
set_option linter.unusedVariables false
attribute [local go_sem ↓] exec_loadPair exec_at_zeroP exec_at_succP Go.wp_at_zero Go.wp_at_succ
def RefPut (D : Nat → Prop) (w : World) (ps : List KV) (key value : ByteArray) (e : Ending) (w' : World) : Prop := ∃ a n c, e = .returned (.slice a n c) ∧ Ps (fun b => D b ∨ w.heap.size ≤ b) w' a n c (putR ps key value) ∧ Below w.heap.size w w'
set_option maxRecDepth 100000 in
set_option maxHeartbeats 4000000 in
theorem refPut_some {D : Nat → Prop} {w : World} {ad : Addr} {n c : Nat} {ps : List KV} (h : Ps D w (some ad) n c ps) (hn : n ≤ 1000000) (key value : ByteArray) (hks : key.size < 9223372036854775808) (hvs : value.size < 9223372036854775808) (hok : key.size ≤ 60 ∧ value.size ≤ 1000) :
  Calls Try.prog 26 #[.slice (some ad) n c, .string key, .string value] w (RefPut D w ps key value) := by
 obtain ⟨i0, hi, hz0, hz1, hz2⟩ := info_parts infoP
 have HPM : Hid (Calls Try.prog 52 #[.string key, .string value] w fun e w' => e = .returned (.bool true) ∧ w = w') := Lib.hid (by
  have := permitted_any (w := w) key value hks hvs
  rw [decide_eq_true hok] at this
  exact this)
 obtain ⟨k, hk⟩ : ∃ k, k = plc ps key := ⟨_, rfl⟩
 obtain ⟨z, hz⟩ : ∃ z, z = hasR ps key := ⟨_, rfl⟩
 have HPL : Hid (Calls Try.prog 53 #[.slice (some ad) n c, .string key] w fun e w' => e = .returned (.int .i64 (k : Int)) ∧ w = w') := Lib.hid (by rw [hk]; exact place_any h key)
 have HPR : Hid (putR ps key value = ps.take k ++ [⟨key, value⟩] ++ ps.drop (k + z)) := Lib.hid (by unfold putR; rw [if_pos hok, hk, hz])
 have hkn : k ≤ n := by rw [hk, ← h.1]; exact plc_le _ _
 have HZ : Hid (z = match ps[k]? with | some p => if p.k = key then 1 else 0 | none => 0) := Lib.hid (by rw [hz, hk]; rfl)
 have hc1 := h.2.2.1
 have hc2 : c ≤ 9223372036854775807 := h.2.2.2.1
 have HP := Lib.hid h
 have HL := Lib.hid h.1
 have HS1 : Hid (Src Try.prog 2 26 (.slice (some ad) k c) k (pcells (ps.take k)) w) := Lib.hid ((h.upto k hkn).2.src Try.underlying26 (pcells_one _))
 have hkc : (k : Int) ≤ (c : Int) := by omega
 have HB1 : Hid (0 + k ≤ maxLen ∧ (0 + k) * 32 ≤ 140737488355328) := Lib.hid ⟨by unfold maxLen; omega, by omega⟩
 have HB2 : Hid (0 + k + 1 ≤ maxLen ∧ (0 + k + 1) * 32 ≤ 140737488355328) := Lib.hid ⟨by unfold maxLen; omega, by omega⟩
 clear h hk hz hks hvs hok
 go_enter Try.func26, Try.ntmps26
 go_upto_region 6 with (first
  | (go_at_call 52; refine HPM.out.mono ?_; rintro e w2 ⟨rfl, rfl⟩)
  | (go_at_call 53; refine HPL.out.mono ?_; rintro e w2 ⟨rfl, rfl⟩)
  | (at_builtin; refine wpList_append_any _ rfl (.tmp 17) (.tmp 20) 26 26 rfl 65 i0 (.agg #[.string ⟨#[]⟩, .string ⟨#[]⟩]) 2 32 Try.underlying26 hi hz0 hz1 hz2 rfl none _ 0 [] rfl (Own.nil _ _ _) k (pcells (ps.take k)) HS1.out HB1.out.1 HB1.out.2 ?_; intro k1 v1 w1 ho1 hf1 hK1 _; have HO1 := Lib.hid ho1; have HF1 := Lib.hid hf1; have HK1 := Lib.hid hK1; clear ho1 hf1 hK1))
 have h2s : Src Try.prog 2 26 (.slice (some ⟨w1.heap.size, 0, none⟩) 1 1) 1 [.string key, .string value] (w1.alloc (.cells #[.string key, .string value] 65)) := two_src w1 _ _ _ _ rfl rfl Try.underlying26
 have HS2 := Lib.hid h2s
 clear h2s
 go_upto_region 7 with (at_builtin; refine wpList_append_any _ rfl (.tmp 22) (.tmp 26) 26 26 rfl 65 i0 (.agg #[.string ⟨#[]⟩, .string ⟨#[]⟩]) 2 32 Try.underlying26 hi hz0 hz1 hz2 rfl k1 v1 (0 + k) _ rfl (HO1.out.kept ((Kept.refl (fun _ => False) w1).alloc _) (fun _ _ h => h)) 1 [.string key, .string value] HS2.out HB2.out.1 HB2.out.2 ?_; intro k2 v2 w2 ho2 hf2 hK2 _; have HO2 := Lib.hid ho2; have HF2 := Lib.hid hf2; have HK2 := Lib.hid hK2; clear ho2 hf2 hK2)
 have hw1 : Below w.heap.size w w1 := HK1.out.below (Nat.le_refl _) (fun j hj h => by cases h)
 have hw2 : Below w.heap.size w w2 := hw1.trans (((Below.refl w.heap.size w1).alloc hw1.size _).trans (HK2.out.below (by rw [World.size_alloc]; have := hw1.size; omega) (fun j hj h => by
  rcases HF1.out j h with h1 | h1
  ·cases h1
  ·omega)))
 have hd2 : ∀ j, k2 = some j → w.heap.size ≤ j := fun j h => by
  rcases HF2.out j h with h1 | h1
  ·rcases HF1.out j h1 with h2 | h2
   ·cases h2
   ·exact h2
  ·rw [World.size_alloc] at h1
   have := hw1.size
   omega
 have FIN : Hid (∀ (k3 : Option Nat) (v3 : Value) (w3 : World) (m kz : Nat), (ps.drop kz).length = m → putR ps key value = ps.take k ++ [⟨key, value⟩] ++ ps.drop kz →
   Own w3 65 2 k3 v3 (0 + k + 1 + m) ([] ++ pcells (ps.take k) ++ [.string key, .string value] ++ pcells (ps.drop kz)) → (∀ j, k3 = some j → k2 = some j ∨ w2.heap.size ≤ j) → Kept (fun j => k2 = some j) w2 w3 → RefPut D w ps key value (.returned v3) w3) := Lib.hid (by
  intro k3 v3 w3 m kz hm hp ho hf hK
  obtain ⟨a3, c3, rfl, hsl⟩ := ho.sl
  refine ⟨a3, _, c3, rfl, ⟨?_, ?_⟩, hw2.trans (hK.below hw2.size (fun j hj h => by have := hd2 j h; omega))⟩
  ·rw [hp]
   simp only [List.length_append, List.length_take, List.length_cons, List.length_nil, hm]
   have := HL.out
   omega
  ·rw [hp, pcells_app, pcells_app]
   have e : pcells [(⟨key, value⟩ : KV)] = [.string key, .string value] := rfl
   rw [e]
   rw [List.nil_append] at hsl
   refine hsl.dom (fun b hb => .inr ?_)
   rcases hf b hb with h | h
   ·exact hd2 b h
   ·have := hw2.size
    omega)
 have HW2 : Hid (Below w.heap.size w w2) := Lib.hid hw2
 clear hw1 hw2 hd2
 by_cases hlt : k < n
 ·have hlt2 : (k : Int) < (n : Int) := by omega
  have hkl : k < ps.length := by rw [HL.out]; exact hlt
  obtain ⟨b, off, -, hbs, hab, hcell⟩ := HP.out.at (by omega)
  obtain rfl : ad = ⟨b, off, none⟩ := Option.some.inj hab
  have hr := range_below (hcell k hkl) (by simp [KV.cells]) HW2.out
  obtain ⟨kv, hkv⟩ : ∃ kv, kv = ps[k]'hkl := ⟨_, rfl⟩
  rw [← hkv] at hr
  obtain ⟨ob, hob⟩ : ∃ ob, ob = off + k * 2 := ⟨_, rfl⟩
  rw [← hob] at hr
  have hob2 : off + k * 2 = ob := hob.symm
  have c0 : w2.cell? ⟨b, ob, none⟩ = some (.string kv.k) := hr 0 _ rfl
  have HZ2 : Hid (z = if kv.k = key then 1 else 0) := Lib.hid (by rw [HZ.out, List.getElem?_eq_getElem hkl, ← hkv])
  have hwk : IntKind.i64.wrap ((k : Int) + 1) = ((k + 1 : Nat) : Int) := by rw [i64_id _ (by omega) (by omega)]; omega
  clear hcell hr hkv hob hkl hab hbs
  by_cases he : kv.k = key
  ·have he1 : kv.k.toList = key.toList := by rw [he]
   have he2 : (kv.k.toList == key.toList) = true := by rw [str_beq]; simpa using he
   have hz1' : z = 1 := by rw [HZ2.out, if_pos he]
   have HPR2 : Hid (putR ps key value = ps.take k ++ [⟨key, value⟩] ++ ps.drop (k + 1)) := Lib.hid (by rw [HPR.out, hz1'])
   have hkn1 : ((k + 1 : Nat) : Int) ≤ (n : Int) := by omega
   have hkc1 : ((k + 1 : Nat) : Int) ≤ (c : Int) := by omega
   have hkn2 : k + 1 ≤ n := by omega
   clear he hz1'
   by_cases hck : c = k + 1
   ·have hsrc := HP.out.fromK (k + 1) hkn2
    rw [if_pos hck] at hsrc
    rw [show c - (k + 1) = 0 by omega] at hsrc
    have HSRC := Lib.hid hsrc
    clear hsrc
    have HS3 : Hid (Src Try.prog 2 26 (.slice (some ⟨b, off, none⟩) (n - (k + 1)) (0)) (n - (k + 1)) (pcells (ps.drop (k + 1))) w2) := Lib.hid (((HSRC.out).below HW2.out).2.src Try.underlying26 (pcells_one _))
    have HB3 : Hid (0 + k + 1 + (n - (k + 1)) ≤ maxLen ∧ (0 + k + 1 + (n - (k + 1))) * 32 ≤ 140737488355328) := Lib.hid ⟨by unfold maxLen; omega, by omega⟩
    go_wp2_with (at_builtin; go_loud (refine wpList_append_any _ rfl (.tmp 43) (.tmp 46) 26 26 rfl 65 i0 (.agg #[.string ⟨#[]⟩, .string ⟨#[]⟩]) 2 32 Try.underlying26 hi hz0 hz1 hz2 rfl k2 v2 (0 + k + 1) _ rfl HO2.out (n - (k + 1)) (pcells (ps.drop (k + 1))) HS3.out HB3.out.1 HB3.out.2 ?_); intro k3 v3 w3 ho3 hf3 hK3 _; have HO3 := Lib.hid ho3; have HF3 := Lib.hid hf3; have HK3 := Lib.hid hK3; clear ho3 hf3 hK3)
    go_ret
    exact FIN.out _ _ _ _ (k + 1) (by have := HL.out; rw [List.length_drop]; omega) HPR2.out HO3.out HF3.out HK3.out
   ·have hsrc := HP.out.fromK (k + 1) hkn2
    rw [if_neg hck] at hsrc
    have HSRC : Hid (Ps D w (some ⟨b, off + (k + 1) * 2, none⟩) (n - (k + 1)) (c - (k + 1)) (ps.drop (k + 1))) := Lib.hid hsrc
    clear hsrc
    have HS3 : Hid (Src Try.prog 2 26 (.slice (some ⟨b, off + (k + 1) * 2, none⟩) (n - (k + 1)) (c - (k + 1))) (n - (k + 1)) (pcells (ps.drop (k + 1))) w2) := Lib.hid (((HSRC.out).below HW2.out).2.src Try.underlying26 (pcells_one _))
    have HB3 : Hid (0 + k + 1 + (n - (k + 1)) ≤ maxLen ∧ (0 + k + 1 + (n - (k + 1))) * 32 ≤ 140737488355328) := Lib.hid ⟨by unfold maxLen; omega, by omega⟩
    go_wp2_with (at_builtin; go_loud (refine wpList_append_any _ rfl (.tmp 43) (.tmp 46) 26 26 rfl 65 i0 (.agg #[.string ⟨#[]⟩, .string ⟨#[]⟩]) 2 32 Try.underlying26 hi hz0 hz1 hz2 rfl k2 v2 (0 + k + 1) _ rfl HO2.out (n - (k + 1)) (pcells (ps.drop (k + 1))) HS3.out HB3.out.1 HB3.out.2 ?_); intro k3 v3 w3 ho3 hf3 hK3 _; have HO3 := Lib.hid ho3; have HF3 := Lib.hid hf3; have HK3 := Lib.hid hK3; clear ho3 hf3 hK3)
    go_ret
    exact FIN.out _ _ _ _ (k + 1) (by have := HL.out; rw [List.length_drop]; omega) HPR2.out HO3.out HF3.out HK3.out
  ·have he1 : ¬ kv.k.toList = key.toList := fun h => he ((str_eqq _ _).1 h)
   have he2 : (kv.k.toList == key.toList) = false := by rw [str_beq]; simpa using he
   have hz1' : z = 0 := by rw [HZ2.out, if_neg he]
   have HPR2 : Hid (putR ps key value = ps.take k ++ [⟨key, value⟩] ++ ps.drop k) := Lib.hid (by rw [HPR.out, hz1', Nat.add_zero])
   have hkn1 : (k : Int) ≤ (n : Int) := by omega
   have hck : ¬ c = k := by omega
   have hsrc := HP.out.fromK k hkn
   rw [if_neg hck] at hsrc
   have HSRC : Hid (Ps D w (some ⟨b, ob, none⟩) (n - k) (c - k) (ps.drop k)) := Lib.hid (by rw [← hob2]; exact hsrc)
   clear he hz1' hsrc
   go_upto_region 9 with fail
   have HS3 : Hid (Src Try.prog 2 26 (.slice (some ⟨b, ob, none⟩) (n - k) (c - k)) (n - k) (pcells (ps.drop (k))) w2) := Lib.hid (((HSRC.out).below HW2.out).2.src Try.underlying26 (pcells_one _))
   have HB3 : Hid (0 + k + 1 + (n - k) ≤ maxLen ∧ (0 + k + 1 + (n - k)) * 32 ≤ 140737488355328) := Lib.hid ⟨by unfold maxLen; omega, by omega⟩
   go_wp2_with (at_builtin; go_loud (refine wpList_append_any _ rfl (.tmp 43) (.tmp 46) 26 26 rfl 65 i0 (.agg #[.string ⟨#[]⟩, .string ⟨#[]⟩]) 2 32 Try.underlying26 hi hz0 hz1 hz2 rfl k2 v2 (0 + k + 1) _ rfl HO2.out (n - k) (pcells (ps.drop (k))) HS3.out HB3.out.1 HB3.out.2 ?_); intro k3 v3 w3 ho3 hf3 hK3 _; have HO3 := Lib.hid ho3; have HF3 := Lib.hid hf3; have HK3 := Lib.hid hK3; clear ho3 hf3 hK3)
   go_ret
   exact FIN.out _ _ _ _ (k) (by have := HL.out; rw [List.length_drop]; omega) HPR2.out HO3.out HF3.out HK3.out
 ·have hge : ¬ (k : Int) < (n : Int) := by omega
  have hz1' : z = 0 := by rw [HZ.out, List.getElem?_eq_none (by have := HL.out; omega)]
  have HPR2 : Hid (putR ps key value = ps.take k ++ [⟨key, value⟩] ++ ps.drop k) := Lib.hid (by rw [HPR.out, hz1', Nat.add_zero])
  have hkn1 : (k : Int) ≤ (n : Int) := by omega
  have hsrc := HP.out.fromK k hkn
  clear hz1'
  by_cases hck : c = k
  ·rw [if_pos hck, show c - k = 0 by omega] at hsrc
   have HSRC := Lib.hid hsrc
   clear hsrc
   go_upto_region 9 with fail
   have HS3 : Hid (Src Try.prog 2 26 (.slice (some ad) (n - k) (0)) (n - k) (pcells (ps.drop (k))) w2) := Lib.hid (((HSRC.out).below HW2.out).2.src Try.underlying26 (pcells_one _))
   have HB3 : Hid (0 + k + 1 + (n - k) ≤ maxLen ∧ (0 + k + 1 + (n - k)) * 32 ≤ 140737488355328) := Lib.hid ⟨by unfold maxLen; omega, by omega⟩
   go_wp2_with (at_builtin; go_loud (refine wpList_append_any _ rfl (.tmp 43) (.tmp 46) 26 26 rfl 65 i0 (.agg #[.string ⟨#[]⟩, .string ⟨#[]⟩]) 2 32 Try.underlying26 hi hz0 hz1 hz2 rfl k2 v2 (0 + k + 1) _ rfl HO2.out (n - k) (pcells (ps.drop (k))) HS3.out HB3.out.1 HB3.out.2 ?_); intro k3 v3 w3 ho3 hf3 hK3 _; have HO3 := Lib.hid ho3; have HF3 := Lib.hid hf3; have HK3 := Lib.hid hK3; clear ho3 hf3 hK3)
   go_ret
   exact FIN.out _ _ _ _ (k) (by have := HL.out; rw [List.length_drop]; omega) HPR2.out HO3.out HF3.out HK3.out
  ·rw [if_neg hck] at hsrc
   by_cases hn0 : n = 0
   ·have hk0 : k = 0 := by omega
    subst hk0
    have HSRC : Hid (Ps D w (some ad) 0 c (ps.drop 0)) := Lib.hid (by simpa [hn0] using hsrc)
    clear hsrc
    go_upto_region 9 with fail
    have HS3 : Hid (Src Try.prog 2 26 (.slice (some ad) (0) (c)) (0) (pcells (ps.drop (0))) w2) := Lib.hid (((HSRC.out).below HW2.out).2.src Try.underlying26 (pcells_one _))
    have HB3 : Hid (0 + 0 + 1 + (0) ≤ maxLen ∧ (0 + 0 + 1 + (0)) * 32 ≤ 140737488355328) := Lib.hid ⟨by unfold maxLen; omega, by omega⟩
    go_wp2_with (at_builtin; go_loud (refine wpList_append_any _ rfl (.tmp 43) (.tmp 46) 26 26 rfl 65 i0 (.agg #[.string ⟨#[]⟩, .string ⟨#[]⟩]) 2 32 Try.underlying26 hi hz0 hz1 hz2 rfl k2 v2 (0 + 0 + 1) _ rfl HO2.out (0) (pcells (ps.drop (0))) HS3.out HB3.out.1 HB3.out.2 ?_); intro k3 v3 w3 ho3 hf3 hK3 _; have HO3 := Lib.hid ho3; have HF3 := Lib.hid hf3; have HK3 := Lib.hid hK3; clear ho3 hf3 hK3)
    go_ret
    exact FIN.out _ _ _ _ (0) (by have := HL.out; rw [List.length_drop]; omega) HPR2.out HO3.out HF3.out HK3.out
   ·obtain ⟨b, off, -, hbs, hab, hcell⟩ := HP.out.at (by omega)
    obtain rfl : ad = ⟨b, off, none⟩ := Option.some.inj hab
    have HSRC : Hid (Ps D w (some ⟨b, off + k * 2, none⟩) (n - k) (c - k) (ps.drop k)) := Lib.hid hsrc
    clear hsrc hbs hab hcell
    go_upto_region 9 with fail
    have HS3 : Hid (Src Try.prog 2 26 (.slice (some ⟨b, off + k * 2, none⟩) (n - k) (c - k)) (n - k) (pcells (ps.drop (k))) w2) := Lib.hid (((HSRC.out).below HW2.out).2.src Try.underlying26 (pcells_one _))
    have HB3 : Hid (0 + k + 1 + (n - k) ≤ maxLen ∧ (0 + k + 1 + (n - k)) * 32 ≤ 140737488355328) := Lib.hid ⟨by unfold maxLen; omega, by omega⟩
    go_wp2_with (at_builtin; go_loud (refine wpList_append_any _ rfl (.tmp 43) (.tmp 46) 26 26 rfl 65 i0 (.agg #[.string ⟨#[]⟩, .string ⟨#[]⟩]) 2 32 Try.underlying26 hi hz0 hz1 hz2 rfl k2 v2 (0 + k + 1) _ rfl HO2.out (n - k) (pcells (ps.drop (k))) HS3.out HB3.out.1 HB3.out.2 ?_); intro k3 v3 w3 ho3 hf3 hK3 _; have HO3 := Lib.hid ho3; have HF3 := Lib.hid hf3; have HK3 := Lib.hid hK3; clear ho3 hf3 hK3)
    go_ret
    exact FIN.out _ _ _ _ (k) (by have := HL.out; rw [List.length_drop]; omega) HPR2.out HO3.out HF3.out HK3.out
end Go.Proofs.Ytfgmhidgkemfoaa
namespace Go.Proofs.Ytfgmhidgkemfoaa
open Go.RowKit
set_option linter.unusedSimpArgs false
set_option linter.unusedVariables false
attribute [local go_sem ↓] exec_loadPair exec_at_zeroP exec_at_succP Go.wp_at_zero Go.wp_at_succ
set_option maxRecDepth 100000 in
set_option maxHeartbeats 1000000 in
theorem refPut_none {D : Nat → Prop} {w : World} (key value : ByteArray) (hks : key.size < 9223372036854775808) (hvs : value.size < 9223372036854775808) (hok : key.size ≤ 60 ∧ value.size ≤ 1000) :
  Calls Try.prog 26 #[.slice none 0 0, .string key, .string value] w (RefPut D w [] key value) := by
 obtain ⟨i0, hi, hz0, hz1, hz2⟩ := info_parts infoP
 have hnil : ∀ w : World, Ps D w none 0 0 [] := fun w => ⟨rfl, rfl, Nat.le_refl _, by decide, fun _ => rfl, fun h => absurd h (by omega)⟩
 have HPM : Hid (Calls Try.prog 52 #[.string key, .string value] w fun e w' => e = .returned (.bool true) ∧ w = w') := Lib.hid (by
  have := permitted_any (w := w) key value hks hvs
  rw [decide_eq_true hok] at this
  exact this)
 have HPL : Hid (Calls Try.prog 53 #[.slice none 0 0, .string key] w fun e w' => e = .returned (.int .i64 0) ∧ w = w') := Lib.hid (place_any (hnil w) key)
 have HPR : Hid (putR [] key value = [⟨key, value⟩]) := Lib.hid (by unfold putR; rw [if_pos hok]; simp)
 have HS1 : Hid (∀ w, Src Try.prog 2 26 (.slice none 0 0) 0 [] w) := Lib.hid (fun w => (hnil w).2.src Try.underlying26 (by simp [pcells]))
 have HB1 : Hid (0 + 0 ≤ maxLen ∧ (0 + 0) * 32 ≤ 140737488355328) := Lib.hid ⟨by decide, by decide⟩
 have HB2 : Hid (0 + 0 + 1 ≤ maxLen ∧ (0 + 0 + 1) * 32 ≤ 140737488355328) := Lib.hid ⟨by decide, by decide⟩
 have HB3 : Hid (0 + 0 + 1 + 0 ≤ maxLen ∧ (0 + 0 + 1 + 0) * 32 ≤ 140737488355328) := Lib.hid ⟨by decide, by decide⟩
 clear hks hvs hok hnil
 go_enter Try.func26, Try.ntmps26
 go_upto_region 6 with (first
  | (go_at_call 52; refine HPM.out.mono ?_; rintro e w2 ⟨rfl, rfl⟩)
  | (go_at_call 53; refine HPL.out.mono ?_; rintro e w2 ⟨rfl, rfl⟩)
  | (at_builtin; refine wpList_append_any _ rfl (.tmp 17) (.tmp 20) 26 26 rfl 65 i0 (.agg #[.string ⟨#[]⟩, .string ⟨#[]⟩]) 2 32 Try.underlying26 hi hz0 hz1 hz2 rfl none _ 0 [] rfl (Own.nil _ _ _) 0 [] (HS1.out _) HB1.out.1 HB1.out.2 ?_; intro k1 v1 w1 ho1 hf1 hK1 _; have HO1 := Lib.hid ho1; have HF1 := Lib.hid hf1; have HK1 := Lib.hid hK1; clear ho1 hf1 hK1))
 have h2s : Src Try.prog 2 26 (.slice (some ⟨w1.heap.size, 0, none⟩) 1 1) 1 [.string key, .string value] (w1.alloc (.cells #[.string key, .string value] 65)) := two_src w1 _ _ _ _ rfl rfl Try.underlying26
 have HS2 := Lib.hid h2s
 clear h2s
 go_upto_region 7 with (at_builtin; refine wpList_append_any _ rfl (.tmp 22) (.tmp 26) 26 26 rfl 65 i0 (.agg #[.string ⟨#[]⟩, .string ⟨#[]⟩]) 2 32 Try.underlying26 hi hz0 hz1 hz2 rfl k1 v1 (0 + 0) _ rfl (HO1.out.kept ((Kept.refl (fun _ => False) w1).alloc _) (fun _ _ h => h)) 1 [.string key, .string value] HS2.out HB2.out.1 HB2.out.2 ?_; intro k2 v2 w2 ho2 hf2 hK2 _; have HO2 := Lib.hid ho2; have HF2 := Lib.hid hf2; have HK2 := Lib.hid hK2; clear ho2 hf2 hK2)
 go_wp2_with (at_builtin; refine wpList_append_any _ rfl (.tmp 43) (.tmp 46) 26 26 rfl 65 i0 (.agg #[.string ⟨#[]⟩, .string ⟨#[]⟩]) 2 32 Try.underlying26 hi hz0 hz1 hz2 rfl k2 v2 (0 + 0 + 1) _ rfl HO2.out 0 [] (HS1.out _) HB3.out.1 HB3.out.2 ?_; intro k3 v3 w3 ho3 hf3 hK3 _; have HO3 := Lib.hid ho3; have HF3 := Lib.hid hf3; have HK3 := Lib.hid hK3; clear ho3 hf3 hK3)
 go_ret
 have hw1 : Below w.heap.size w w1 := HK1.out.below (Nat.le_refl _) (fun j hj h => by cases h)
 have hw2 : Below w.heap.size w w2 := hw1.trans (((Below.refl w.heap.size w1).alloc hw1.size _).trans (HK2.out.below (by rw [World.size_alloc]; have := hw1.size; omega) (fun j hj h => by
  rcases HF1.out j h with h1 | h1
  ·cases h1
  ·omega)))
 have hd2 : ∀ j, k2 = some j → w.heap.size ≤ j := fun j h => by
  rcases HF2.out j h with h1 | h1
  ·rcases HF1.out j h1 with h2 | h2
   ·cases h2
   ·exact h2
  ·rw [World.size_alloc] at h1
   have := hw1.size
   omega
 obtain ⟨a3, c3, rfl, hsl⟩ := HO3.out.sl
 refine ⟨a3, _, c3, rfl, ⟨?_, ?_⟩, hw2.trans (HK3.out.below hw2.size (fun j hj h => by have := hd2 j h; omega))⟩
 ·rw [HPR.out]; rfl
 ·rw [HPR.out]
  refine Sl.dom (xs := pcells [⟨key, value⟩]) hsl (fun b hb => .inr ?_)
  rcases HF3.out b hb with h | h
  ·exact hd2 b h
  ·have := hw2.size
   omega
theorem refPut_any {D : Nat → Prop} {w : World} {a : Option Addr} {n c : Nat} {ps : List KV} (h : Ps D w a n c ps) (hn : n ≤ 1000000) (key value : ByteArray) (hks : key.size < 9223372036854775808) (hvs : value.size < 9223372036854775808) :
    Calls Try.prog 26 #[.slice a n c, .string key, .string value] w (RefPut D w ps key value) := by
  by_cases hok : key.size ≤ 60 ∧ value.size ≤ 1000
  · cases a with
    | none =>
      have hc0 : c = 0 := h.2.2.2.2.1 rfl
      have hn0 : n = 0 := by have := h.2.2.1; omega
      have hp0 : ps = [] := List.eq_nil_of_length_eq_zero (by rw [h.1, hn0])
      rw [hc0, hn0, hp0]
      exact refPut_none key value hks hvs hok
    | some ad => exact refPut_some h hn key value hks hvs hok
  · have HPM : Hid (Calls Try.prog 52 #[.string key, .string value] w fun e w' => e = .returned (.bool false) ∧ w = w') := Lib.hid (by
      have := permitted_any (w := w) key value hks hvs
      rw [decide_eq_false hok] at this
      exact this)
    have HR : Hid (RefPut D w ps key value (.returned (.slice a n c)) w) := Lib.hid ⟨a, n, c, rfl, by unfold putR; rw [if_neg hok]; exact h.dom (fun b hb => .inl hb), Below.refl _ _⟩
    clear h hok hn hks hvs
    go_enter Try.func26, Try.ntmps26
    go_wp2_with (go_at_call 52; refine HPM.out.mono ?_; rintro e w2 ⟨rfl, rfl⟩)
    go_ret
    exact HR.out
end Go.Proofs.Ytfgmhidgkemfoaa
namespace Go.Proofs.Ytfgmhidgkemfoaa
open Go.RowKit
set_option linter.unusedSimpArgs false
set_option linter.unusedVariables false
def diffRound (s : List ED × List KV) (p : KV) : List ED × List KV :=
 (s.1 ++ (s.2.takeWhile fun q => decide (cmpK q.k p.k < 0)).map remE ++ (if (s.2.dropWhile fun q => decide (cmpK q.k p.k < 0)).head? = some p then [] else [setE p]),
  match s.2.dropWhile fun q => decide (cmpK q.k p.k < 0) with
  | q :: r => if q.k = p.k then r else q :: r
  | [] => [])
def diffP (a b : List KV) : List ED := (b.foldl diffRound ([], a)).1 ++ (b.foldl diffRound ([], a)).2.map remE
def diffR : List KV → List KV → List ED
 | [], [] => []
 | a :: xs, [] => remE a :: diffR xs []
 | [], b :: bs => setE b :: diffR [] bs
 | a :: xs, b :: bs => if cmpK a.k b.k < 0 then remE a :: diffR xs (b :: bs) else if cmpK b.k a.k < 0 then setE b :: diffR (a :: xs) bs else (if a.v = b.v then [] else [setE b]) ++ diffR xs bs
termination_by a b => a.length + b.length
theorem diffR_nil : ∀ a : List KV, diffR a [] = a.map remE
 | [] => by rw [diffR]; rfl
 | a :: xs => by rw [diffR, diffR_nil xs]; rfl
theorem diffR_left : ∀ b : List KV, diffR [] b = b.map setE
 | [] => by rw [diffR]; rfl
 | b :: bs => by rw [diffR, diffR_left bs]; rfl
theorem round_diff (p : KV) (bs : List KV) : ∀ (a : List KV) (es : List ED), (diffRound (es, a) p).1 ++ diffR (diffRound (es, a) p).2 bs = es ++ diffR a (p :: bs)
  | [], es => by
    rw [diffR]
    simp [diffRound]
  | q :: xs, es => by
    have ih := round_diff p bs xs (es ++ [remE q])
    by_cases h : cmpK q.k p.k < 0
    · have e : diffRound (es, q :: xs) p = diffRound (es ++ [remE q], xs) p := by
        unfold diffRound
        simp only
        rw [List.takeWhile_cons_of_pos (by simpa using h), List.dropWhile_cons_of_pos (by simpa using h), List.map_cons]
        simp only [List.append_assoc, List.cons_append, List.nil_append]
      rw [e, ih, diffR, if_pos h]
      simp only [List.append_assoc, List.cons_append, List.nil_append]
    · have hd : diffRound (es, q :: xs) p = (es ++ (if q = p then [] else [setE p]), if q.k = p.k then xs else q :: xs) := by
        unfold diffRound
        simp only
        rw [List.takeWhile_cons_of_neg (by simpa using h), List.dropWhile_cons_of_neg (by simpa using h)]
        simp only [List.map_nil, List.append_nil, List.head?_cons, Option.some.injEq]
      rw [hd, diffR, if_neg h]
      by_cases hk : q.k = p.k
      · have h2 : ¬ cmpK p.k q.k < 0 := by rw [hk, (cmpK_eq _ _).2 rfl]; omega
        rw [if_neg h2, if_pos hk]
        by_cases hv : q.v = p.v
        · have : q = p := KV.ext' hk hv
          rw [if_pos this, if_pos hv]
          simp
        · have : ¬ q = p := fun e => hv (by rw [e])
          rw [if_neg this, if_neg hv]
          simp
      · have h2 : cmpK p.k q.k < 0 := by
          have h3 := cmpK_flip q.k p.k
          have h4 : cmpK q.k p.k ≠ 0 := fun e => hk ((cmpK_eq _ _).1 e)
          omega
        have : ¬ q = p := fun e => hk (by rw [e])
        rw [if_pos h2, if_neg hk, if_neg this]
        simp
theorem fold_diff : ∀ (b a : List KV) (es : List ED), (b.foldl diffRound (es, a)).1 ++ (b.foldl diffRound (es, a)).2.map remE = es ++ diffR a b
  | [], a, es => by rw [diffR_nil]; rfl
  | p :: bs, a, es => by
    rw [List.foldl_cons]
    have h := fold_diff bs (diffRound (es, a) p).2 (diffRound (es, a) p).1
    rw [show ((diffRound (es, a) p).1, (diffRound (es, a) p).2) = diffRound (es, a) p from rfl] at h
    rw [h, round_diff]
theorem diffP_eq (a b : List KV) : diffP a b = diffR a b := by
 have := fold_diff b a []
 rw [List.nil_append] at this
 exact this
end Go.Proofs.Ytfgmhidgkemfoaa
namespace Go.Proofs.Ytfgmhidgkemfoaa
open Go.RowKit
set_option linter.unusedSimpArgs false
set_option linter.unusedVariables false
theorem tw_eq {α : Type} (P : α → Bool) : ∀ {A B : List α}, (∀ a ∈ A, P a = true) → (∀ b ∈ B.head?, P b = false) → (A ++ B).takeWhile P = A
 | [], [], _, _ => rfl
 | [], b :: B, _, h => List.takeWhile_cons_of_neg (by simp [h b rfl])
 | a :: A, B, h, h2 => by rw [List.cons_append, List.takeWhile_cons_of_pos (h a (List.mem_cons_self ..)), tw_eq P (fun x hx => h x (List.mem_cons_of_mem _ hx)) h2]
theorem at_key {ps : List KV} (hs : Sorted ps) (key : ByteArray) : ∃ A B, ps = A ++ B ∧ plc ps key = A.length ∧ (∀ a ∈ A, cmpK a.k key < 0) ∧ (∀ b ∈ B, 0 ≤ cmpK b.k key) ∧ (∀ b S, B = b :: S → ∀ c ∈ S, 0 < cmpK c.k key) := by
  obtain ⟨A, hA⟩ : ∃ A, A = ps.takeWhile (fun p => decide (cmpK p.k key < 0)) := ⟨_, rfl⟩
  obtain ⟨B, hB⟩ : ∃ B, B = ps.dropWhile (fun p => decide (cmpK p.k key < 0)) := ⟨_, rfl⟩
  have e : ps = A ++ B := by rw [hA, hB, List.takeWhile_append_dropWhile]
  have hAl : ∀ a ∈ A, cmpK a.k key < 0 := fun a ha => by
    rw [hA] at ha
    have := List.all_takeWhile (l := ps) (p := fun p => decide (cmpK p.k key < 0))
    have := List.all_eq_true.1 this a ha
    simpa using this
  have hB0 : ∀ b S, B = b :: S → 0 ≤ cmpK b.k key := fun b S hbs => by
    rw [hB] at hbs
    have := List.head?_dropWhile_not (fun p : KV => decide (cmpK p.k key < 0)) ps
    rw [hbs] at this
    simp only [List.head?_cons] at this
    simpa using this
  have hsB : Sorted B := (sorted_app.1 (e ▸ hs)).2.1
  have hS : ∀ b S, B = b :: S → ∀ c ∈ S, 0 < cmpK c.k key := fun b S hbs c hc => by
    rw [hbs] at hsB
    exact cmpK_ge (hB0 b S hbs) ((sorted_cons.1 hsB).1 c hc)
  refine ⟨A, B, e, by unfold plc; rw [← hA], hAl, fun b hb => ?_, hS⟩
  cases hBB : B with
  | nil => rw [hBB] at hb; cases hb
  | cons x S =>
    rw [hBB] at hb
    rcases List.mem_cons.1 hb with rfl | hb
    · exact hB0 _ S hBB
    · exact Int.le_of_lt (hS x S hBB b hb)
theorem putR_ins {ps : List KV} (hs : Sorted ps) (key value : ByteArray) (hok : key.size ≤ 60 ∧ value.size ≤ 1000) : putR ps key value = insL ps ⟨key, value⟩ := by
  obtain ⟨A, B, rfl, hp, hA, hB, hS⟩ := at_key hs key
  unfold putR
  rw [if_pos hok, hp, List.take_left]
  unfold hasR
  rw [hp, List.getElem?_append_right (Nat.le_refl _), Nat.sub_self]
  cases B with
  | nil =>
    simp only [List.getElem?_nil, Nat.add_zero, List.drop_left]
    rw [insL_new hA (fun a ha => by cases ha)]
    simp
  | cons b S =>
    simp only [List.getElem?_cons_zero]
    by_cases hk : b.k = key
    · rw [if_pos hk, insL_old hA (hS b S rfl) hk]
      rw [show A ++ b :: S = (A ++ [b]) ++ S by simp, show A.length + 1 = (A ++ [b]).length by simp, List.drop_left]
      simp
    · rw [if_neg hk, Nat.add_zero, List.drop_left]
      have hb0 : 0 < cmpK b.k key := by
        have h1 := hB b (List.mem_cons_self ..)
        have h2 : cmpK b.k key ≠ 0 := fun h => hk ((cmpK_eq _ _).1 h)
        omega
      rw [insL_new hA (fun a ha => by
        rcases List.mem_cons.1 ha with rfl | ha
        · exact hb0
        · exact hS b S rfl a ha)]
      simp
theorem putR_bad (ps : List KV) (key value : ByteArray) (hok : ¬ (key.size ≤ 60 ∧ value.size ≤ 1000)) : putR ps key value = ps := if_neg hok
theorem gotR_got {ps : List KV} (hs : Sorted ps) (key : ByteArray) : gotR ps key = gotF (floorL ps key) key := by
  have hs' := hs
  obtain ⟨A, B, rfl, hp, hA, hB, hS⟩ := at_key hs key
  unfold gotR
  rw [hp, List.getElem?_append_right (Nat.le_refl _), Nat.sub_self]
  have hno : (∀ p ∈ B, p.k ≠ key) → gotF (floorL (A ++ B) key) key = none := fun h => by
    cases hg : gotF (floorL (A ++ B) key) key with
    | none => rfl
    | some v =>
      have hm := got_some hg
      rcases List.mem_append.1 hm with h1 | h1
      · have := hA _ h1
        rw [(cmpK_eq _ _).2 rfl] at this
        omega
      · exact (h _ h1 rfl).elim
  cases B with
  | nil => rw [hno (fun p hp => by cases hp)]; rfl
  | cons b S =>
    simp only [List.getElem?_cons_zero]
    by_cases hk : b.k = key
    · rw [if_pos hk]
      have := got_mem (p := b) hs' (by simp)
      rw [hk] at this
      exact this.symm
    · rw [if_neg hk, hno]
      intro p hp e
      rcases List.mem_cons.1 hp with rfl | hp
      · exact hk e
      · have := hS b S rfl p hp
        rw [e, (cmpK_eq _ _).2 rfl] at this
        omega
theorem delR_del (ps : List KV) (key : ByteArray) : ps.filter (fun p => !decide (p.k = key)) = delL ps key := by
 unfold delL
 congr 1
 funext p
 simp
theorem tw_filter (u : ByteArray) : ∀ {l : List KV}, Sorted l → l.takeWhile (befK u) = l.filter (befK u)
  | [], _ => rfl
  | p :: l, hs => by
    obtain ⟨h1, h2⟩ := sorted_cons.1 hs
    by_cases hb : befK u p = true
    · rw [List.takeWhile_cons_of_pos hb, List.filter_cons_of_pos hb, tw_filter u h2]
    · rw [List.takeWhile_cons_of_neg hb, List.filter_cons_of_neg hb]
      symm
      refine List.filter_eq_nil_iff.2 fun q hq hbq => hb ?_
      unfold befK at hbq ⊢
      simp only [Bool.or_eq_true, decide_eq_true_eq] at hbq ⊢
      rcases hbq with h | h
      · exact .inl h
      · exact .inr (cmpK_trans (h1 q hq) h)
theorem rngR_rng {ps : List KV} (hs : Sorted ps) (f u : ByteArray) : ps.filter (fun p => decide (0 ≤ cmpK p.k f) && befK u p) = rngL f u ps := by
 unfold rngL geL
 rw [tw_filter u (hs.sublist List.filter_sublist), List.filter_filter]
 congr 1
 funext p
 rw [Bool.and_comm]
theorem cmpK_emp (a : ByteArray) : 0 ≤ cmpK a emptyS := by
 unfold cmpK emptyS
 obtain ⟨⟨l⟩⟩ := a
 cases l with
 | nil => decide
 | cons a t => show (0 : Int) ≤ 1; decide
theorem geL_emp (l : List KV) : geL emptyS l = l := List.filter_eq_self.2 (fun p _ => by simpa using cmpK_emp p.k)
theorem rngL_emp (l : List KV) : rngL emptyS emptyS l = l := by
 unfold rngL
 rw [geL_emp]
 exact tw_all _ _ (fun y _ => by unfold befK; simp)
theorem rngL_sub (f u : ByteArray) (l : List KV) : (rngL f u l).Sublist l := (List.takeWhile_sublist _).trans List.filter_sublist
theorem Ps.row {w : World} {base : Nat} {v : Value} {ps : List KV} (h : w.ownsRow base 65 2 v ps.length (pcells ps)) : ∃ a n c, v = .slice a n c ∧ Ps (fun b => base ≤ b) w a n c ps := by
 obtain ⟨h1, h2⟩ := h
 rcases h2 with ⟨rfl, h0⟩ | ⟨g, cap, cur, rfl, hb, hg, h3, h4, h5, h6⟩
 ·exact ⟨none, 0, 0, rfl, h0, by rw [h0] at h1; exact h1, Nat.le_refl _, by decide, fun _ => rfl, fun h => absurd h (by omega)⟩
 ·refine ⟨_, _, _, rfl, rfl, h1, h3, h4, (fun h => by cases h), fun _ => ⟨g, 0, hb, rfl, fun j v hj => ?_⟩⟩
  have : cur[0 + j]? = some v := by
   rw [← h6] at hj
   rw [Nat.zero_add, ← Array.getElem?_toList]
   rw [List.getElem?_take] at hj
   split at hj
   ·exact hj
   ·cases hj
  exact (cell_of_row w g (0 + j) cur _ _ hg).trans this
theorem Es.row {w : World} {base : Nat} {v : Value} {es : List ED} (h : w.ownsRow base 61 3 v es.length (ecells es)) : ∃ a n c, v = .slice a n c ∧ Es (fun b => base ≤ b) w a n c es := by
 obtain ⟨h1, h2⟩ := h
 rcases h2 with ⟨rfl, h0⟩ | ⟨g, cap, cur, rfl, hb, hg, h3, h4, h5, h6⟩
 ·exact ⟨none, 0, 0, rfl, h0, by rw [h0] at h1; exact h1, Nat.le_refl _, by decide, fun _ => rfl, fun h => absurd h (by omega)⟩
 ·refine ⟨_, _, _, rfl, rfl, h1, h3, h4, (fun h => by cases h), fun _ => ⟨g, 0, hb, rfl, fun j v hj => ?_⟩⟩
  have : cur[0 + j]? = some v := by
   rw [← h6] at hj
   rw [Nat.zero_add, ← Array.getElem?_toList]
   rw [List.getElem?_take] at hj
   split at hj
   ·exact hj
   ·cases hj
  exact (cell_of_row w g (0 + j) cur _ _ hg).trans this
end Go.Proofs.Ytfgmhidgkemfoaa
namespace Go.Proofs.Ytfgmhidgkemfoaa
open Go.RowKit
set_option linter.unusedSimpArgs false
set_option linter.unusedVariables false
theorem oper_round {P : Program} {l n : Nat} {o : Oper} {K K' : Act → World → Prop} {Q : Exit → Act → World → Prop} {a : Act} {w : World} (hd : ∀ c, o.op ≠ .defer c) (hK : ∀ a w, K a w → K' a w) (h : o.wp P a w K Q) : o.wpIn (Fence.wide.inRound l) n P a w K' Q := by
  have hnd : ∀ m : Nat, ((Fence.wide.inRound l).depth.isSome = true → 1 ≤ m) := fun m h => by cases h
  refine ⟨fun _ _ => trivial, ?_⟩
  rw [Oper.semAt_eq _ _ _ hd]
  unfold Oper.wp at h
  generalize (execOp a.eval o).run P w = r at *
  cases r with
  | ok x w' =>
    cases x <;> simp only [Oper.upon, Oper.uponIn] at h ⊢
    case value => exact hK _ _ h
    case skip => exact hK _ _ h
    case defer => exact hK _ _ h
    case enter f args => exact ⟨hnd _, (callsIn_wide.2 h).mono (fun e w'' he => by cases e <;> first | exact hK _ _ he | exact he)⟩
    case row row args => exact ⟨hnd _, fun c cs _ => by
      obtain ⟨v, w'', r, s⟩ := h c cs
      exact ⟨v, w'', hK _ _ r, stepsIn_wide.2 s⟩⟩
  | halt x w' => cases x <;> simp only [Oper.upon, Oper.uponIn] at h ⊢ <;> exact h
theorem any_round {P : Program} {l n : Nat} {md : Region.Mode} {ops : Array Oper} {Q : Exit → Act → World → Prop} (hd : ∀ (i : Nat) (o : Oper), ops[i]? = some o → ∀ c, o.op ≠ .defer c) (hlo : ¬ LetsOut Q) :
    ∀ (fuel : Nat) (listed : Array Bool) (a : Act) (w : World), wpAny P md ops Q fuel listed a w → wpAnyIn (Fence.wide.inRound l) n P md ops Q fuel listed a w
  | 0, _, _, _, h => h
  | fuel + 1, listed, a, w, h => ⟨h.1, fun i hi => by
      have h1 := h.2 i hi
      unfold wpOp at h1
      unfold wpOpIn
      cases ho : ops[i]? with
      | none =>
        simp only [ho] at h1 ⊢
        exact any_round hd hlo fuel _ a w h1
      | some o =>
        simp only [ho] at h1 ⊢
        split
        · rename_i hw
          simp only [hw, if_true] at h1
          rcases h1 with h1 | h1
          · exact oper_round (hd i o ho) (fun a w => any_round hd hlo fuel _ a w) h1
          · exact (hlo h1.2).elim
        · rename_i hw
          simp only [hw] at h1
          exact ⟨fun _ _ => trivial, any_round hd hlo fuel _ _ w h1⟩⟩
def noDefer (ops : Array Oper) : Bool := ops.all fun o => match o.op with | .defer _ => false | _ => true
theorem noDefer_spec {ops : Array Oper} (h : noDefer ops = true) : ∀ (i : Nat) (o : Oper), ops[i]? = some o → ∀ c, o.op ≠ .defer c := by
 intro i o ho c hc
 obtain ⟨hlt, rfl⟩ := Array.getElem?_eq_some_iff.1 ho
 have := Array.all_eq_true.1 h i hlt
 rw [hc] at this
 cases this
theorem region_round {P : Program} {l n id : Nat} {ops : Array Oper} {Q : Exit → Act → World → Prop} {a : Act} {w : World} (hm : P.follows .mixedOrders = true) (hd : noDefer ops = true) (hlo : ¬ LetsOut Q)
  (h : wpAny P .any ops Q ops.size (Array.replicate ops.size false) a { w with drawn := w.drawn + 1 }) : (Code.region id ops true).wpIn (Fence.wide.inRound l) n P Q a w :=
 wpIn_region_any hm (any_round (noDefer_spec hd) hlo _ _ _ _ h)
end Go.Proofs.Ytfgmhidgkemfoaa
namespace Go.Proofs.Ytfgmhidgkemfoaa.Roll
variable {P : Program} {ops : Array Oper} {Q : Exit → Act → World → Prop}
theorem region_any_r {lr nn : Nat} {id : Nat} {l : List Oper} {a0 : Act} {w0 : World} (n : Nat) (D : List (Option Tmp)) (L : List (List Nat)) (I : World → Prop) (S : World → World → Prop) (R : Nat → Value → World → Prop) (hm : P.follows .mixedOrders = true) (hnd : noDefer l.toArray = true) (hlq : ¬ LetsOut Q)
  (hok : regOk l.toArray D L n a0.tmps.size = true) (h0 : I w0.drew)
  (hS : ∀ j v w w', S w w' → R j v w → R j v w')
  (hop : OwesAll P D L I S R a0 0 n l)
  (hend : ∀ (vals : Nat → Value) (w : World), I w → (∀ j : Nat, j < n → R j (vals j) w) → wpList P l.toArray Q (l.drop n) (putD D vals (List.range n) a0) w) :
  (Code.region id l.toArray true).wpIn (Fence.wide.inRound lr) nn P Q a0 w0 := by
 simp only [regOk, Bool.and_eq_true] at hok
 obtain ⟨⟨⟨⟨⟨⟨⟨hnle, htl⟩, hb⟩, hap⟩, hlo⟩, hsz⟩, hD⟩, hgd⟩ := hok
 have hnle' := of_decide_eq_true hnle
 have slot_lt : ∀ {j t : Nat}, slot l.toArray j = some t → j < l.toArray.size := by
  intro j t hj
  unfold slot at hj
  cases hk : l.toArray[j]? with
  | none => rw [hk] at hj; cases hj
  | some o => exact (Array.getElem?_eq_some_iff.1 hk).1
 have hsz' : ∀ j t, slot l.toArray j = some t → t < a0.tmps.size := by
  intro j t hj
  have h1 := List.all_eq_true.1 hsz j (List.mem_range.2 (slot_lt hj))
  simp only [hj] at h1
  exact of_decide_eq_true h1
 have hD' : ∀ j, j < l.toArray.size → slot l.toArray j = D.getD j none := fun j hj => by simpa using List.all_eq_true.1 hD j (List.mem_range.2 hj)
 refine region_round hm hnd hlq ?_
 refine wpAny_held hb hap hlo hnle' htl (I := I) (S := S) (R := R) (a0 := a0) hsz' hS (fun k o hk ho => ?_) (fun vals w hI hR => ?_) _ _ (fun _ => undef) a0 _ ?_ ?_ ?_
 ·have hklt : k < l.toArray.size := (Array.getElem?_eq_some_iff.1 ho).1
  have h1 := owes_of_all l 0 n hop k o hk (by simpa using ho)
  rw [Nat.zero_add] at h1
  have hlk := List.all_eq_true.1 hlo k (List.mem_range.2 hklt)
  simp only [ho, Bool.and_eq_true] at hlk
  refine does_of_owes hD' (fun j hj => ?_) hap hsz' (fun g want hg => ?_) h1
  ·have h2 : j ∈ ahead o := by simpa using List.all_eq_true.1 hlk.1.2 j hj
   have h3 := List.all_eq_true.1 hb k (List.mem_range.2 hklt)
   simp only [ho] at h3
   have := of_decide_eq_true (List.all_eq_true.1 h3 j h2)
   omega
  ·have h2 := List.all_eq_true.1 hgd k (List.mem_range.2 hklt)
   simp only [ho, Option.bind_some, hg, Bool.and_eq_true] at h2
   have hgl : g ∈ L.getD k [] := by simpa using h2.1
   refine ⟨hgl, ?_⟩
   have h4 : g ∈ ahead o := by simpa using List.all_eq_true.1 hlk.1.2 g hgl
   have h3 := List.all_eq_true.1 hb k (List.mem_range.2 hklt)
   simp only [ho] at h3
   have := of_decide_eq_true (List.all_eq_true.1 h3 g h4)
   rw [hD' g (by omega)]; exact h2.2
 ·rw [putD_eq hD' vals _ _ (fun j hj => by have := List.mem_range.1 hj; omega)]
  exact hend vals w hI hR
 ·simp
 ·intro j _ hj
  rw [Array.getElem?_replicate, if_pos hj]
 ·refine ⟨h0, by simp, rfl, rfl, ?_, fun _ _ => rfl, ?_, ?_⟩
  ·intro j o _ hj
   rw [Array.getElem?_replicate] at hj
   split at hj <;> simp at hj
  ·intro j t hj
   rw [Array.getElem?_replicate] at hj
   split at hj <;> simp at hj
  ·intro j hj
   rw [Array.getElem?_replicate] at hj
   split at hj <;> simp at hj
theorem region_l_r {lr nn : Nat} {id : Nat} {l : List Oper} {a0 : Act} {w0 : World} (n : Nat) (D : List (Option Tmp)) (L : List (List Nat)) (I : World → Prop) (S : World → World → Prop) (RL : List (Value → World → Prop)) (hm : P.follows .mixedOrders = true) (hnd : noDefer l.toArray = true) (hlq : ¬ LetsOut Q)
  (hok : regOk l.toArray D L n a0.tmps.size = true) (h0 : I w0.drew) (hS : Stab S RL)
  (hop : OwesAll P D L I S (at_ RL) a0 0 n l)
  (hend : ∀ (vals : Nat → Value) (w : World), I w → (∀ j : Nat, j < n → at_ RL j (vals j) w) → wpList P l.toArray Q (l.drop n) (putD D vals (List.range n) a0) w) :
  (Code.region id l.toArray true).wpIn (Fence.wide.inRound lr) nn P Q a0 w0 := region_any_r n D L I S (at_ RL) hm hnd hlq hok h0 hS.at hop hend
theorem region_f_r {lr nn : Nat} {id : Nat} {l : List Oper} {a0 : Act} {w0 : World} (n N : Nat) (D : List (Option Tmp)) (L : List (List Nat)) (LV : List (Nat × Value)) (I : World → Prop) (S : World → World → Prop) (RL : List (Value → World → Prop)) (hm : P.follows .mixedOrders = true) (hnd : noDefer l.toArray = true) (hlq : ¬ LetsOut Q)
  (hok : regOk l.toArray D L n N = true) (hN : a0.tmps.size = N) (hLV : Lives a0 LV) (h0 : I w0.drew) (hS : Stab S RL)
  (hop : ∀ b0 : Act, b0.tmps.size = N → Lives b0 LV → OwesAll P D L I S (at_ RL) b0 0 n l)
  (hend : ∀ (vals : Nat → Value) (w : World), I w → (∀ j : Nat, j < n → at_ RL j (vals j) w) → wpList P l.toArray Q (l.drop n) (putD D vals (List.range n) a0) w) :
  (Code.region id l.toArray true).wpIn (Fence.wide.inRound lr) nn P Q a0 w0 := region_l_r n D L I S RL hm hnd hlq (hN ▸ hok) h0 hS (hop a0 hN hLV) hend
theorem region_anyv_r {lr nn : Nat} {id : Nat} {l : List Oper} {a0 : Act} {w0 : World} (n : Nat) (D : List (Option Tmp)) (L : List (List Nat)) (I0 : World → Prop) (I1 : Value → World → Prop) (J : World → Prop) (k0 : Nat) (PL : List Bool) (S : World → World → Prop) (R : Nat → (Nat → Value) → World → Prop) (hm : P.follows .mixedOrders = true) (hnd : noDefer l.toArray = true) (hlq : ¬ LetsOut Q)
  (hok : regOk2 l.toArray D L n a0.tmps.size = true) (h0 : I0 w0.drew) (hk0 : k0 < n) (hPL : (List.range n).all (fun k => k == k0 || PL.getD k false || aheadB l.toArray 12 k0 k) = true) (hJ0 : ∀ w, I0 w → J w) (hJ1 : ∀ u w, I1 u w → J w) (hS0 : ∀ w, S w w)
  (hS : ∀ j v w w', S w w' → R j v w → R j v w') (hC : ∀ j v v' w, (∀ i, i = j ∨ i ∈ L.getD j [] → v i = v' i) → R j v w → R j v' w)
  (hop : OwesAllw P D L I0 I1 J k0 PL S R a0 0 n l)
  (hend : ∀ (vals : Nat → Value) (w : World), I1 (vals k0) w → (∀ j : Nat, j < n → R j vals w) → wpList P l.toArray Q (l.drop n) (putD D vals (List.range n) a0) w) :
  (Code.region id l.toArray true).wpIn (Fence.wide.inRound lr) nn P Q a0 w0 := by
 simp only [regOk2, Bool.and_eq_true] at hok
 obtain ⟨⟨⟨⟨⟨⟨⟨hnle, htl⟩, hb⟩, hap⟩, hlo⟩, hsz⟩, hD⟩, hgd⟩ := hok
 have hnle' := of_decide_eq_true hnle
 have slot_lt : ∀ {j t : Nat}, slot l.toArray j = some t → j < l.toArray.size := by
  intro j t hj
  unfold slot at hj
  cases hk : l.toArray[j]? with
  | none => rw [hk] at hj; cases hj
  | some o => exact (Array.getElem?_eq_some_iff.1 hk).1
 have hsz' : ∀ j t, slot l.toArray j = some t → t < a0.tmps.size := by
  intro j t hj
  have h1 := List.all_eq_true.1 hsz j (List.mem_range.2 (slot_lt hj))
  simp only [hj] at h1
  exact of_decide_eq_true h1
 have hD' : ∀ j, j < l.toArray.size → slot l.toArray j = D.getD j none := fun j hj => by simpa using List.all_eq_true.1 hD j (List.mem_range.2 hj)
 refine region_round hm hnd hlq ?_
 refine wpAny_heldv hb hap hlo hnle' htl (I0 := I0) (I1 := I1) (J := J) (k0 := k0) (PL := PL) (S := S) (R := R) (a0 := a0) hsz' hS hC hk0 (fun o k ho hk hne => ?_) hJ0 hJ1 hS0 (fun k o hk ho => ?_) (fun vals w hI hR => ?_) _ _ (fun _ => undef) a0 _ ?_ ?_ ?_
 ·have h1 := List.all_eq_true.1 hPL k (List.mem_range.2 hk)
  simp only [Bool.or_eq_true, beq_iff_eq] at h1
  rcases h1 with (h1 | h1) | h1
  ·exact (hne h1).elim
  ·exact .inl h1
  ·exact .inr h1
 ·have hklt : k < l.toArray.size := (Array.getElem?_eq_some_iff.1 ho).1
  have h1 := owes_of_allw l 0 n hop k o hk (by simpa using ho)
  rw [Nat.zero_add] at h1
  have hlk := List.all_eq_true.1 hlo k (List.mem_range.2 hklt)
  simp only [ho, Bool.and_eq_true] at hlk
  refine does_of_owesw hD' (fun j hj => ?_) hap hsz' (fun g want hg => ?_) h1
  ·have h2 : j ∈ ahead o := by simpa using List.all_eq_true.1 hlk.1.2 j hj
   have h3 := List.all_eq_true.1 hb k (List.mem_range.2 hklt)
   simp only [ho] at h3
   have := of_decide_eq_true (List.all_eq_true.1 h3 j h2)
   omega
  ·have h2 := List.all_eq_true.1 hgd k (List.mem_range.2 hklt)
   simp only [ho, Option.bind_some, hg, Bool.and_eq_true] at h2
   have hgl : g ∈ L.getD k [] := by simpa using h2.1
   refine ⟨hgl, ?_⟩
   have h4 : g ∈ ahead o := by simpa using List.all_eq_true.1 hlk.1.2 g hgl
   have h3 := List.all_eq_true.1 hb k (List.mem_range.2 hklt)
   simp only [ho] at h3
   have := of_decide_eq_true (List.all_eq_true.1 h3 g h4)
   rw [hD' g (by omega)]; exact h2.2
 ·rw [putD_eq hD' vals _ _ (fun j hj => by have := List.mem_range.1 hj; omega)]
  exact hend vals w hI hR
 ·simp
 ·intro j _ hj
  rw [Array.getElem?_replicate, if_pos hj]
 ·refine ⟨⟨fun hf => ?_, fun _ => h0⟩, by simp, rfl, rfl, ?_, fun _ _ => rfl, ?_, ?_⟩
  ·rw [Array.getElem?_replicate] at hf
   split at hf <;> simp at hf
  ·intro j o _ hj
   rw [Array.getElem?_replicate] at hj
   split at hj <;> simp at hj
  ·intro j t hj
   rw [Array.getElem?_replicate] at hj
   split at hj <;> simp at hj
  ·intro j hj
   rw [Array.getElem?_replicate] at hj
   split at hj <;> simp at hj
theorem region_v_r {lr nn : Nat} {id : Nat} {l : List Oper} {a0 : Act} {w0 : World} (n N : Nat) (D : List (Option Tmp)) (L : List (List Nat)) (LV : List (Nat × Value)) (k0 : Nat) (PL : List Bool) (I0 : World → Prop) (I1 : Value → World → Prop) (J : World → Prop) (S : World → World → Prop) (RL : List ((Nat → Value) → World → Prop)) (hm : P.follows .mixedOrders = true) (hnd : noDefer l.toArray = true) (hlq : ¬ LetsOut Q)
  (hok : regOk2 l.toArray D L n N = true) (hN : a0.tmps.size = N) (hLV : Lives a0 LV) (h0 : I0 w0.drew) (hk0 : k0 < n)
  (hPL : (List.range n).all (fun k => k == k0 || PL.getD k false || aheadB l.toArray 12 k0 k) = true) (hJ0 : ∀ w, I0 w → J w) (hJ1 : ∀ u w, I1 u w → J w) (hS0 : ∀ w, S w w) (hS : Stabg S RL)
  (hop : ∀ b0 : Act, b0.tmps.size = N → Lives b0 LV → OwesAllw P D L I0 I1 J k0 PL S (atg L RL) b0 0 n l)
  (hend : ∀ (vals : Nat → Value) (w : World), I1 (vals k0) w → (∀ j : Nat, j < n → atg L RL j vals w) → wpList P l.toArray Q (l.drop n) (putD D vals (List.range n) a0) w) :
  (Code.region id l.toArray true).wpIn (Fence.wide.inRound lr) nn P Q a0 w0 := by
 refine region_anyv_r n D L I0 I1 J k0 PL S (atg L RL) hm hnd hlq (hN ▸ hok) h0 hk0 hPL hJ0 hJ1 hS0 (fun j v w w' hs h => hS.get j _ w w' hs h) (fun j v v' w hv h => ?_) (hop a0 hN hLV) hend
 unfold atg at *
 have e : rs L j v = rs L j v' := by
  funext i
  unfold rs
  split
  ·rename_i hi
   exact hv i (by simpa using hi)
  ·rfl
 rw [← e]; exact h
end Go.Proofs.Ytfgmhidgkemfoaa.Roll
namespace Go.Proofs.Ytfgmhidgkemfoaa
open Go.RowKit Go.Shelf
set_option linter.unusedSimpArgs false
set_option linter.unusedVariables false
def KeepP (W W' : World) : Prop := ∀ (b : Nat) (cur : Array Value), W.heap[b]? = some (.cells cur 65 (0, 0)) → W'.heap[b]? = some (.cells cur 65 (0, 0))
def DP (W : World) (b : Nat) : Prop := ∃ cur : Array Value, W.heap[b]? = some (.cells cur 65 (0, 0))
theorem KeepP.refl (W : World) : KeepP W W := fun _ _ h => h
theorem KeepP.trans {A B C : World} (h : KeepP A B) (k : KeepP B C) : KeepP A C := fun b cur e => k b cur (h b cur e)
theorem KeepP.of_below {A B : World} (h : Below A.heap.size A B) : KeepP A B := fun b cur e => (h.block b (Array.getElem?_eq_some_iff.1 e).1).trans e
theorem Ps.keepP {W W' : World} {a : Option Addr} {n c : Nat} {ps : List KV} (h : Ps (DP W) W a n c ps) (k : KeepP W W') : Ps (DP W) W' a n c ps := by
 obtain ⟨h1, h2, h3, h4, h5, h6⟩ := h
 refine ⟨h1, h2, h3, h4, h5, fun hn => ?_⟩
 obtain ⟨b, off, ⟨cur, hb⟩, ha, hr⟩ := h6 hn
 refine ⟨b, off, ⟨cur, hb⟩, ha, fun j v hj => ?_⟩
 have := hr j v hj
 rw [cell_of_row W b (off + j) cur _ _ hb] at this
 exact (cell_of_row W' b (off + j) cur _ _ (k b cur hb)).trans this
theorem Ps.rowP {w : World} {base : Nat} {v : Value} {ps : List KV} (h : w.ownsRow base 65 2 v ps.length (pcells ps)) : ∃ a n c, v = .slice a n c ∧ Ps (DP w) w a n c ps ∧ (∀ ad, a = some ad → ad.spot = none) := by
 obtain ⟨h1, h2⟩ := h
 rcases h2 with ⟨rfl, h0⟩ | ⟨g, cap, cur, rfl, hb, hg, h3, h4, h5, h6⟩
 ·exact ⟨none, 0, 0, rfl, ⟨h0, by rw [h0] at h1; exact h1, Nat.le_refl _, by decide, fun _ => rfl, fun h => absurd h (by omega)⟩, (fun ad h => by cases h)⟩
 ·refine ⟨_, _, _, rfl, ⟨rfl, h1, h3, h4, (fun h => by cases h), fun _ => ⟨g, 0, ⟨cur, hg⟩, rfl, fun j v hj => ?_⟩⟩, (fun ad h => by cases h; rfl)⟩
  have : cur[0 + j]? = some v := by
   rw [← h6] at hj
   rw [Nat.zero_add, ← Array.getElem?_toList]
   rw [List.getElem?_take] at hj
   split at hj
   ·exact hj
   ·cases hj
  exact (cell_of_row w g (0 + j) cur _ _ hg).trans this
theorem Ps.toP {W W' : World} {a : Option Addr} {n c : Nat} {ps : List KV} (h : Ps (DP W) W a n c ps) (k : KeepP W W') : Ps (DP W') W' a n c ps := (h.keepP k).dom (fun b hb => by obtain ⟨cur, hb⟩ := hb; exact ⟨cur, k b cur hb⟩)
theorem Own.blk {w : World} {e : TypeId} {size : Nat} {k : Option Nat} {v : Value} {n : Nat} {xs : List Value} (h : Own w e size k v n xs) : k = v.ownBlock := by
 rcases h.2 with ⟨rfl, rfl, _⟩ | ⟨g, cap, cur, rfl, rfl, _⟩ <;> rfl
theorem Own.owns {w : World} {base : Nat} {e : TypeId} {size : Nat} {k : Option Nat} {v : Value} {n : Nat} {xs : List Value} (h : Own w e size k v n xs) (hb : ∀ j, k = some j → base ≤ j) : w.ownsRow base e size v n xs := by
 refine ⟨h.1, ?_⟩
 rcases h.2 with ⟨_, h1, h2⟩ | ⟨g, cap, cur, h1, h2, h3⟩
 ·exact .inl ⟨h1, h2⟩
 ·exact .inr ⟨g, cap, cur, h2, hb g h1, h3⟩
theorem Own.ofRow {w : World} {base : Nat} {e : TypeId} {size : Nat} {v : Value} {n : Nat} {xs : List Value} (h : w.ownsRow base e size v n xs) : Own w e size v.ownBlock v n xs ∧ ∀ j, v.ownBlock = some j → base ≤ j := by
 rcases h with ⟨h0, ⟨rfl, h2⟩ | ⟨g, cap, cur, rfl, hb, h3⟩⟩
 ·exact ⟨⟨h0, .inl ⟨rfl, rfl, h2⟩⟩, fun j hj => by simp [Value.ownBlock] at hj⟩
 ·exact ⟨⟨h0, .inr ⟨g, cap, cur, rfl, rfl, h3⟩⟩, fun j hj => by simp [Value.ownBlock] at hj; omega⟩
structure KD (n0 : Nat) (W W' : World) : Prop where
 kp : KP n0 W W'
 p : KeepP W W'
 o : KeepsOthers W W'
theorem KD.refl (n0 : Nat) (W : World) : KD n0 W W := ⟨KP.refl _ _, KeepP.refl _, KeepsOthers.refl _⟩
theorem KD.trans {n0 : Nat} {A B C : World} (h : KD n0 A B) (k : KD n0 B C) : KD n0 A C := ⟨h.kp.trans k.kp, h.p.trans k.p, h.o.trans k.o⟩
theorem KD.of_below {n0 : Nat} {A B : World} (h : Below A.heap.size A B) (hn : n0 ≤ A.heap.size) : KD n0 A B :=
 ⟨KP.of h hn, KeepP.of_below h, ⟨h.size, fun k o hk _ => (h.block k (Array.getElem?_eq_some_iff.1 hk).1).trans hk⟩⟩
theorem KD.set {n0 B : Nat} {W : World} {tb : TypeId} {v : Value} (hv : Boxed W B tb v) (hn : n0 ≤ B) (v' : Value) (h1 : tb ≠ 9 ∧ tb ≠ 24 ∧ tb ≠ 124 ∧ tb ≠ 125 ∧ tb ≠ 65) : KD n0 W (W.setCell ⟨B, 0, none⟩ v') := by
 have hlt := hv.lt
 have hbb : Below n0 W (W.setCell ⟨B, 0, none⟩ v') := ((Kept.refl (fun j => j = B) W).setCell (p := ⟨B, 0, none⟩) (fun _ => rfl) v').below (by omega) (fun j hj e => by omega)
 have key : ∀ (b : Nat) (cs : Array Value) (t : TypeId), t ≠ tb → W.heap[b]? = some (.cells cs t (0, 0)) → (W.setCell ⟨B, 0, none⟩ v').heap[b]? = some (.cells cs t (0, 0)) := fun b cs t ht hh => by
  refine (Below.heap_setCell _ _ _ b (fun e => ?_)).trans hh
  have e' : b = B := e
  subst e'
  have := hh.symm.trans hv
  simp at this
  exact ht this.2
 refine ⟨⟨hbb, fun b cs t ht hh => key b cs t (by rintro rfl; rcases ht with h | h | h | h <;> simp_all) hh⟩, fun b cur hh => key b cur _ (fun e => h1.2.2.2.2 e.symm) hh, KeepsOthers.setCell _ _ _⟩
theorem KD.row {n0 : Nat} {W W' : World} {te : TypeId} {size n : Nat} {k : Option Nat} {v : Value} {xs : List Value} (ho : Own W te size k v n xs) (hk : Kept (fun j => k = some j) W W') (hn : n0 ≤ W.heap.size) (hb : ∀ j, k = some j → n0 ≤ j) (h1 : te ≠ 9 ∧ te ≠ 24 ∧ te ≠ 124 ∧ te ≠ 125 ∧ te ≠ 65) : KD n0 W W' := by
 have hbb : Below n0 W W' := hk.below hn (fun j hj e => by have := hb j e; omega)
 have key : ∀ (b : Nat) (cs : Array Value) (t : TypeId), t ≠ te → W.heap[b]? = some (.cells cs t (0, 0)) → W'.heap[b]? = some (.cells cs t (0, 0)) := fun b cs t ht hh => by
  refine hk.heap hh (fun e => ?_)
  subst e
  obtain ⟨cap, cur, -, hg, -⟩ := ho.row
  have := hh.symm.trans hg
  simp at this
  exact ht this.2
 refine ⟨⟨hbb, fun b cs t ht hh => key b cs t (by rintro rfl; rcases ht with h | h | h | h <;> simp_all) hh⟩, fun b cur hh => key b cur _ (fun e => h1.2.2.2.2 e.symm) hh, ⟨hk.size, fun b o hh hc => ?_⟩⟩
 refine hk.heap hh (fun e => ?_)
 subst e
 obtain ⟨cap, cur, -, hg, -⟩ := ho.row
 rw [hh] at hg
 cases hg
 cases hc
structure DS (w W0 : World) (be bo : Nat) (es : List ED) (rest : List KV) (W : World) (sl : Value) (a : Option Addr) (n c : Nat) : Prop where
 e : Boxed W be 56 sl
 row : W.ownsRow w.heap.size 61 3 sl es.length (ecells es)
 o : Boxed W bo 26 (.slice a n c)
 ps : Ps (DP W0) W0 a n c rest
 sp : ∀ ad, a = some ad → ad.spot = none
 kp : KeepP W0 W
 b : Below w.heap.size w W
section
variable {w W0 W p w1 : World} {be bo : Nat} {es es' : List ED} {rest rest' : List KV} {sl v' : Value} {a a' : Option Addr} {n c n' c' m : Nat}
theorem DS.below (h : DS w W0 be bo es rest W sl a n c) (hb : Below W.heap.size W p) : DS w W0 be bo es rest p sl a n c :=
 ⟨(hb.block _ h.e.lt).trans h.e, ownsRow_below h.row hb, (hb.block _ h.o.lt).trans h.o, h.ps, h.sp, h.kp.trans (KeepP.of_below hb), h.b.trans (hb.mono h.b.size)⟩
theorem DS.setO (h : DS w W0 be bo es rest W sl a n c) (hne : be ≠ bo) (hw : w.heap.size ≤ bo) (hp : Ps (DP W0) W0 a' n' c' rest') (hsp : ∀ ad, a' = some ad → ad.spot = none) : DS w W0 be bo es rest' (W.setCell ⟨bo, 0, none⟩ (.slice a' n' c')) sl a' n' c' ∧ KD w.heap.size W (W.setCell ⟨bo, 0, none⟩ (.slice a' n' c')) := by
 have hk : KD w.heap.size W (W.setCell ⟨bo, 0, none⟩ (.slice a' n' c')) := KD.set h.o hw _ (by decide)
 refine ⟨⟨h.e.other hne _, ?_, h.o.set _, hp, hsp, h.kp.trans hk.p, h.b.trans hk.kp.1⟩, hk⟩
 exact h.row.kept (grownBy_setCell' W bo _) (.inr (h.o.not_row (by decide) h.row).symm)
theorem DS.app (h : DS w W0 be bo es rest W sl a n c) (hne : be ≠ bo) (hw : w.heap.size ≤ be) (hb : Below W.heap.size W p) (hk : Kept (fun j => sl.ownBlock = some j) p w1) (hown : w1.ownsRow w.heap.size 61 3 v' es'.length (ecells es')) :
  Boxed w1 be 56 sl ∧ DS w W0 be bo es' rest (w1.setCell ⟨be, 0, none⟩ v') v' a n c ∧ KD w.heap.size W (w1.setCell ⟨be, 0, none⟩ v') := by
 have h2 := h.below hb
 have hnr := h2.e.not_row (by decide) h2.row
 have hor := h2.o.not_row (by decide) h2.row
 have e1 : Boxed w1 be 56 sl := hk.heap h2.e (fun e => hnr e.symm)
 have o1 : Boxed w1 bo 26 (.slice a n c) := hk.heap h2.o (fun e => hor e.symm)
 obtain ⟨ho, hbj⟩ := Own.ofRow h2.row
 have hK1 : KD w.heap.size W p := KD.of_below hb h.b.size
 have hK2 : KD w.heap.size p w1 := KD.row ho hk h2.b.size hbj (by decide)
 have hK3 : KD w.heap.size w1 (w1.setCell ⟨be, 0, none⟩ v') := KD.set e1 hw _ (by decide)
 refine ⟨e1, ⟨e1.set _, ?_, o1.other (Ne.symm hne) _, h.ps, h.sp, (h.kp.trans hK1.p).trans (hK2.p.trans hK3.p), h.b.trans (hK1.trans (hK2.trans hK3)).kp.1⟩, hK1.trans (hK2.trans hK3)⟩
 exact hown.kept (grownBy_setCell' w1 be _) (.inr (e1.not_row (by decide) hown).symm)
end
def DI (w W0 : World) (be bo : Nat) (old : List KV) (pre : List KV) (W : World) : Prop := ∃ sl a n c, DS w W0 be bo (pre.foldl diffRound ([], old)).1 (pre.foldl diffRound ([], old)).2 W sl a n c
theorem DI.own {w W0 : World} {be bo B : Nat} {old : List KV} (hm : w.heap.size ≤ B) : OwnFrom B (DI w W0 be bo old) := by
 rintro pre X Y row ⟨sl, a, n, c, h⟩ hg hr
 have hx : ∀ (b : Nat) (cs : Array Value) (t : TypeId), X.heap[b]? = some (.cells cs t (0, 0)) → Y.heap[b]? = some (.cells cs t (0, 0)) := fun b cs t hh => by
  refine (hg.block b (Array.getElem?_eq_some_iff.1 hh).1 (fun e => ?_)).trans hh
  obtain ⟨_, o, ho, hc⟩ := hr b e.symm
  rw [hh] at ho
  cases ho
  cases hc
 refine ⟨sl, a, n, c, hx _ _ _ h.e, ?_, hx _ _ _ h.o, h.ps, h.sp, h.kp.trans (fun b cur hh => hx b cur _ hh), ?_⟩
 ·refine h.row.kept hg ?_
  rcases h.row.2 with ⟨rfl, _⟩ | ⟨g, cap, cur, rfl, _, hgb, _⟩
  ·exact .inl rfl
  ·refine .inr (fun e => ?_)
   obtain ⟨_, o, ho, hc⟩ := hr g e.symm
   rw [hgb] at ho
   cases ho
   cases hc
 ·exact h.b.grown hg (Nat.le_trans h.b.size (Nat.le_refl _)) (fun j ej => by obtain ⟨h1, _⟩ := hr j ej; omega)
end Go.Proofs.Ytfgmhidgkemfoaa
namespace Go.Proofs.Ytfgmhidgkemfoaa
open Go.RowKit
set_option linter.unusedSimpArgs false
set_option linter.unusedVariables false
theorem oper_wide {P : Program} {n : Nat} {o : Oper} {K K' : Act → World → Prop} {Q : Exit → Act → World → Prop} {a : Act} {w : World} (hd : ∀ c, o.op ≠ .defer c) (hK : ∀ a w, K a w → K' a w) (h : o.wp P a w K Q) : o.wpIn Fence.wide n P a w K' Q := by
  have hnd : ∀ m : Nat, (Fence.wide.depth.isSome = true → 1 ≤ m) := fun m h => by cases h
  refine ⟨fun _ _ => trivial, ?_⟩
  rw [Oper.semAt_eq _ _ _ hd]
  unfold Oper.wp at h
  generalize (execOp a.eval o).run P w = r at *
  cases r with
  | ok x w' =>
    cases x <;> simp only [Oper.upon, Oper.uponIn] at h ⊢
    case value => exact hK _ _ h
    case skip => exact hK _ _ h
    case defer => exact hK _ _ h
    case enter f args => exact ⟨hnd _, (callsIn_wide.2 h).mono (fun e w'' he => by cases e <;> first | exact hK _ _ he | exact he)⟩
    case row row args => exact ⟨hnd _, fun c cs _ => by
      obtain ⟨v, w'', r, s⟩ := h c cs
      exact ⟨v, w'', hK _ _ r, stepsIn_wide.2 s⟩⟩
  | halt x w' => cases x <;> simp only [Oper.upon, Oper.uponIn] at h ⊢ <;> exact h
theorem any_wide {P : Program} {n : Nat} {md : Region.Mode} {ops : Array Oper} {Q : Exit → Act → World → Prop} (hd : ∀ (i : Nat) (o : Oper), ops[i]? = some o → ∀ c, o.op ≠ .defer c) (hlo : ¬ LetsOut Q) :
    ∀ (fuel : Nat) (listed : Array Bool) (a : Act) (w : World), wpAny P md ops Q fuel listed a w → wpAnyIn Fence.wide n P md ops Q fuel listed a w
  | 0, _, _, _, h => h
  | fuel + 1, listed, a, w, h => ⟨h.1, fun i hi => by
      have h1 := h.2 i hi
      unfold wpOp at h1
      unfold wpOpIn
      cases ho : ops[i]? with
      | none =>
        simp only [ho] at h1 ⊢
        exact any_wide hd hlo fuel _ a w h1
      | some o =>
        simp only [ho] at h1 ⊢
        split
        · rename_i hw
          simp only [hw, if_true] at h1
          rcases h1 with h1 | h1
          · exact oper_wide (hd i o ho) (fun a w => any_wide hd hlo fuel _ a w) h1
          · exact (hlo h1.2).elim
        · rename_i hw
          simp only [hw] at h1
          exact ⟨fun _ _ => trivial, any_wide hd hlo fuel _ _ w h1⟩⟩
theorem region_wide {P : Program} {n id : Nat} {ops : Array Oper} {Q : Exit → Act → World → Prop} {a : Act} {w : World} (hm : P.follows .mixedOrders = true) (hd : noDefer ops = true) (hlo : ¬ LetsOut Q)
  (h : wpAny P .any ops Q ops.size (Array.replicate ops.size false) a { w with drawn := w.drawn + 1 }) : (Code.region id ops true).wpIn Fence.wide n P Q a w :=
 wpIn_region_any hm (any_wide (noDefer_spec hd) hlo _ _ _ _ h)
end Go.Proofs.Ytfgmhidgkemfoaa
namespace Go.Proofs.Ytfgmhidgkemfoaa.Roll
variable {P : Program} {ops : Array Oper} {Q : Exit → Act → World → Prop}
theorem region_any_w {nn : Nat} {id : Nat} {l : List Oper} {a0 : Act} {w0 : World} (n : Nat) (D : List (Option Tmp)) (L : List (List Nat)) (I : World → Prop) (S : World → World → Prop) (R : Nat → Value → World → Prop) (hm : P.follows .mixedOrders = true) (hnd : noDefer l.toArray = true) (hlq : ¬ LetsOut Q)
  (hok : regOk l.toArray D L n a0.tmps.size = true) (h0 : I w0.drew)
  (hS : ∀ j v w w', S w w' → R j v w → R j v w')
  (hop : OwesAll P D L I S R a0 0 n l)
  (hend : ∀ (vals : Nat → Value) (w : World), I w → (∀ j : Nat, j < n → R j (vals j) w) → wpList P l.toArray Q (l.drop n) (putD D vals (List.range n) a0) w) :
  (Code.region id l.toArray true).wpIn Fence.wide nn P Q a0 w0 := by
 simp only [regOk, Bool.and_eq_true] at hok
 obtain ⟨⟨⟨⟨⟨⟨⟨hnle, htl⟩, hb⟩, hap⟩, hlo⟩, hsz⟩, hD⟩, hgd⟩ := hok
 have hnle' := of_decide_eq_true hnle
 have slot_lt : ∀ {j t : Nat}, slot l.toArray j = some t → j < l.toArray.size := by
  intro j t hj
  unfold slot at hj
  cases hk : l.toArray[j]? with
  | none => rw [hk] at hj; cases hj
  | some o => exact (Array.getElem?_eq_some_iff.1 hk).1
 have hsz' : ∀ j t, slot l.toArray j = some t → t < a0.tmps.size := by
  intro j t hj
  have h1 := List.all_eq_true.1 hsz j (List.mem_range.2 (slot_lt hj))
  simp only [hj] at h1
  exact of_decide_eq_true h1
 have hD' : ∀ j, j < l.toArray.size → slot l.toArray j = D.getD j none := fun j hj => by simpa using List.all_eq_true.1 hD j (List.mem_range.2 hj)
 refine region_wide hm hnd hlq ?_
 refine wpAny_held hb hap hlo hnle' htl (I := I) (S := S) (R := R) (a0 := a0) hsz' hS (fun k o hk ho => ?_) (fun vals w hI hR => ?_) _ _ (fun _ => undef) a0 _ ?_ ?_ ?_
 ·have hklt : k < l.toArray.size := (Array.getElem?_eq_some_iff.1 ho).1
  have h1 := owes_of_all l 0 n hop k o hk (by simpa using ho)
  rw [Nat.zero_add] at h1
  have hlk := List.all_eq_true.1 hlo k (List.mem_range.2 hklt)
  simp only [ho, Bool.and_eq_true] at hlk
  refine does_of_owes hD' (fun j hj => ?_) hap hsz' (fun g want hg => ?_) h1
  ·have h2 : j ∈ ahead o := by simpa using List.all_eq_true.1 hlk.1.2 j hj
   have h3 := List.all_eq_true.1 hb k (List.mem_range.2 hklt)
   simp only [ho] at h3
   have := of_decide_eq_true (List.all_eq_true.1 h3 j h2)
   omega
  ·have h2 := List.all_eq_true.1 hgd k (List.mem_range.2 hklt)
   simp only [ho, Option.bind_some, hg, Bool.and_eq_true] at h2
   have hgl : g ∈ L.getD k [] := by simpa using h2.1
   refine ⟨hgl, ?_⟩
   have h4 : g ∈ ahead o := by simpa using List.all_eq_true.1 hlk.1.2 g hgl
   have h3 := List.all_eq_true.1 hb k (List.mem_range.2 hklt)
   simp only [ho] at h3
   have := of_decide_eq_true (List.all_eq_true.1 h3 g h4)
   rw [hD' g (by omega)]; exact h2.2
 ·rw [putD_eq hD' vals _ _ (fun j hj => by have := List.mem_range.1 hj; omega)]
  exact hend vals w hI hR
 ·simp
 ·intro j _ hj
  rw [Array.getElem?_replicate, if_pos hj]
 ·refine ⟨h0, by simp, rfl, rfl, ?_, fun _ _ => rfl, ?_, ?_⟩
  ·intro j o _ hj
   rw [Array.getElem?_replicate] at hj
   split at hj <;> simp at hj
  ·intro j t hj
   rw [Array.getElem?_replicate] at hj
   split at hj <;> simp at hj
  ·intro j hj
   rw [Array.getElem?_replicate] at hj
   split at hj <;> simp at hj
theorem region_l_w {nn : Nat} {id : Nat} {l : List Oper} {a0 : Act} {w0 : World} (n : Nat) (D : List (Option Tmp)) (L : List (List Nat)) (I : World → Prop) (S : World → World → Prop) (RL : List (Value → World → Prop)) (hm : P.follows .mixedOrders = true) (hnd : noDefer l.toArray = true) (hlq : ¬ LetsOut Q)
  (hok : regOk l.toArray D L n a0.tmps.size = true) (h0 : I w0.drew) (hS : Stab S RL)
  (hop : OwesAll P D L I S (at_ RL) a0 0 n l)
  (hend : ∀ (vals : Nat → Value) (w : World), I w → (∀ j : Nat, j < n → at_ RL j (vals j) w) → wpList P l.toArray Q (l.drop n) (putD D vals (List.range n) a0) w) :
  (Code.region id l.toArray true).wpIn Fence.wide nn P Q a0 w0 := region_any_w n D L I S (at_ RL) hm hnd hlq hok h0 hS.at hop hend
theorem region_f_w {nn : Nat} {id : Nat} {l : List Oper} {a0 : Act} {w0 : World} (n N : Nat) (D : List (Option Tmp)) (L : List (List Nat)) (LV : List (Nat × Value)) (I : World → Prop) (S : World → World → Prop) (RL : List (Value → World → Prop)) (hm : P.follows .mixedOrders = true) (hnd : noDefer l.toArray = true) (hlq : ¬ LetsOut Q)
  (hok : regOk l.toArray D L n N = true) (hN : a0.tmps.size = N) (hLV : Lives a0 LV) (h0 : I w0.drew) (hS : Stab S RL)
  (hop : ∀ b0 : Act, b0.tmps.size = N → Lives b0 LV → OwesAll P D L I S (at_ RL) b0 0 n l)
  (hend : ∀ (vals : Nat → Value) (w : World), I w → (∀ j : Nat, j < n → at_ RL j (vals j) w) → wpList P l.toArray Q (l.drop n) (putD D vals (List.range n) a0) w) :
  (Code.region id l.toArray true).wpIn Fence.wide nn P Q a0 w0 := region_l_w n D L I S RL hm hnd hlq (hN ▸ hok) h0 hS (hop a0 hN hLV) hend
theorem region_anyv_w {nn : Nat} {id : Nat} {l : List Oper} {a0 : Act} {w0 : World} (n : Nat) (D : List (Option Tmp)) (L : List (List Nat)) (I0 : World → Prop) (I1 : Value → World → Prop) (J : World → Prop) (k0 : Nat) (PL : List Bool) (S : World → World → Prop) (R : Nat → (Nat → Value) → World → Prop) (hm : P.follows .mixedOrders = true) (hnd : noDefer l.toArray = true) (hlq : ¬ LetsOut Q)
  (hok : regOk2 l.toArray D L n a0.tmps.size = true) (h0 : I0 w0.drew) (hk0 : k0 < n) (hPL : (List.range n).all (fun k => k == k0 || PL.getD k false || aheadB l.toArray 12 k0 k) = true) (hJ0 : ∀ w, I0 w → J w) (hJ1 : ∀ u w, I1 u w → J w) (hS0 : ∀ w, S w w)
  (hS : ∀ j v w w', S w w' → R j v w → R j v w') (hC : ∀ j v v' w, (∀ i, i = j ∨ i ∈ L.getD j [] → v i = v' i) → R j v w → R j v' w)
  (hop : OwesAllw P D L I0 I1 J k0 PL S R a0 0 n l)
  (hend : ∀ (vals : Nat → Value) (w : World), I1 (vals k0) w → (∀ j : Nat, j < n → R j vals w) → wpList P l.toArray Q (l.drop n) (putD D vals (List.range n) a0) w) :
  (Code.region id l.toArray true).wpIn Fence.wide nn P Q a0 w0 := by
 simp only [regOk2, Bool.and_eq_true] at hok
 obtain ⟨⟨⟨⟨⟨⟨⟨hnle, htl⟩, hb⟩, hap⟩, hlo⟩, hsz⟩, hD⟩, hgd⟩ := hok
 have hnle' := of_decide_eq_true hnle
 have slot_lt : ∀ {j t : Nat}, slot l.toArray j = some t → j < l.toArray.size := by
  intro j t hj
  unfold slot at hj
  cases hk : l.toArray[j]? with
  | none => rw [hk] at hj; cases hj
  | some o => exact (Array.getElem?_eq_some_iff.1 hk).1
 have hsz' : ∀ j t, slot l.toArray j = some t → t < a0.tmps.size := by
  intro j t hj
  have h1 := List.all_eq_true.1 hsz j (List.mem_range.2 (slot_lt hj))
  simp only [hj] at h1
  exact of_decide_eq_true h1
 have hD' : ∀ j, j < l.toArray.size → slot l.toArray j = D.getD j none := fun j hj => by simpa using List.all_eq_true.1 hD j (List.mem_range.2 hj)
 refine region_wide hm hnd hlq ?_
 refine wpAny_heldv hb hap hlo hnle' htl (I0 := I0) (I1 := I1) (J := J) (k0 := k0) (PL := PL) (S := S) (R := R) (a0 := a0) hsz' hS hC hk0 (fun o k ho hk hne => ?_) hJ0 hJ1 hS0 (fun k o hk ho => ?_) (fun vals w hI hR => ?_) _ _ (fun _ => undef) a0 _ ?_ ?_ ?_
 ·have h1 := List.all_eq_true.1 hPL k (List.mem_range.2 hk)
  simp only [Bool.or_eq_true, beq_iff_eq] at h1
  rcases h1 with (h1 | h1) | h1
  ·exact (hne h1).elim
  ·exact .inl h1
  ·exact .inr h1
 ·have hklt : k < l.toArray.size := (Array.getElem?_eq_some_iff.1 ho).1
  have h1 := owes_of_allw l 0 n hop k o hk (by simpa using ho)
  rw [Nat.zero_add] at h1
  have hlk := List.all_eq_true.1 hlo k (List.mem_range.2 hklt)
  simp only [ho, Bool.and_eq_true] at hlk
  refine does_of_owesw hD' (fun j hj => ?_) hap hsz' (fun g want hg => ?_) h1
  ·have h2 : j ∈ ahead o := by simpa using List.all_eq_true.1 hlk.1.2 j hj
   have h3 := List.all_eq_true.1 hb k (List.mem_range.2 hklt)
   simp only [ho] at h3
   have := of_decide_eq_true (List.all_eq_true.1 h3 j h2)
   omega
  ·have h2 := List.all_eq_true.1 hgd k (List.mem_range.2 hklt)
   simp only [ho, Option.bind_some, hg, Bool.and_eq_true] at h2
   have hgl : g ∈ L.getD k [] := by simpa using h2.1
   refine ⟨hgl, ?_⟩
   have h4 : g ∈ ahead o := by simpa using List.all_eq_true.1 hlk.1.2 g hgl
   have h3 := List.all_eq_true.1 hb k (List.mem_range.2 hklt)
   simp only [ho] at h3
   have := of_decide_eq_true (List.all_eq_true.1 h3 g h4)
   rw [hD' g (by omega)]; exact h2.2
 ·rw [putD_eq hD' vals _ _ (fun j hj => by have := List.mem_range.1 hj; omega)]
  exact hend vals w hI hR
 ·simp
 ·intro j _ hj
  rw [Array.getElem?_replicate, if_pos hj]
 ·refine ⟨⟨fun hf => ?_, fun _ => h0⟩, by simp, rfl, rfl, ?_, fun _ _ => rfl, ?_, ?_⟩
  ·rw [Array.getElem?_replicate] at hf
   split at hf <;> simp at hf
  ·intro j o _ hj
   rw [Array.getElem?_replicate] at hj
   split at hj <;> simp at hj
  ·intro j t hj
   rw [Array.getElem?_replicate] at hj
   split at hj <;> simp at hj
  ·intro j hj
   rw [Array.getElem?_replicate] at hj
   split at hj <;> simp at hj
theorem region_v_w {nn : Nat} {id : Nat} {l : List Oper} {a0 : Act} {w0 : World} (n N : Nat) (D : List (Option Tmp)) (L : List (List Nat)) (LV : List (Nat × Value)) (k0 : Nat) (PL : List Bool) (I0 : World → Prop) (I1 : Value → World → Prop) (J : World → Prop) (S : World → World → Prop) (RL : List ((Nat → Value) → World → Prop)) (hm : P.follows .mixedOrders = true) (hnd : noDefer l.toArray = true) (hlq : ¬ LetsOut Q)
  (hok : regOk2 l.toArray D L n N = true) (hN : a0.tmps.size = N) (hLV : Lives a0 LV) (h0 : I0 w0.drew) (hk0 : k0 < n)
  (hPL : (List.range n).all (fun k => k == k0 || PL.getD k false || aheadB l.toArray 12 k0 k) = true) (hJ0 : ∀ w, I0 w → J w) (hJ1 : ∀ u w, I1 u w → J w) (hS0 : ∀ w, S w w) (hS : Stabg S RL)
  (hop : ∀ b0 : Act, b0.tmps.size = N → Lives b0 LV → OwesAllw P D L I0 I1 J k0 PL S (atg L RL) b0 0 n l)
  (hend : ∀ (vals : Nat → Value) (w : World), I1 (vals k0) w → (∀ j : Nat, j < n → atg L RL j vals w) → wpList P l.toArray Q (l.drop n) (putD D vals (List.range n) a0) w) :
  (Code.region id l.toArray true).wpIn Fence.wide nn P Q a0 w0 := by
 refine region_anyv_w n D L I0 I1 J k0 PL S (atg L RL) hm hnd hlq (hN ▸ hok) h0 hk0 hPL hJ0 hJ1 hS0 (fun j v w w' hs h => hS.get j _ w w' hs h) (fun j v v' w hv h => ?_) (hop a0 hN hLV) hend
 unfold atg at *
 have e : rs L j v = rs L j v' := by
  funext i
  unfold rs
  split
  ·rename_i hi
   exact hv i (by simpa using hi)
  ·rfl
 rw [← e]; exact h
end Go.Proofs.Ytfgmhidgkemfoaa.Roll

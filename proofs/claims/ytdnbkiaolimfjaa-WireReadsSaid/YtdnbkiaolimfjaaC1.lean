/-
  What the laws' walks share: few's outcome, loads of whole Values.
-/
import Derived.Test.YtdnbkiaolimfjaaC0
import Derived.Test.YtdnbkiaolimfjaaM3
import Derived.Deep.RegionWith
import Derived.Deep.DrawnRows
namespace Go.Proofs.Ytdnbkiaolimfjaa
open Go.RowKit
set_option linter.unusedSimpArgs false
set_option linter.unusedVariables false
theorem Vs.below {D : Nat → Prop} {w w' : World} {a : Option Addr} {n c : Nat} {ms : List VM} (h : Vs D w a n c ms) (hb : Below w.heap.size w w') : Vs D w' a n c ms := h.kept (Kept.of_below (fun _ => False) hb) (fun _ _ _ h => h)
theorem Vs.dom {D D' : Nat → Prop} {w : World} {a : Option Addr} {n c : Nat} {ms : List VM} (h : Vs D w a n c ms) (hd : ∀ b, D b → D' b) : Vs D' w a n c ms := ⟨h.1, h.2.1.dom hd, fun m hm => (h.2.2 m hm).dom hd⟩
/-- what few leaves -/
structure Few12 (w : World) (a : Option Addr) (n c : Nat) (ns : List VM) (w1 : World) : Prop where
  vs : Vs (fun b => w.heap.size ≤ b ∧ b < w1.heap.size) w1 a n c ns
  fit : ∀ m ∈ ns, PFits m.pv 20 ∧ VShort m
  len : ns.length ≤ 12
  bel : Below w.heap.size w w1
theorem FewAt.few12 {w w1 : World} {ms : List VM} {v : Value} (h : FewAt w ms 12 v w1) : ∃ a c ns, v = .slice a ns.length c ∧ Few12 w a ns.length c ns w1 ∧ ns.map VM.kp = ((ms.take 12).map VM.kp).map cutkp := by
  obtain ⟨kk, ns, ho, hkk, hns, hmap, hb⟩ := h
  obtain ⟨a, c, rfl, hs⟩ := ho.sl
  refine ⟨a, c, ns, rfl, ⟨⟨rfl, hs.dom2 (by decide) (fun b hb hd => ⟨hkk b hd, hb⟩), fun m hm => (hns m hm).dom2 (fun b hb hd => ⟨hd.1, hb⟩)⟩, fun m hm => ?_, ?_, hb⟩, hmap⟩
  · have : m.kp ∈ ns.map VM.kp := List.mem_map.2 ⟨m, hm, rfl⟩
    rw [hmap] at this
    obtain ⟨x, _, hx⟩ := List.mem_map.1 this
    exact cut_fits (hns m hm) hx.symm
  · have := congrArg List.length hmap
    simp only [List.length_map, List.length_take] at this
    omega
theorem written_L (w : World) (a : Option Addr) (c : Nat) (ns : List VM) (w1 : World) (h : Few12 w a ns.length c ns w1) : ∃ L, L = ns.flatMap encV ∧ L.length ≤ 1000000000 ∧
    ∀ w2, Below w1.heap.size w1 w2 → Calls Try.prog 16 #[.slice a ns.length c] w2 fun x w' => ∃ a2 c2, x = .returned (.slice a2 L.length c2) ∧ Bs (fun b => w2.heap.size ≤ b) w' a2 L.length c2 L ∧ Below w2.heap.size w2 w' := by
  refine ⟨_, rfl, ?_, fun w2 hb => (written_any _ a _ c ns _ (h.vs.below hb) (fun m hm => (h.fit m hm).2) (by have := h.len; omega)).mono ?_⟩
  · have h1 := encVs_len _ _ ns (fun m hm => ⟨h.vs.2.2 m hm, (h.fit m hm).2⟩)
    have := h.len
    omega
  · rintro e w3 ⟨v, rfl, hm⟩
    obtain ⟨a2, c2, rfl, hs⟩ := hm.bs
    obtain ⟨_, _, _, hb3⟩ := hm
    exact ⟨a2, c2, rfl, hs, hb3⟩
theorem range_kept {S : Nat → Prop} {w w' : World} {b o : Nat} {cs : List Value} (h : w.rangeAt b o cs) (hb : b < w.heap.size) (hk : Kept S w w') (hs : ¬ S b) : w'.rangeAt b o cs := fun j v hv => (hk.cell (p := ⟨b, o + j, none⟩) hb hs).trans (h j v hv)
def load34A (v : Value) : Sem Next := do pure (.value (← Instr.loadAt 34 v))
theorem exec_load34 (ρ : Operand → Value) (d : Option Tmp) (x : Operand) (ty : TypeId) (pos : String) (af : Array Edge) (gd : Option (Nat × Bool)) :
    execOp ρ { dst := d, op := .load 34 x, type := ty, pos := pos, after := af, guard := gd } = load34A (ρ x) := rfl
theorem exec_at_zero {ρ : Operand → Value} {o : Oper} {l : List Oper} {h : 0 < (o :: l).toArray.size} : execOp ρ ((o :: l).toArray[0]'h) = execOp ρ o := rfl
theorem exec_at_succ {ρ : Operand → Value} {o : Oper} {l : List Oper} {n : Nat} {h : n + 1 < (o :: l).toArray.size} : execOp ρ ((o :: l).toArray[n + 1]'h) = execOp ρ (l.toArray[n]'(by simpa using h)) := rfl
theorem run_load34 {w : World} {b o : Nat} {m : VM} (h : w.rangeAt b o m.cells) : (load34A (.pointer (some ⟨b, o, none⟩))).run Try.prog w = .ok (.value (.agg #[.int .u8 (m.k : Int), .int .u64 (m.u : Int), .int .i64 m.n, .bool m.b, .string m.s, .slice m.a m.ln m.c])) w := by
  unfold load34A
  simp only [Sem.run_bind, Sem.run_pure, Result.andThen_ok, run_loadAt_mid w b o 34 m.cells _ h Try.underlying34 rfl (by rw [VM.cells_len]; kernel_rfl)]
  rfl
theorem Rd.drew {w : World} {g : Nat} {k : Option Nat} {l : List UInt8} {e : Nat} (h : Rd w g k l e) : Rd w.drew g k l e := h.kept ((Kept.refl (fun _ => False) w).drew) (fun h => h) (fun _ _ h => h)
theorem drop_encV (ns : List VM) (i : Nat) (h : i < ns.length) : (ns.drop i).flatMap encV = encV ns[i] ++ (ns.drop (i + 1)).flatMap encV := by
  rw [List.drop_eq_getElem_cons h, List.flatMap_cons]
theorem rVal_at (m : VM) (r : List UInt8) (h : PFits m.pv 20) : rVal m.k ⟨encV m ++ r, 0⟩ 20 = (strip m.k m.pv, ⟨r, 0⟩) := by
  rw [encV_eq]
  exact rVal_enc m.k m.pv r 20 h (by omega)
end Go.Proofs.Ytdnbkiaolimfjaa

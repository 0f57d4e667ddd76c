/-
  Texts OL, P6, OM, P7, P0, one behind the other.
-/
import Derived.WalkKit
import Derived.WalkSpells
import Derived.WalkLawsBesides
import Derived.Laws.AppendOwn
import Derived.Laws.OwnMore
import Derived.Deep.AppendSrc
import Derived.Deep.MidRow
import Derived.Lib.Hide
import GoSem.Claim
import Derived.Lib.Bytealg
import Derived.Laws.Externs
import Derived.Deep.QuietTactic
import Derived.BigQuiet
import Derived.Deep.CutBlock
import Derived.OwnWalk
import Derived.Deep.DrawnRows
import Derived.Deep.CutRange
import Derived.Deep.LoopGhost
import Derived.Laws.Tables
import Derived.Laws.ResultCell
import Derived.Deep.WholeRow
import Derived.Lib.Strings
import Derived.Shelf.Spec.SlicesInsert
import Derived.Lib.AppendZerosOnto
import Derived.Lib.Overlaps
import Derived.Laws.CopyRow
import Derived.Deep.RegionLaw
import Derived.StillTailTactics
import Derived.RangeFuncNested
import Derived.RangeFuncBound
import Derived.RangeFuncCalls
import Derived.RangeFuncLeaves
import Derived.Shelf.Abstract
import Derived.Shelf.RegionOpen
import Derived.OwnWalkIn
import Derived.TacticsInMore
import Derived.LoopNIn
import Derived.LoopIn
import Derived.RangeFuncBox
import Derived.Sort.CutIn
import Derived.Orders
import Derived.Tactics
import Derived.Sort.AtCall
import Derived.ProofKit
import Derived.OpenShut
import Derived.Carry
import Derived.Deep.Slices
import Derived.Deep.Fields
import Derived.JoinedCond
import Derived.ChangeMaps5
import Derived.Test.YtfgmhidgkemfoaaRows
import Derived.Test.YtfgmhidgkemfoaaProg
import Derived.Test.YtfgmhidgkemfoaaChecked
import Derived.Test.YtfgmhidgkemfoaaZT706
namespace Go.Proofs.Ytfgmhidgkemfoaa
open Go.RowKit
set_option linter.unusedSimpArgs false
set_option linter.unusedVariables false
def s1 (a : UInt8) : ByteArray := ⟨#[a]⟩
def livA : List KV := [⟨s1 98, s1 49⟩, ⟨s1 100, s1 50⟩]
def livB : List KV := [⟨s1 100, s1 51⟩, ⟨s1 101, s1 52⟩]
def livE : List ED := [⟨s1 98, emptyS, true⟩, ⟨s1 100, s1 51, false⟩, ⟨s1 101, s1 52, false⟩]
theorem livA_eq : insL (insL [] ⟨s1 100, s1 50⟩) ⟨s1 98, s1 49⟩ = livA := by decide
theorem livB_eq : insL (insL [] ⟨s1 101, s1 52⟩) ⟨s1 100, s1 51⟩ = livB := by decide
theorem livE_eq : diffR livA livB = livE := by rw [← diffP_eq]; decide
theorem livF : floorL livA (s1 99) = some ⟨s1 98, s1 49⟩ := by decide
theorem livG : floorL livA (s1 97) = none := by decide
theorem livR : rngL (s1 98) (s1 100) livA = [⟨s1 98, s1 49⟩] := by decide
def nineL (i : Nat) : List KV := (List.range i).foldl (fun l j => insL l ⟨keyB j, xB⟩) []
theorem nine_succ (i : Nat) : nineL (i + 1) = insL (nineL i) ⟨keyB i, xB⟩ := by unfold nineL; rw [List.range_succ, List.foldl_append]; rfl
theorem nine_len : ∀ i, i ≤ 9 → (nineL i).length = i := by decide
theorem Sl.new {W : World} {t : TypeId} (cs : List Value) (size : Nat) (hs : cs.length = size) (n : Nat) (hn : n ≤ maxLen) (xs : List Value) (hx : xs.length = n * size) (hz : 0 < size) (h0 : 0 < n) : Sl (fun _ => True) (W.alloc (.cells xs.toArray t)) (some ⟨W.heap.size, 0, none⟩) n n xs size := by
  refine ⟨hx, Nat.le_refl _, hn, by simp, fun _ => ⟨W.heap.size, 0, trivial, rfl, fun j v hv => ?_⟩⟩
  rw [Nat.zero_add, cell_of_row (W.alloc (.cells xs.toArray t)) W.heap.size j xs.toArray _ _ (World.alloc_heap_new W _)]
  simpa using hv
theorem Ps.new1 (W : World) (k v : ByteArray) : Ps (fun _ => True) (W.alloc (.cells #[.string k, .string v] 65)) (some ⟨W.heap.size, 0, none⟩) 1 1 [⟨k, v⟩] := ⟨rfl, Sl.new [.string k, .string v] 2 rfl 1 (by decide) [.string k, .string v] rfl (by decide) (by decide)⟩
theorem Es.new3 (W : World) (a b c : ED) : Es (fun _ => True) (W.alloc (.cells #[.string a.k, .string a.v, .bool a.d, .string b.k, .string b.v, .bool b.d, .string c.k, .string c.v, .bool c.d] 61)) (some ⟨W.heap.size, 0, none⟩) 3 3 [a, b, c] := ⟨rfl, Sl.new [.string a.k, .string a.v, .bool a.d] 3 rfl 3 (by decide) (ecells [a, b, c]) rfl (by decide) (by decide)⟩
end Go.Proofs.Ytfgmhidgkemfoaa
namespace Go.Proofs.Ytfgmhidgkemfoaa
open Go.RowKit
set_option linter.unusedSimpArgs false
set_option linter.unusedVariables false
theorem cmpK_self (a : ByteArray) : cmpK a a = 0 := (cmpK_eq a a).2 rfl
theorem sorted_ext : ∀ {l1 l2 : List KV}, Sorted l1 → Sorted l2 → (∀ p, p ∈ l1 ↔ p ∈ l2) → l1 = l2
  | [], [], _, _, _ => rfl
  | [], b :: r, _, _, h => by have := (h b).2 (List.mem_cons_self ..); cases this
  | a :: r, [], _, _, h => by have := (h a).1 (List.mem_cons_self ..); cases this
  | a :: r1, b :: r2, h1, h2, h => by
    obtain ⟨ha, hs1⟩ := sorted_cons.1 h1
    obtain ⟨hb, hs2⟩ := sorted_cons.1 h2
    have hab : a = b := by
      rcases List.mem_cons.1 ((h a).1 (List.mem_cons_self ..)) with e | e
      · exact e
      · rcases List.mem_cons.1 ((h b).2 (List.mem_cons_self ..)) with e2 | e2
        · exact e2.symm
        · have x := hb a e
          have y := ha b e2
          have z := cmpK_flip a.k b.k
          omega
    subst hab
    rw [sorted_ext hs1 hs2 (fun p => ⟨fun hp => by
      rcases List.mem_cons.1 ((h p).1 (List.mem_cons_of_mem _ hp)) with e | e
      · have := ha p hp; rw [e, cmpK_self] at this; omega
      · exact e, fun hp => by
      rcases List.mem_cons.1 ((h p).2 (List.mem_cons_of_mem _ hp)) with e | e
      · have := hb p hp; rw [e, cmpK_self] at this; omega
      · exact e⟩)]
theorem diffR_self : ∀ l : List KV, diffR l l = []
  | [] => by rw [diffR]
  | a :: l => by
    rw [diffR, if_neg (by rw [cmpK_self]; omega), if_neg (by rw [cmpK_self]; omega), if_pos rfl, diffR_self l]
    rfl
theorem mem_insL {l : List KV} {p q : KV} : p ∈ insL l q ↔ p = q ∨ (p ∈ l ∧ p.k ≠ q.k) := by
  unfold insL
  rw [List.mem_append, List.mem_cons, List.mem_filter, List.mem_filter]
  have h : p.k ≠ q.k ↔ (cmpK p.k q.k < 0 ∨ 0 < cmpK p.k q.k) := by
    rw [Ne, ← cmpK_eq]
    omega
  rw [h]
  simp only [decide_eq_true_eq]
  constructor
  · rintro (⟨h1, h2⟩ | h1 | ⟨h1, h2⟩)
    · exact .inr ⟨h1, .inl h2⟩
    · exact .inl h1
    · exact .inr ⟨h1, .inr h2⟩
  · rintro (h1 | ⟨h1, h2 | h2⟩)
    · exact .inr (.inl h1)
    · exact .inl ⟨h1, h2⟩
    · exact .inr (.inr ⟨h1, h2⟩)
theorem mem_delL {l : List KV} {p : KV} {key : ByteArray} : p ∈ delL l key ↔ p ∈ l ∧ p.k ≠ key := by
  unfold delL
  rw [List.mem_filter]
  simp
theorem u8_inj {a b : Nat} (ha : a < 256) (hb : b < 256) (h : UInt8.ofNat a = UInt8.ofNat b) : a = b := by
  have := congrArg UInt8.toNat h
  simp [UInt8.toNat_ofNat'] at this
  omega
theorem keyB_inj {a b : Nat} (ha : a < 4000) (hb : b < 4000) (h : keyB a = keyB b) : a = b := by
  unfold keyB at h
  have h1 : (#[UInt8.ofNat (97 + a % 20), UInt8.ofNat (97 + a / 20 % 20), UInt8.ofNat (48 + a / 400)] : Array UInt8) = #[UInt8.ofNat (97 + b % 20), UInt8.ofNat (97 + b / 20 % 20), UInt8.ofNat (48 + b / 400)] := congrArg ByteArray.data h
  have h2 := congrArg Array.toList h1
  simp only [List.cons.injEq, and_true] at h2
  obtain ⟨e1, e2, e3⟩ := h2
  have e1 := u8_inj (by omega) (by omega) e1
  have e2 := u8_inj (by omega) (by omega) e2
  have e3 := u8_inj (by omega) (by omega) e3
  omega
def vB : ByteArray := ⟨#[118]⟩
def kvj (j : Nat) : KV := ⟨keyB j, vB⟩
/-- every number below 256 is met -/
theorem inv256a : ∀ s, s < 60 → (2 * s + 1) * ((2 * s + 1) ^ 63 % 256) % 256 = 1 := by decide
theorem inv256 (s : Nat) (h : s < 60) : ∃ t, t < 256 ∧ (2 * s + 1) * t % 256 = 1 := ⟨(2 * s + 1) ^ 63 % 256, Nat.mod_lt _ (by decide), inv256a s h⟩
theorem met (s j : Nat) (hs : s < 60) (hj : j < 256) : ∃ i, i < 256 ∧ i * (2 * s + 1) % 256 = j := by
  obtain ⟨t, ht, h⟩ := inv256 s hs
  refine ⟨j * t % 256, Nat.mod_lt _ (by decide), ?_⟩
  rw [Nat.mod_mul_mod, show j * t * (2 * s + 1) = j * ((2 * s + 1) * t) by rw [Nat.mul_assoc, Nat.mul_comm t], Nat.mul_mod, h, Nat.mul_one, Nat.mod_mod, Nat.mod_eq_of_lt hj]
end Go.Proofs.Ytfgmhidgkemfoaa
namespace Go.Proofs.Ytfgmhidgkemfoaa
open Go.RowKit
set_option linter.unusedSimpArgs false
set_option linter.unusedVariables false
attribute [local go_sem ↓] exec_loadPair exec_storePair exec_at_zeroP exec_at_succP Go.wp_at_zero Go.wp_at_succ
attribute [local go_sem] run_storePair
theorem none_len : (treeL (none : Option BT)).length ≤ 1000000 := by show ([] : List KV).length ≤ 1000000; simp
theorem s1_60 (a : UInt8) : (s1 a).size ≤ 60 := by show 1 ≤ 60; omega
theorem s1_1000 (a : UInt8) : (s1 a).size ≤ 1000 := by show 1 ≤ 1000; omega
theorem ins_one (p : KV) : (insL (treeL (none : Option BT)) p).length ≤ 1000000 := by
  have h := insL_le (treeL (none : Option BT)) p
  have e : (treeL (none : Option BT)).length = 0 := rfl
  omega
set_option maxRecDepth 100000 in
set_option maxHeartbeats 400000 in
theorem lives_any (w : World) : Calls Try.prog 19 #[] w fun e w' => e = .returned (.bool true) ∧ Below w.heap.size w w' := by
  go_enter Try.func19, Try.ntmps19
  go_upto_region 4 with (go_at_call 12; refine (new_any _).mono ?_; rintro e w1 ⟨g0, rfl, ht0, -, hb0⟩; have HT0 := Lib.hid ht0; have HB0 := Lib.hid hb0; clear ht0 hb0)
  go_upto_region 5 with (first
    | (go_at_call_has 25 (Value.pointer (some ⟨g0, 0, none⟩)); refine (put_tree HT0.out none_len (s1 100) (s1 50) (s1_60 _) (s1_1000 _)).mono ?_; rintro e w2 ⟨g1, t1, H1, rfl, ht1, hl1, -, -, hb1⟩; have HT1 := Lib.hid ht1; have HL1 := Lib.hid hl1; have HB1 := Lib.hid hb1; clear ht1 hl1 hb1)
    | (go_at_call_has 25 (Value.pointer (some ⟨g1, 0, none⟩)); refine (put_tree HT1.out (by rw [HL1.out]; exact ins_one _) (s1 98) (s1 49) (s1_60 _) (s1_1000 _)).mono ?_; rintro e w3 ⟨gA, tA, HA, rfl, htA, hlA, -, -, hb2⟩; have HTA := Lib.hid htA; have HLA := Lib.hid hlA; have HB2 := Lib.hid hb2; clear htA hlA hb2))
  have HLA2 : Hid (treeL tA = livA) := Lib.hid (by rw [HLA.out, HL1.out]; exact livA_eq)
  have HBA : Hid (Below w1.heap.size w1 w3) := Lib.hid (HB1.out.trans (HB2.out.mono HB1.out.size))
  have HT03 := Lib.hid (HT0.out.under HBA.out)
  go_upto_region 6 with (first
    | (go_at_call_has 25 (Value.pointer (some ⟨g0, 0, none⟩)); refine (put_tree HT03.out none_len (s1 101) (s1 52) (s1_60 _) (s1_1000 _)).mono ?_; rintro e w4 ⟨g3, t3, H3, rfl, ht3, hl3, -, -, hb3⟩; have HT3 := Lib.hid ht3; have HL3 := Lib.hid hl3; have HB3 := Lib.hid hb3; clear ht3 hl3 hb3)
    | (go_at_call_has 25 (Value.pointer (some ⟨g3, 0, none⟩)); refine (put_tree HT3.out (by rw [HL3.out]; exact ins_one _) (s1 100) (s1 51) (s1_60 _) (s1_1000 _)).mono ?_; rintro e w5 ⟨gB, tB, HB, rfl, htB, hlB, -, -, hb4⟩; have HTB := Lib.hid htB; have HLB := Lib.hid hlB; have HB4 := Lib.hid hb4; clear htB hlB hb4))
  have HLB2 : Hid (treeL tB = livB) := Lib.hid (by rw [HLB.out, HL3.out]; exact livB_eq)
  have HB35 : Hid (Below w3.heap.size w3 w5) := Lib.hid (HB3.out.trans (HB4.out.mono HB3.out.size))
  have HTA5 := Lib.hid (HTA.out.under HB35.out)
  have HT05 := Lib.hid (HT03.out.under HB35.out)
  have HBW : Hid (Below w.heap.size w w5) := Lib.hid (HB0.out.trans ((HBA.out.trans (HB35.out.mono HBA.out.size)).mono HB0.out.size))
  have HFC : Hid (∀ u, Below w5.heap.size w5 u → Calls Try.prog 35 #[.pointer (some ⟨gA, 0, none⟩), .string (s1 99)] u fun e u' => e = .returned (.tuple #[.agg #[.string (s1 98), .string (s1 49)], .bool true]) ∧ Below u.heap.size u u') := Lib.hid (fun u hu => by
    have h := floor_any (HTA5.out.under hu).tr HTA5.out.ok HTA5.out.so (s1 99)
    rw [HLA2.out, livF] at h
    exact h)
  have HFA : Hid (∀ u, Below w5.heap.size w5 u → Calls Try.prog 35 #[.pointer (some ⟨gA, 0, none⟩), .string (s1 97)] u fun e u' => e = .returned (.tuple #[.agg #[.string emptyS, .string emptyS], .bool false]) ∧ Below u.heap.size u u') := Lib.hid (fun u hu => by
    have h := floor_any (HTA5.out.under hu).tr HTA5.out.ok HTA5.out.so (s1 97)
    rw [HLA2.out, livG] at h
    exact h)
  clear HT0 HB0 HT1 HL1 HB1 HLA HBA HT03 HT3 HL3 HB3 HLB HB4 HTA HB2 HB35
  go_upto_region 7 with (go_at_call 35; refine (HFC.out _ (Below.refl _ _)).mono ?_; rintro e w6 ⟨rfl, hb6⟩; have HB6 := Lib.hid hb6; have p6 : PB (w6.alloc (.cells #[.string ⟨#[]⟩, .string ⟨#[]⟩] 65)) w6.heap.size := ⟨⟨⟨#[]⟩, ⟨#[]⟩⟩, heap_new rfl⟩; clear hb6)
  have hx6 : Below w6.heap.size w6 ((w6.alloc (.cells #[.string ⟨#[]⟩, .string ⟨#[]⟩] 65)).setRow w6.heap.size #[.string (s1 98), .string (s1 49)]) :=
    ((((Kept.of_below (fun _ => False) (Below.refl w6.heap.size w6)).alloc _).setRow (fun h => by omega) _).below (Nat.le_refl _) (fun _ _ h => h))
  have hp6 : ((w6.alloc (.cells #[.string ⟨#[]⟩, .string ⟨#[]⟩] 65)).setRow w6.heap.size #[.string (s1 98), .string (s1 49)]).heap[w6.heap.size]? = some (.cells #[.string (s1 98), .string (s1 49)] 65 (0, 0)) := setRow_heap _ _ _ _ _ _ (heap_new rfl)
  obtain ⟨X, hX⟩ : ∃ X, X = w6.heap.size := ⟨_, rfl⟩
  have HB6W : Hid (Below w5.heap.size w5 ((w6.alloc (.cells #[.string ⟨#[]⟩, .string ⟨#[]⟩] 65)).setRow w6.heap.size #[.string (s1 98), .string (s1 49)])) := Lib.hid (HB6.out.trans (hx6.mono HB6.out.size))
  rw [← hX] at HB6W hp6 ⊢
  obtain ⟨W6, hW6⟩ : ∃ W6, W6 = (w6.alloc (.cells #[.string ⟨#[]⟩, .string ⟨#[]⟩] 65)).setRow X #[.string (s1 98), .string (s1 49)] := ⟨_, rfl⟩
  have HP6 := Lib.hid hp6
  rw [← hW6] at HB6W HP6 ⊢
  clear hW6 hX hx6 hp6 HB6 p6 HFC
  go_upto_region 8 with (go_at_call 35; refine (HFA.out _ HB6W.out).mono ?_; rintro e w7 ⟨rfl, hb7⟩; have HB7 := Lib.hid hb7; have p7 : PB (w7.alloc (.cells #[.string ⟨#[]⟩, .string ⟨#[]⟩] 65)) w7.heap.size := ⟨⟨⟨#[]⟩, ⟨#[]⟩⟩, heap_new rfl⟩; clear hb7)
  have hx7 : Below w7.heap.size w7 ((w7.alloc (.cells #[.string ⟨#[]⟩, .string ⟨#[]⟩] 65)).setRow w7.heap.size #[.string emptyS, .string emptyS]) :=
    ((((Kept.of_below (fun _ => False) (Below.refl w7.heap.size w7)).alloc _).setRow (fun h => by omega) _).below (Nat.le_refl _) (fun _ _ h => h))
  obtain ⟨W7, hW7⟩ : ∃ W7, W7 = (w7.alloc (.cells #[.string ⟨#[]⟩, .string ⟨#[]⟩] 65)).setRow w7.heap.size #[.string emptyS, .string emptyS] := ⟨_, rfl⟩
  rw [← hW7] at hx7 ⊢
  have HB67 : Hid (Below W6.heap.size W6 W7) := Lib.hid (HB7.out.trans (hx7.mono HB7.out.size))
  have HB57 : Hid (Below w5.heap.size w5 W7) := Lib.hid (HB6W.out.trans (HB67.out.mono HB6W.out.size))
  have HP7 : Hid (W7.heap[X]? = some (.cells #[.string (s1 98), .string (s1 49)] 65 (0, 0))) := Lib.hid ((HB67.out.block _ (Array.getElem?_eq_some_iff.1 HP6.out).1).trans HP6.out)
  have HTA7 := Lib.hid (HTA5.out.under HB57.out)
  have HTB7 := Lib.hid (HTB.out.under HB57.out)
  have HT07 := Lib.hid (HT05.out.under HB57.out)
  have HBW7 : Hid (Below w.heap.size w W7) := Lib.hid (HBW.out.trans (HB57.out.mono HBW.out.size))
  clear hW7 hx7 HB7 p7 HFA HB67 HB57 HTA5 HTB HT05 HBW HB6W HP6
  have HKEY : Hid (∀ (q : Nat) (u : World), q < 4000 → Calls Try.prog 15 #[.int .i64 (q : Int)] u fun e w' => e = .returned (.string (keyB q)) ∧ Below u.heap.size u w') := Lib.hid (fun q u hq => by
    have h := key_any (q : Int) (by omega) (by omega) u
    have e : (aroundT (q : Int) 4000).toNat = q := by
      unfold aroundT
      rw [if_neg (by omega)]
      omega
    rw [e] at h
    exact h)
  go_wp2
  go_loopw [8, 9] (fun u x wr => ∃ (i g : Nat) (t : Option BT) (H : Nat), u = .pointer (some ⟨g, 0, none⟩) ∧ x = .int .i64 (i : Int) ∧ i ≤ 9 ∧ TT wr g t H ∧ treeL t = nineL i ∧ Below W7.heap.size W7 wr) (fun _ x _ => 9 - (intOf x).toNat)
  case atStart => exact ⟨0, g0, none, 0, rfl, rfl, Nat.zero_le _, HT07.out, rfl, Below.refl _ _⟩
  case round =>
    obtain ⟨i, g, t, H, rfl, rfl, hi, ht, hl, hb⟩ := hrel
    have HT := Lib.hid ht
    have HL := Lib.hid hl
    have HB := Lib.hid hb
    have HLEN : Hid ((treeL t).length = i) := Lib.hid (by rw [hl]; exact nine_len i hi)
    have HHI : Hid (H ≤ 100000) := Lib.hid (Nat.le_trans (tok_high ht.ok 2 (by rw [HLEN.out]; omega)) (by omega))
    clear ht hl hb
    by_cases hlt : i < 9
    · have hlt2 : (i : Int) < 9 := by omega
      have HPUT : Hid (∀ u, Below wr.heap.size wr u → Calls Try.prog 25 #[.pointer (some ⟨g, 0, none⟩), .string (keyB i), .string xB] u (PutT u t H ⟨keyB i, xB⟩)) := Lib.hid (fun u hu => put_tree (HT.out.under hu) (by have := HLEN.out; omega) (keyB i) xB (by rw [keyB_size]; omega) (by show 1 ≤ 1000; omega))
      have HLT := Lib.hid hlt
      by_cases h7 : 0 < i ∧ i < 7
      · have h70 : (0 : Int) < (i : Int) := by omega
        have h71 : (i : Int) < 7 := by omega
        have HH1 : Hid (H = 1) := Lib.hid (by
          have h1 := tok_high HT.out.ok 1 (by rw [HLEN.out]; omega)
          have h2 : H ≠ 0 := fun e => by
            have := (tok_zero HT.out.ok).1 e
            have h3 := HLEN.out
            rw [this] at h3
            simp at h3
            omega
          omega)
        clear hlt h7
        go_wp2_with (first
          | (go_at_call 22; refine (height_any HT.out.tr HT.out.ok HHI.out).mono ?_; rintro e w8 ⟨rfl, hb8⟩; have HB8 := Lib.hid hb8; clear hb8; rw [HH1.out])
          | (go_at_call 15; refine (HKEY.out i _ (by have := HLT.out; omega)).mono ?_; rintro e w9 ⟨rfl, hb9⟩; have HB9 := Lib.hid hb9; clear hb9)
          | (go_at_call 25; refine (HPUT.out _ (HB8.out.trans (HB9.out.mono HB8.out.size))).mono ?_; rintro e w10 ⟨g3, t3, H3, rfl, ht3, hl3, -, -, hb3⟩; have HT3 := Lib.hid ht3; have HL3 := Lib.hid hl3; have HB3 := Lib.hid hb3; clear ht3 hl3 hb3))
        go_roundw
        case rel => exact ⟨i + 1, g3, t3, H3, rfl, by go_num, by have := HLT.out; omega, HT3.out, by rw [HL3.out, HL.out, nine_succ], HB.out.trans (((HB8.out.trans (HB9.out.mono HB8.out.size)).trans (HB3.out.mono (Nat.le_trans HB8.out.size HB9.out.size))).mono HB.out.size)⟩
        case measure => (try go_num); (try (simp only [intOf])); have := HLT.out; omega
      · by_cases h0 : i = 0
        · have h70 : ¬ (0 : Int) < (i : Int) := by omega
          clear hlt h7 h0
          go_wp2_with (first
            | (go_at_call 15; refine (HKEY.out i _ (by have := HLT.out; omega)).mono ?_; rintro e w9 ⟨rfl, hb9⟩; have HB9 := Lib.hid hb9; clear hb9)
            | (go_at_call 25; refine (HPUT.out _ HB9.out).mono ?_; rintro e w10 ⟨g3, t3, H3, rfl, ht3, hl3, -, -, hb3⟩; have HT3 := Lib.hid ht3; have HL3 := Lib.hid hl3; have HB3 := Lib.hid hb3; clear ht3 hl3 hb3))
          go_roundw
          case rel => exact ⟨i + 1, g3, t3, H3, rfl, by go_num, by have := HLT.out; omega, HT3.out, by rw [HL3.out, HL.out, nine_succ], HB.out.trans ((HB9.out.trans (HB3.out.mono HB9.out.size)).mono HB.out.size)⟩
          case measure => (try go_num); (try (simp only [intOf])); have := HLT.out; omega
        · have h70 : (0 : Int) < (i : Int) := by omega
          have h71 : ¬ (i : Int) < 7 := by omega
          clear hlt h7 h0
          go_wp2_with (first
            | (go_at_call 15; refine (HKEY.out i _ (by have := HLT.out; omega)).mono ?_; rintro e w9 ⟨rfl, hb9⟩; have HB9 := Lib.hid hb9; clear hb9)
            | (go_at_call 25; refine (HPUT.out _ HB9.out).mono ?_; rintro e w10 ⟨g3, t3, H3, rfl, ht3, hl3, -, -, hb3⟩; have HT3 := Lib.hid ht3; have HL3 := Lib.hid hl3; have HB3 := Lib.hid hb3; clear ht3 hl3 hb3))
          go_roundw
          case rel => exact ⟨i + 1, g3, t3, H3, rfl, by go_num, by have := HLT.out; omega, HT3.out, by rw [HL3.out, HL.out, nine_succ], HB.out.trans ((HB9.out.trans (HB3.out.mono HB9.out.size)).mono HB.out.size)⟩
          case measure => (try go_num); (try (simp only [intOf])); have := HLT.out; omega
    · have hge : ¬ (i : Int) < 9 := by omega
      have HH2 : Hid (H = 2) := Lib.hid (by
        have h1 := tok_high HT.out.ok 2 (by rw [HLEN.out]; omega)
        have h2 : H ≠ 0 := fun e => by
          have := (tok_zero HT.out.ok).1 e
          have h3 := HLEN.out
          rw [this] at h3
          simp at h3
          omega
        have h3 : H ≠ 1 := fun e => by
          have h4 := (tok_bounds HT.out.ok h2).2
          rw [e, HLEN.out] at h4
          omega
        omega)
      have HRG : Hid (∀ u, Below wr.heap.size wr u → Calls Try.prog 29 #[.pointer (some ⟨gA, 0, none⟩), .string (s1 98), .string (s1 100)] u fun e W' => ∃ a n c, e = .returned (.slice a n c) ∧ Ps (fun _ => True) W' a n c [⟨s1 98, s1 49⟩] ∧ Below u.heap.size u W') := Lib.hid (fun u hu => by
        have h := range_any ((HTA7.out.under HB.out).under hu) (s1 98) (s1 100) (by rw [HLA2.out]; decide)
        rw [HLA2.out, livR] at h
        refine h.mono ?_
        rintro e W' ⟨v, rfl, hr, hb⟩
        obtain ⟨a, n, c, rfl, hp⟩ := Ps.row hr
        exact ⟨a, n, c, rfl, hp.dom (fun _ _ => trivial), hb⟩)
      have HP8 : Hid (wr.heap[X]? = some (.cells #[.string (s1 98), .string (s1 49)] 65 (0, 0))) := Lib.hid ((HB.out.block _ (Array.getElem?_eq_some_iff.1 HP7.out).1).trans HP7.out)
      clear hlt hi
      have HSM : Hid (∀ (u : World) (a : Option Addr) (n c : Nat), Ps (fun _ => True) u a n c [⟨s1 98, s1 49⟩] → Calls Try.prog 30 #[.slice a n c, .slice (some ⟨u.heap.size, 0, none⟩) 1 1] (u.alloc (.cells #[.string ⟨#[98]⟩, .string ⟨#[49]⟩] 65)) fun e W' => e = .returned (.bool true) ∧ Below u.heap.size u W') := Lib.hid (fun u a n c hp => by
        have hal : Below u.heap.size u (u.alloc (.cells #[.string ⟨#[98]⟩, .string ⟨#[49]⟩] 65)) := (Below.refl _ u).alloc (Nat.le_refl _) _
        have h := same_any (hp.below hal) (Ps.new1 u ⟨#[98]⟩ ⟨#[49]⟩)
        have e : decide ([(⟨s1 98, s1 49⟩ : KV)] = [⟨⟨#[98]⟩, ⟨#[49]⟩⟩]) = true := decide_eq_true rfl
        rw [e] at h
        exact h.mono (fun e W' h => ⟨h.1, hal.trans (h.2.mono hal.size)⟩))
      go_upto_region 17 with (first
        | (go_at_call 29; refine (HRG.out _ (Below.refl _ _)).mono ?_; rintro e w11 ⟨a1, n1, c1, rfl, hp1, hb1⟩; have HP1 := Lib.hid hp1; have HB1 := Lib.hid hb1; clear hp1 hb1)
        | (go_at_call 30; refine (HSM.out _ _ _ _ HP1.out).mono ?_; rintro e w12 ⟨rfl, hb12⟩; have HB12 := Lib.hid (HB1.out.trans (hb12.mono HB1.out.size)); have c1 : w12.cell? ⟨X, 1, none⟩ = some (.string ⟨#[49]⟩) := cell_of_row w12 X 1 _ _ _ ((HB12.out.block _ (Array.getElem?_eq_some_iff.1 HP8.out).1).trans HP8.out); clear hb12)
        | (go_at_call 22; refine (height_any (HT.out.under HB12.out).tr HT.out.ok HHI.out).mono ?_; rintro e w13 ⟨rfl, hb13⟩; have HB13 := Lib.hid (HB12.out.trans (hb13.mono HB12.out.size)); clear hb13; rw [HH2.out]))
      have HB713 : Hid (Below W7.heap.size W7 w13) := Lib.hid (HB.out.trans (HB13.out.mono HB.out.size))
      clear c1
      have HDF : Hid (∀ u, Below w13.heap.size w13 u → Calls Try.prog 32 #[.pointer (some ⟨gA, 0, none⟩), .pointer (some ⟨gB, 0, none⟩)] u fun e W' => ∃ a n c, e = .returned (.slice a n c) ∧ Es (fun _ => True) W' a n c livE ∧ Below u.heap.size u W') := Lib.hid (fun u hu => by
        have h := diff_any ((HTA7.out.under HB713.out).under hu) ((HTB7.out.under HB713.out).under hu) (by rw [HLA2.out]; decide) (by rw [HLB2.out]; decide)
        rw [HLA2.out, HLB2.out, livE_eq] at h
        refine h.mono ?_
        rintro e W' ⟨v, rfl, hr, hb⟩
        obtain ⟨a, n, c, rfl, hp⟩ := Es.row hr
        exact ⟨a, n, c, rfl, ⟨hp.1, hp.2.dom (fun _ _ => trivial)⟩, hb⟩)
      go_upto_region 18 with fail
      have hal : Below w13.heap.size w13 (w13.alloc (.cells #[.string ⟨#[98]⟩, .string ⟨#[]⟩, .bool true, .string ⟨#[100]⟩, .string ⟨#[51]⟩, .bool false, .string ⟨#[101]⟩, .string ⟨#[52]⟩, .bool false] 61)) := (Below.refl _ w13).alloc (Nat.le_refl _) _
      have hes : Es (fun _ => True) (w13.alloc (.cells #[.string ⟨#[98]⟩, .string ⟨#[]⟩, .bool true, .string ⟨#[100]⟩, .string ⟨#[51]⟩, .bool false, .string ⟨#[101]⟩, .string ⟨#[52]⟩, .bool false] 61)) (some ⟨w13.heap.size, 0, none⟩) 3 3 livE := Es.new3 w13 ⟨⟨#[98]⟩, ⟨#[]⟩, true⟩ ⟨⟨#[100]⟩, ⟨#[51]⟩, false⟩ ⟨⟨#[101]⟩, ⟨#[52]⟩, false⟩
      obtain ⟨w14, hw14⟩ : ∃ z, z = w13.alloc (.cells #[.string ⟨#[98]⟩, .string ⟨#[]⟩, .bool true, .string ⟨#[100]⟩, .string ⟨#[51]⟩, .bool false, .string ⟨#[101]⟩, .string ⟨#[52]⟩, .bool false] 61) := ⟨_, rfl⟩
      rw [← hw14] at hal hes ⊢
      have HAL := Lib.hid hal
      have HES := Lib.hid hes
      clear hw14 hal hes
      have HSE : Hid (∀ (u : World) (a : Option Addr) (n c : Nat), Below w14.heap.size w14 u → Es (fun _ => True) u a n c livE → Calls Try.prog 33 #[.slice a n c, .slice (some ⟨w13.heap.size, 0, none⟩) 3 3] u fun e W' => e = .returned (.bool true) ∧ Below u.heap.size u W') := Lib.hid (fun u a n c hu hp => by
        have h := sameE_any hp (HES.out.below hu)
        rw [decide_eq_true rfl] at h
        exact h)
      have HL0 : Hid (∀ u, Below w14.heap.size w14 u → Calls Try.prog 23 #[.pointer (some ⟨g0, 0, none⟩)] u fun e W' => e = .returned (.int .i64 0) ∧ u = W') := Lib.hid (fun u hu => len_any (((HT07.out.under HB713.out).under HAL.out).under hu).tr)
      have HLA : Hid (∀ u, Below w14.heap.size w14 u → Calls Try.prog 23 #[.pointer (some ⟨gA, 0, none⟩)] u fun e W' => e = .returned (.int .i64 2) ∧ u = W') := Lib.hid (fun u hu => by
        have h := len_any (((HTA7.out.under HB713.out).under HAL.out).under hu).tr
        rw [HLA2.out] at h
        exact h)
      go_wp2_with (first
        | (go_at_call 32; refine (HDF.out _ HAL.out).mono ?_; rintro e w15 ⟨a2, n2, c2, rfl, hp2, hb2⟩; have HP2 := Lib.hid hp2; have HB2 := Lib.hid hb2; clear hp2 hb2)
        | (go_at_call 33; refine (HSE.out _ _ _ _ HB2.out HP2.out).mono ?_; rintro e w16 ⟨rfl, hb16⟩; have HB16 := Lib.hid (HB2.out.trans (hb16.mono HB2.out.size)); clear hb16)
        | (go_at_call_has 23 (Value.pointer (some ⟨g0, 0, none⟩)); refine (HL0.out _ HB16.out).mono ?_; rintro e w17 ⟨rfl, rfl⟩)
        | (go_at_call_has 23 (Value.pointer (some ⟨gA, 0, none⟩)); refine (HLA.out _ HB16.out).mono ?_; rintro e w17 ⟨rfl, rfl⟩))
      go_ret
      exact ⟨rfl, HBW7.out.trans ((HB713.out.trans ((HAL.out.trans (HB16.out.mono HAL.out.size)).mono HB713.out.size)).mono HBW7.out.size)⟩
end Go.Proofs.Ytfgmhidgkemfoaa
namespace Go.Proofs.Ytfgmhidgkemfoaa
open Go.RowKit
set_option linter.unusedSimpArgs false
set_option linter.unusedVariables false
theorem key_nat (q : Nat) (hq : q < 4000) (u : World) : Calls Try.prog 15 #[.int .i64 (q : Int)] u fun e w' => e = .returned (.string (keyB q)) ∧ Below u.heap.size u w' := by
  have h := key_any (q : Int) (by omega) (by omega) u
  have e : (aroundT (q : Int) 4000).toNat = q := by
    unfold aroundT
    rw [if_neg (by omega)]
    omega
  rw [e] at h
  exact h
set_option maxRecDepth 100000 in
set_option maxHeartbeats 4000000 in
theorem treeorders_any (n a b : Int) (w : World) (hn1 : -9223372036854775808 ≤ n) (hn2 : n ≤ 9223372036854775807) (ha1 : -9223372036854775808 ≤ a) (ha2 : a ≤ 9223372036854775807) (hb1 : -9223372036854775808 ≤ b) (hb2 : b ≤ 9223372036854775807) : Calls Try.prog 9 #[.int .i64 n, .int .i64 a, .int .i64 b] w fun e w' => e = .returned (.bool true) ∧ Below w.heap.size w w' := by
  have HA1 := Lib.hid (fun u => aroundT_any n 201 u hn1 hn2 (by omega) (by omega))
  have HA2 := Lib.hid (fun u => aroundT_any a 60 u ha1 ha2 (by omega) (by omega))
  have HA3 := Lib.hid (fun u => aroundT_any b 60 u hb1 hb2 (by omega) (by omega))
  have hbd1 := aroundT_bd n 201 (by omega)
  have hbd2 := aroundT_bd a 60 (by omega)
  have hbd3 := aroundT_bd b 60 (by omega)
  obtain ⟨m, hm⟩ : ∃ m : Nat, aroundT n 201 = (m : Int) := ⟨(aroundT n 201).toNat, by omega⟩
  obtain ⟨p, hp⟩ : ∃ p : Nat, aroundT a 60 = (p : Int) := ⟨(aroundT a 60).toNat, by omega⟩
  obtain ⟨q, hq⟩ : ∃ q : Nat, aroundT b 60 = (q : Int) := ⟨(aroundT b 60).toNat, by omega⟩
  rw [hm] at HA1 hbd1
  rw [hp] at HA2 hbd2
  rw [hq] at HA3 hbd3
  have hwp : IntKind.i64.wrap ((2 : Int) * (p : Int)) = ((2 * p : Nat) : Int) := by rw [i64_id _ (by omega) (by omega)]; omega
  have hwq : IntKind.i64.wrap ((2 : Int) * (q : Int)) = ((2 * q : Nat) : Int) := by rw [i64_id _ (by omega) (by omega)]; omega
  have hwp2 : IntKind.i64.wrap ((1 : Int) + ((2 * p : Nat) : Int)) = ((2 * p + 1 : Nat) : Int) := by rw [i64_id _ (by omega) (by omega)]; omega
  have hwq2 : IntKind.i64.wrap ((1 : Int) + ((2 * q : Nat) : Int)) = ((2 * q + 1 : Nat) : Int) := by rw [i64_id _ (by omega) (by omega)]; omega
  have hM : m ≤ 200 := by omega
  have hP : Hid (p < 60) := Lib.hid (by omega)
  have hQ : Hid (q < 60) := Lib.hid (by omega)
  obtain ⟨p2, hp2⟩ : ∃ p2, p2 = 2 * p := ⟨_, rfl⟩
  obtain ⟨q2, hq2⟩ : ∃ q2, q2 = 2 * q := ⟨_, rfl⟩
  rw [← hp2] at hwp hwp2
  rw [← hq2] at hwq hwq2
  obtain ⟨s, hs⟩ : ∃ s, s = p2 + 1 := ⟨_, rfl⟩
  obtain ⟨s', hs'⟩ : ∃ s', s' = q2 + 1 := ⟨_, rfl⟩
  rw [← hs] at hwp2
  rw [← hs'] at hwq2
  have HS : Hid (s = 2 * p + 1) := Lib.hid (by omega)
  have HS' : Hid (s' = 2 * q + 1) := Lib.hid (by omega)
  clear hm hp hq hbd1 hbd2 hbd3 hn1 hn2 ha1 ha2 hb1 hb2 hp2 hq2 hs hs'
  have HMUL : Hid (∀ i z : Nat, i < 256 → z < 200 → ∃ M j : Nat, (i : Int) * (z : Int) = (M : Int) ∧ IntKind.i64.wrap (M : Int) = (M : Int) ∧ (M : Int).tmod 256 = (j : Int) ∧ (M : Int) % 256 = (j : Int) ∧ j = i * z % 256) := Lib.hid (fun i z hi hz => by
    have hM : i * z ≤ 256 * 200 := Nat.mul_le_mul (by omega) (by omega)
    refine ⟨i * z, i * z % 256, by push_cast; rfl, i64_id _ (by omega) (by omega), ?_, by omega, rfl⟩
    rw [Int.tmod_eq_emod_of_nonneg (by omega)]
    omega)
  have HKEY : Hid (∀ (q : Nat) (u : World), q < 4000 → Calls Try.prog 15 #[.int .i64 (q : Int)] u fun e w' => e = .returned (.string (keyB q)) ∧ Below u.heap.size u w') := Lib.hid (fun q u hq => key_nat q hq u)
  have HPUT : Hid (∀ (j : Nat) (u : World) (g : Nat) (t : Option BT) (H : Nat), TT u g t H → (treeL t).length ≤ 1000 → Calls Try.prog 25 #[.pointer (some ⟨g, 0, none⟩), .string (keyB j), .string ⟨#[118]⟩] u (PutT u t H (kvj j))) := Lib.hid (fun j u g t H ht hl => put_tree ht (Nat.le_trans hl (by omega)) (keyB j) vB (by rw [keyB_size]; omega) (by show 1 ≤ 1000; omega))
  go_enter Try.func9, Try.ntmps9
  go_upto_region 3 with (first
    | (go_at_call 16; refine (HA1.out _).mono ?_; rintro e w2 ⟨rfl, rfl⟩)
    | (go_at_call 12; refine (new_any _).mono ?_; rintro e w1 ⟨gx, rfl, htx, -, hbx⟩; have HTX := Lib.hid htx; have HBX := Lib.hid hbx; clear htx hbx))
  go_wp2_with (first
    | (go_at_call 16; refine (HA2.out _).mono ?_; rintro e w2 ⟨rfl, rfl⟩)
    | (go_at_call 12; refine (new_any _).mono ?_; rintro e W0 ⟨gy, rfl, hty, -, hby⟩; have HTY := Lib.hid hty; have HBY := Lib.hid hby; clear hty hby))
  have HBW0 : Hid (Below w.heap.size w W0) := Lib.hid (HBX.out.trans (HBY.out.mono HBX.out.size))
  have HTX0 := Lib.hid (HTX.out.under HBY.out)
  go_loopw [8, 11] (fun u x wr => ∃ (i g : Nat) (t : Option BT) (H : Nat), u = .pointer (some ⟨g, 0, none⟩) ∧ x = .int .i64 (i : Int) ∧ i ≤ m ∧ TT wr g t H ∧ (∀ p, p ∈ treeL t ↔ ∃ j, j < i ∧ p = kvj j) ∧ (treeL t).length = i ∧ Below W0.heap.size W0 wr) (fun _ x _ => m - (intOf x).toNat)
  case atStart => exact ⟨0, gx, none, 0, rfl, rfl, Nat.zero_le _, HTX0.out, fun p => ⟨(fun h => by cases h), fun ⟨j, hj, _⟩ => by omega⟩, rfl, Below.refl _ _⟩
  case round =>
    obtain ⟨i, g, t, H, rfl, rfl, hi, ht, hmem, hl, hb⟩ := hrel
    have HT := Lib.hid ht
    have HMEM := Lib.hid hmem
    have HL := Lib.hid hl
    have HB := Lib.hid hb
    clear ht hmem hl hb
    by_cases hlt : i < m
    · have hlt2 : (i : Int) < (m : Int) := by omega
      have HLT := Lib.hid hlt
      clear hlt
      go_wp2_with (first
        | (go_at_call 15; refine (HKEY.out i _ (by have := HLT.out; omega)).mono ?_; rintro e w3 ⟨rfl, hb3⟩; have HB3 := Lib.hid hb3; clear hb3)
        | (go_at_call 25; refine (HPUT.out i _ _ _ _ (HT.out.under HB3.out) (by have := HL.out; omega)).mono ?_; rintro e w4 ⟨g4, t4, H4, rfl, ht4, hl4, -, -, hb4⟩; have HT4 := Lib.hid ht4; have HL4 := Lib.hid hl4; have HB4 := Lib.hid hb4; clear ht4 hl4 hb4))
      go_roundw
      case rel =>
        refine ⟨i + 1, g4, t4, H4, rfl, by go_num, by have := HLT.out; omega, HT4.out, fun p => ?_, ?_, HB.out.trans ((HB3.out.trans (HB4.out.mono HB3.out.size)).mono HB.out.size)⟩
        · rw [HL4.out, mem_insL, HMEM.out]
          constructor
          · rintro (rfl | ⟨⟨j, hj, rfl⟩, -⟩)
            · exact ⟨i, by omega, rfl⟩
            · exact ⟨j, by omega, rfl⟩
          · rintro ⟨j, hj, rfl⟩
            by_cases e : j = i
            · exact .inl (by rw [e])
            · exact .inr ⟨⟨j, by omega, rfl⟩, fun h => e (keyB_inj (by have := HLT.out; omega) (by have := HLT.out; omega) h)⟩
        · rw [HL4.out, insL_len_new (fun p hp => by
            obtain ⟨j, hj, rfl⟩ := (HMEM.out p).1 hp
            intro h
            have := keyB_inj (a := j) (b := i) (by have := HLT.out; omega) (by have := HLT.out; omega) h
            omega), HL.out]
      case measure => (try go_num); (try (simp only [intOf])); have := HLT.out; omega
    · have hge : ¬ (i : Int) < (m : Int) := by omega
      obtain rfl : m = i := by omega
      obtain ⟨gX, hgX⟩ : ∃ gX, gX = g := ⟨_, rfl⟩
      obtain ⟨tX, htX⟩ : ∃ tX, tX = t := ⟨_, rfl⟩
      obtain ⟨HX, hHX⟩ : ∃ HX, HX = H := ⟨_, rfl⟩
      subst hgX htX hHX
      have HTX1 := HT
      have HMX := HMEM
      have HLX := HL
      have HTY1 := Lib.hid (HTY.out.under HB.out)
      have HBW1 : Hid (Below w.heap.size w wr) := Lib.hid (HBW0.out.trans (HB.out.mono HBW0.out.size))
      obtain ⟨W1, hW1⟩ : ∃ W1, W1 = wr := ⟨_, rfl⟩
      subst hW1
      clear HT HMEM HL HB hlt hge hi HTX HBX HTX0 HBY HTY HBW0
      go_wp2
      go_loopw [9, 12] (fun u x wr => ∃ (i g : Nat) (t : Option BT) (H : Nat), u = .pointer (some ⟨g, 0, none⟩) ∧ x = .int .i64 (i : Int) ∧ i ≤ 256 ∧ TT wr g t H ∧ (∀ p, p ∈ treeL t ↔ ∃ j, (j < m ∧ ∃ i', i' < i ∧ i' * s % 256 = j) ∧ p = kvj j) ∧ (treeL t).length ≤ i ∧ Below W1.heap.size W1 wr) (fun _ x _ => 256 - (intOf x).toNat)
      case atStart => exact ⟨0, gy, none, 0, rfl, rfl, Nat.zero_le _, HTY1.out, fun p => ⟨(fun h => by cases h), fun ⟨j, ⟨_, i', hi', _⟩, _⟩ => by omega⟩, Nat.zero_le _, Below.refl _ _⟩
      case round =>
        obtain ⟨i, g, t, H, rfl, rfl, hi, ht, hmem, hl, hb⟩ := hrel
        have HT := Lib.hid ht
        have HMEM := Lib.hid hmem
        have HL := Lib.hid hl
        have HB := Lib.hid hb
        have hwi : IntKind.i64.wrap ((i : Int) + 1) = (i : Int) + 1 := i64_id _ (by omega) (by omega)
        clear ht hmem hl hb
        by_cases hlt : i < 256
        · have hlt2 : (i : Int) < 256 := by omega
          have HLT := Lib.hid hlt
          obtain ⟨M, j, hm1, hm2, hm3, hm4, hj⟩ := HMUL.out i s hlt (by have := HS.out; have := hP.out; omega)
          have HJ := Lib.hid hj
          clear hlt hj
          by_cases hjm : j < m
          · have hjm2 : (j : Int) < (m : Int) := by omega
            have HJM := Lib.hid hjm
            clear hjm
            go_wp2_with (first
              | (go_at_call 15; refine (HKEY.out j _ (by have := HJM.out; omega)).mono ?_; rintro e w3 ⟨rfl, hb3⟩; have HB3 := Lib.hid hb3; clear hb3)
              | (go_at_call 25; refine (HPUT.out j _ _ _ _ (HT.out.under HB3.out) (by have := HL.out; omega)).mono ?_; rintro e w4 ⟨g4, t4, H4, rfl, ht4, hl4, -, -, hb4⟩; have HT4 := Lib.hid ht4; have HL4 := Lib.hid hl4; have HB4 := Lib.hid hb4; clear ht4 hl4 hb4))
            go_roundw
            case rel =>
              refine ⟨i + 1, g4, t4, H4, rfl, by go_num, by have := HLT.out; omega, HT4.out, fun p => ?_, ?_, HB.out.trans ((HB3.out.trans (HB4.out.mono HB3.out.size)).mono HB.out.size)⟩
              · rw [HL4.out, mem_insL, HMEM.out]
                constructor
                · rintro (rfl | ⟨⟨j2, ⟨hj2, i', hi', e⟩, rfl⟩, -⟩)
                  · exact ⟨j, ⟨HJM.out, i, by omega, HJ.out.symm⟩, rfl⟩
                  · exact ⟨j2, ⟨hj2, i', by omega, e⟩, rfl⟩
                · rintro ⟨j2, ⟨hj2, i', hi', e⟩, rfl⟩
                  by_cases e2 : j2 = j
                  · exact .inl (by rw [e2])
                  · refine .inr ⟨⟨j2, ⟨hj2, i', ?_, e⟩, rfl⟩, fun h => e2 (keyB_inj (by omega) (by have := HJM.out; omega) h)⟩
                    have : i' ≠ i := fun e3 => e2 (by rw [← e, e3, HJ.out])
                    omega
              · rw [HL4.out]
                have := insL_len_le (p := kvj j) HT.out.so
                have := HL.out
                omega
            case measure => (try go_num); (try (simp only [intOf])); have := HLT.out; omega
          · have hjm2 : ¬ (j : Int) < (m : Int) := by omega
            have HJM := Lib.hid hjm
            clear hjm
            go_wp2
            go_roundw
            case rel =>
              refine ⟨i + 1, g, t, H, rfl, by go_num, by have := HLT.out; omega, HT.out, fun p => ?_, by have := HL.out; omega, HB.out⟩
              rw [HMEM.out]
              constructor
              · rintro ⟨j2, ⟨hj2, i', hi', e⟩, rfl⟩
                exact ⟨j2, ⟨hj2, i', by omega, e⟩, rfl⟩
              · rintro ⟨j2, ⟨hj2, i', hi', e⟩, rfl⟩
                refine ⟨j2, ⟨hj2, i', ?_, e⟩, rfl⟩
                have : i' ≠ i := fun e3 => HJM.out (by rw [e3] at e; rw [← HJ.out] at e; omega)
                omega
            case measure => (try go_num); (try (simp only [intOf])); have := HLT.out; omega
        · have hge : ¬ (i : Int) < 256 := by omega
          have HE : Hid (treeL t = treeL tX) := Lib.hid (sorted_ext HT.out.so HTX1.out.so (fun pr => by
            rw [HMEM.out, HMX.out]
            constructor
            · rintro ⟨j, ⟨hj, _⟩, rfl⟩
              exact ⟨j, hj, rfl⟩
            · rintro ⟨j, hj, rfl⟩
              obtain ⟨i', hi', e⟩ := met p j hP.out (by omega)
              exact ⟨j, ⟨hj, i', by omega, by rw [HS.out]; exact e⟩, rfl⟩))
          have HTX2 := Lib.hid (HTX1.out.under HB.out)
          have HBW2 : Hid (Below w.heap.size w wr) := Lib.hid (HBW1.out.trans (HB.out.mono HBW1.out.size))
          obtain ⟨W2, hW2⟩ : ∃ W2, W2 = wr := ⟨_, rfl⟩
          subst hW2
          clear HL HB hlt hi HTX1 HTY1 HBW1 HPUT HMEM hwi
          have HDI : Hid (∀ (u : World) (g1 g2 : Nat) (t1 t2 : Option BT) (H1 H2 : Nat), TT u g1 t1 H1 → TT u g2 t2 H2 → treeL t1 = treeL t2 → (treeL t1).length ≤ 1000 → Calls Try.prog 32 #[.pointer (some ⟨g1, 0, none⟩), .pointer (some ⟨g2, 0, none⟩)] u fun e W' => ∃ a c, e = .returned (.slice a 0 c) ∧ Below u.heap.size u W') := Lib.hid (fun u g1 g2 t1 t2 H1 H2 h1 h2 he hl => by
            have h := diff_any h1 h2 (Nat.le_trans hl (by omega)) (by rw [← he]; exact Nat.le_trans hl (by omega))
            rw [he, diffR_self] at h
            refine h.mono ?_
            rintro e W' ⟨v, rfl, hr, hb⟩
            obtain ⟨a, n, c, rfl, hp⟩ := Es.row hr
            have h0 := hp.1
            simp only [List.length_nil] at h0
            subst h0
            exact ⟨a, c, rfl, hb⟩)
          have HLX2 : Hid ((treeL tX).length ≤ 1000) := Lib.hid (by have := HLX.out; omega)
          go_upto_region 17 with (first
            | (go_at_call 23; refine (len_any HTX2.out.tr).mono ?_; rintro e w5 ⟨rfl, rfl⟩; rw [HLX.out])
            | (go_at_call_has 32 (#[Value.pointer (some ⟨gX, 0, none⟩), Value.pointer (some ⟨g, 0, none⟩)] : Array Value); refine (HDI.out _ _ _ _ _ _ _ HTX2.out HT.out HE.out.symm HLX2.out).mono ?_; rintro e w5 ⟨aD, cD, rfl, hb5⟩; have HB5 := Lib.hid hb5; clear hb5)
            | (go_at_call 32; refine (HDI.out _ _ _ _ _ _ _ (HT.out.under HB5.out) (HTX2.out.under HB5.out) HE.out (by rw [HE.out]; exact HLX2.out)).mono ?_; rintro e w6 ⟨aE, cE, rfl, hb6⟩; have HB6 := Lib.hid (HB5.out.trans (hb6.mono HB5.out.size)); clear hb6))
          have HTX3 := Lib.hid (HTX2.out.under HB6.out)
          have HT3 := Lib.hid (HT.out.under HB6.out)
          have HBW3 : Hid (Below w.heap.size w w6) := Lib.hid (HBW2.out.trans (HB6.out.mono HBW2.out.size))
          clear HTX2 HT HB6 HB5 HBW2 HDI HA1 HA2
          go_wp2_with (go_at_call 16; refine (HA3.out _).mono ?_; rintro e w7 ⟨rfl, rfl⟩)
          go_loopw [9, 15] (fun u x wr => ∃ (i g : Nat) (t : Option BT) (H : Nat), u = .pointer (some ⟨g, 0, none⟩) ∧ x = .int .i64 (i : Int) ∧ i ≤ 256 ∧ TT wr g t H ∧ (∀ pr, pr ∈ treeL t → ∃ j, (j < m ∧ ∀ i', i' < i → i' * s' % 256 ≠ j) ∧ pr = kvj j) ∧ (treeL t).length ≤ 1000 ∧ Below w6.heap.size w6 wr) (fun _ x _ => 256 - (intOf x).toNat)
          case atStart => exact ⟨0, g, t, H, rfl, rfl, Nat.zero_le _, HT3.out, fun pr hpr => by
            rw [HE.out, HMX.out] at hpr
            obtain ⟨j, hj, rfl⟩ := hpr
            exact ⟨j, ⟨hj, fun i' h => by omega⟩, rfl⟩, by rw [HE.out]; exact HLX2.out, Below.refl _ _⟩
          case round =>
            clear HE HT3 hge
            obtain ⟨i, g, t, H, rfl, rfl, hi, ht, hmem, hl, hb⟩ := hrel
            have HT := Lib.hid ht
            have HMEM := Lib.hid hmem
            have HL := Lib.hid hl
            have HB := Lib.hid hb
            have hwi : IntKind.i64.wrap ((i : Int) + 1) = (i : Int) + 1 := i64_id _ (by omega) (by omega)
            clear ht hmem hl hb
            by_cases hlt : i < 256
            · have hlt2 : (i : Int) < 256 := by omega
              have HLT := Lib.hid hlt
              obtain ⟨M, j, hm1, hm2, hm3, hm4, hj⟩ := HMUL.out i s' hlt (by have := HS'.out; have := hQ.out; omega)
              have HJ := Lib.hid hj
              have HJ4 : Hid (j < 4000) := Lib.hid (by have := Nat.mod_lt (i * s') (show 256 > 0 by decide); omega)
              clear hlt hj
              go_wp2_with (first
                | (go_at_call 15; refine (HKEY.out j _ HJ4.out).mono ?_; rintro e w8 ⟨rfl, hb8⟩; have HB8 := Lib.hid hb8; clear hb8)
                | (go_at_call 27; refine (del_tree (HT.out.under HB8.out) (Nat.le_trans HL.out (by omega)) (keyB j)).mono ?_; rintro e w9 ⟨g4, t4, H4, rfl, ht4, hl4, -, -, hb4⟩; have HT4 := Lib.hid ht4; have HL4 := Lib.hid hl4; have HB4 := Lib.hid hb4; clear ht4 hl4 hb4))
              go_roundw
              case rel =>
                refine ⟨i + 1, g4, t4, H4, rfl, by go_num, by have := HLT.out; omega, HT4.out, fun pr hpr => ?_, ?_, HB.out.trans ((HB8.out.trans (HB4.out.mono HB8.out.size)).mono HB.out.size)⟩
                · rw [HL4.out, mem_delL] at hpr
                  obtain ⟨j2, ⟨hj2, hall⟩, rfl⟩ := HMEM.out pr hpr.1
                  refine ⟨j2, ⟨hj2, fun i' hi' e => ?_⟩, rfl⟩
                  by_cases e3 : i' = i
                  · rw [e3, ← HJ.out] at e
                    exact hpr.2 (by rw [← e]; rfl)
                  · exact hall i' (by omega) e
                · rw [HL4.out]; exact Nat.le_trans (delL_le _ _) HL.out
              case measure => (try go_num); (try (simp only [intOf])); have := HLT.out; omega
            · have hge : ¬ (i : Int) < 256 := by omega
              have HN : Hid (treeL t = []) := Lib.hid (List.eq_nil_iff_forall_not_mem.2 (fun pr hpr => by
                obtain ⟨j, ⟨hj, hall⟩, rfl⟩ := HMEM.out pr hpr
                obtain ⟨i', hi', e⟩ := met q j hQ.out (by omega)
                exact hall i' (by omega) (by rw [HS'.out]; exact e)))
              have HH0 : Hid (H = 0) := Lib.hid ((tok_zero HT.out.ok).2 HN.out)
              have HLN : Hid (Calls Try.prog 23 #[.pointer (some ⟨g, 0, none⟩)] wr fun e w' => e = .returned (.int .i64 0) ∧ wr = w') := Lib.hid (by
                have h := len_any HT.out.tr
                rw [HN.out] at h
                exact h)
              have HHT : Hid (Calls Try.prog 22 #[.pointer (some ⟨g, 0, none⟩)] wr fun e w' => e = .returned (.int .i64 0) ∧ Below wr.heap.size wr w') := Lib.hid (by
                have h := height_any HT.out.tr HT.out.ok (by rw [HH0.out]; omega)
                rw [HH0.out] at h
                exact h)
              have HRG : Hid (∀ u, Below wr.heap.size wr u → Calls Try.prog 29 #[.pointer (some ⟨g, 0, none⟩), .string ⟨#[]⟩, .string ⟨#[]⟩] u fun e W' => ∃ a c, e = .returned (.slice a 0 c) ∧ Below u.heap.size u W') := Lib.hid (fun u hu => by
                have h := range_any (HT.out.under hu) ⟨#[]⟩ ⟨#[]⟩ (by rw [HN.out]; simp)
                rw [HN.out] at h
                refine h.mono ?_
                rintro e W' ⟨v, rfl, hr, hb⟩
                have hr2 : W'.ownsRow u.heap.size 65 2 v (rngL emptyS emptyS ([] : List KV)).length (pcells (rngL emptyS emptyS ([] : List KV))) := hr
                rw [rngL_emp] at hr2
                obtain ⟨a, n, c, rfl, hp⟩ := Ps.row hr2
                have h0 := hp.1
                simp only [List.length_nil] at h0
                subst h0
                exact ⟨a, c, rfl, hb⟩)
              clear hlt
              go_wp2_with (first
                | (go_at_call_has 23 (Value.pointer (some ⟨g, 0, none⟩)); refine HLN.out.mono ?_; rintro e w8 ⟨rfl, rfl⟩)
                | (go_at_call 22; refine HHT.out.mono ?_; rintro e w9 ⟨rfl, hb9⟩; have HB9 := Lib.hid hb9; clear hb9)
                | (go_at_call 29; refine (HRG.out _ HB9.out).mono ?_; rintro e w10 ⟨aR, cR, rfl, hb10⟩; have HB10 := Lib.hid (HB9.out.trans (hb10.mono HB9.out.size)); clear hb10)
                | (go_at_call 23; refine (len_any ((HTX3.out.under HB.out).under HB10.out).tr).mono ?_; rintro e w11 ⟨rfl, rfl⟩; rw [HLX.out])
                | (go_at_call 19; refine (lives_any _).mono ?_; rintro e w12 ⟨rfl, hb12⟩))
              go_ret
              exact ⟨rfl, HBW3.out.trans ((HB.out.trans ((HB10.out.trans (hb12.mono HB10.out.size)).mono HB.out.size)).mono HBW3.out.size)⟩
end Go.Proofs.Ytfgmhidgkemfoaa
namespace Go.Proofs.Ytfgmhidgkemfoaa
theorem own : ownKnob Try.prog.godebug = none := by kernel_rfl
theorem laidOut : laidOutB Try.prog = true := by kernel_rfl
end Go.Proofs.Ytfgmhidgkemfoaa

/-
  Texts OL, OM, P8, one behind the other.
-/
import Derived.WalkKit
import Derived.WalkSpells
import Derived.WalkLawsBesides
import Derived.Laws.AppendOwn
import Derived.Laws.OwnMore
import Derived.Deep.AppendSrc
import Derived.Deep.MidRow
import Derived.Lib.Hide
import GoSem.Claim
import Derived.Lib.Bytealg
import Derived.Laws.Externs
import Derived.Deep.QuietTactic
import Derived.BigQuiet
import Derived.Deep.CutBlock
import Derived.OwnWalk
import Derived.Deep.DrawnRows
import Derived.Deep.CutRange
import Derived.Deep.LoopGhost
import Derived.Laws.Tables
import Derived.Laws.ResultCell
import Derived.Deep.WholeRow
import Derived.Lib.Strings
import Derived.Shelf.Spec.SlicesInsert
import Derived.Lib.AppendZerosOnto
import Derived.Lib.Overlaps
import Derived.Laws.CopyRow
import Derived.Deep.RegionLaw
import Derived.StillTailTactics
import Derived.RangeFuncNested
import Derived.RangeFuncBound
import Derived.RangeFuncCalls
import Derived.RangeFuncLeaves
import Derived.Shelf.Abstract
import Derived.Shelf.RegionOpen
import Derived.OwnWalkIn
import Derived.TacticsInMore
import Derived.LoopNIn
import Derived.LoopIn
import Derived.RangeFuncBox
import Derived.Sort.CutIn
import Derived.Orders
import Derived.Tactics
import Derived.Sort.AtCall
import Derived.ProofKit
import Derived.OpenShut
import Derived.Carry
import Derived.Deep.Slices
import Derived.Deep.Fields
import Derived.JoinedCond
import Derived.ChangeMaps5
import Derived.Test.YtfgmhidgkemfoaaRows
import Derived.Test.YtfgmhidgkemfoaaProg
import Derived.Test.YtfgmhidgkemfoaaChecked
import Derived.Test.YtfgmhidgkemfoaaZT306
namespace Go.Proofs.Ytfgmhidgkemfoaa
open Go.RowKit
set_option linter.unusedSimpArgs false
set_option linter.unusedVariables false
def s1 (a : UInt8) : ByteArray := ⟨#[a]⟩
def livA : List KV := [⟨s1 98, s1 49⟩, ⟨s1 100, s1 50⟩]
def livB : List KV := [⟨s1 100, s1 51⟩, ⟨s1 101, s1 52⟩]
def livE : List ED := [⟨s1 98, emptyS, true⟩, ⟨s1 100, s1 51, false⟩, ⟨s1 101, s1 52, false⟩]
theorem livA_eq : insL (insL [] ⟨s1 100, s1 50⟩) ⟨s1 98, s1 49⟩ = livA := by decide
theorem livB_eq : insL (insL [] ⟨s1 101, s1 52⟩) ⟨s1 100, s1 51⟩ = livB := by decide
theorem livE_eq : diffR livA livB = livE := by rw [← diffP_eq]; decide
theorem livF : floorL livA (s1 99) = some ⟨s1 98, s1 49⟩ := by decide
theorem livG : floorL livA (s1 97) = none := by decide
theorem livR : rngL (s1 98) (s1 100) livA = [⟨s1 98, s1 49⟩] := by decide
def nineL (i : Nat) : List KV := (List.range i).foldl (fun l j => insL l ⟨keyB j, xB⟩) []
theorem nine_succ (i : Nat) : nineL (i + 1) = insL (nineL i) ⟨keyB i, xB⟩ := by unfold nineL; rw [List.range_succ, List.foldl_append]; rfl
theorem nine_len : ∀ i, i ≤ 9 → (nineL i).length = i := by decide
theorem Sl.new {W : World} {t : TypeId} (cs : List Value) (size : Nat) (hs : cs.length = size) (n : Nat) (hn : n ≤ maxLen) (xs : List Value) (hx : xs.length = n * size) (hz : 0 < size) (h0 : 0 < n) : Sl (fun _ => True) (W.alloc (.cells xs.toArray t)) (some ⟨W.heap.size, 0, none⟩) n n xs size := by
  refine ⟨hx, Nat.le_refl _, hn, by simp, fun _ => ⟨W.heap.size, 0, trivial, rfl, fun j v hv => ?_⟩⟩
  rw [Nat.zero_add, cell_of_row (W.alloc (.cells xs.toArray t)) W.heap.size j xs.toArray _ _ (World.alloc_heap_new W _)]
  simpa using hv
theorem Ps.new1 (W : World) (k v : ByteArray) : Ps (fun _ => True) (W.alloc (.cells #[.string k, .string v] 65)) (some ⟨W.heap.size, 0, none⟩) 1 1 [⟨k, v⟩] := ⟨rfl, Sl.new [.string k, .string v] 2 rfl 1 (by decide) [.string k, .string v] rfl (by decide) (by decide)⟩
theorem Es.new3 (W : World) (a b c : ED) : Es (fun _ => True) (W.alloc (.cells #[.string a.k, .string a.v, .bool a.d, .string b.k, .string b.v, .bool b.d, .string c.k, .string c.v, .bool c.d] 61)) (some ⟨W.heap.size, 0, none⟩) 3 3 [a, b, c] := ⟨rfl, Sl.new [.string a.k, .string a.v, .bool a.d] 3 rfl 3 (by decide) (ecells [a, b, c]) rfl (by decide) (by decide)⟩
end Go.Proofs.Ytfgmhidgkemfoaa
namespace Go.Proofs.Ytfgmhidgkemfoaa
open Go.RowKit
set_option linter.unusedSimpArgs false
set_option linter.unusedVariables false
attribute [local go_sem ↓] exec_loadPair exec_storePair exec_at_zeroP exec_at_succP Go.wp_at_zero Go.wp_at_succ
attribute [local go_sem] run_storePair
theorem none_len : (treeL (none : Option BT)).length ≤ 1000000 := by show ([] : List KV).length ≤ 1000000; simp
theorem s1_60 (a : UInt8) : (s1 a).size ≤ 60 := by show 1 ≤ 60; omega
theorem s1_1000 (a : UInt8) : (s1 a).size ≤ 1000 := by show 1 ≤ 1000; omega
theorem ins_one (p : KV) : (insL (treeL (none : Option BT)) p).length ≤ 1000000 := by
  have h := insL_le (treeL (none : Option BT)) p
  have e : (treeL (none : Option BT)).length = 0 := rfl
  omega
set_option maxRecDepth 100000 in
set_option maxHeartbeats 400000 in
theorem lives_any (w : World) : Calls Try.prog 19 #[] w fun e w' => e = .returned (.bool true) ∧ Below w.heap.size w w' := by
  go_enter Try.func19, Try.ntmps19
  go_upto_region 4 with (go_at_call 12; refine (new_any _).mono ?_; rintro e w1 ⟨g0, rfl, ht0, -, hb0⟩; have HT0 := Lib.hid ht0; have HB0 := Lib.hid hb0; clear ht0 hb0)
  go_upto_region 5 with (first
    | (go_at_call_has 25 (Value.pointer (some ⟨g0, 0, none⟩)); refine (put_tree HT0.out none_len (s1 100) (s1 50) (s1_60 _) (s1_1000 _)).mono ?_; rintro e w2 ⟨g1, t1, H1, rfl, ht1, hl1, -, -, hb1⟩; have HT1 := Lib.hid ht1; have HL1 := Lib.hid hl1; have HB1 := Lib.hid hb1; clear ht1 hl1 hb1)
    | (go_at_call_has 25 (Value.pointer (some ⟨g1, 0, none⟩)); refine (put_tree HT1.out (by rw [HL1.out]; exact ins_one _) (s1 98) (s1 49) (s1_60 _) (s1_1000 _)).mono ?_; rintro e w3 ⟨gA, tA, HA, rfl, htA, hlA, -, -, hb2⟩; have HTA := Lib.hid htA; have HLA := Lib.hid hlA; have HB2 := Lib.hid hb2; clear htA hlA hb2))
  have HLA2 : Hid (treeL tA = livA) := Lib.hid (by rw [HLA.out, HL1.out]; exact livA_eq)
  have HBA : Hid (Below w1.heap.size w1 w3) := Lib.hid (HB1.out.trans (HB2.out.mono HB1.out.size))
  have HT03 := Lib.hid (HT0.out.under HBA.out)
  go_upto_region 6 with (first
    | (go_at_call_has 25 (Value.pointer (some ⟨g0, 0, none⟩)); refine (put_tree HT03.out none_len (s1 101) (s1 52) (s1_60 _) (s1_1000 _)).mono ?_; rintro e w4 ⟨g3, t3, H3, rfl, ht3, hl3, -, -, hb3⟩; have HT3 := Lib.hid ht3; have HL3 := Lib.hid hl3; have HB3 := Lib.hid hb3; clear ht3 hl3 hb3)
    | (go_at_call_has 25 (Value.pointer (some ⟨g3, 0, none⟩)); refine (put_tree HT3.out (by rw [HL3.out]; exact ins_one _) (s1 100) (s1 51) (s1_60 _) (s1_1000 _)).mono ?_; rintro e w5 ⟨gB, tB, HB, rfl, htB, hlB, -, -, hb4⟩; have HTB := Lib.hid htB; have HLB := Lib.hid hlB; have HB4 := Lib.hid hb4; clear htB hlB hb4))
  have HLB2 : Hid (treeL tB = livB) := Lib.hid (by rw [HLB.out, HL3.out]; exact livB_eq)
  have HB35 : Hid (Below w3.heap.size w3 w5) := Lib.hid (HB3.out.trans (HB4.out.mono HB3.out.size))
  have HTA5 := Lib.hid (HTA.out.under HB35.out)
  have HT05 := Lib.hid (HT03.out.under HB35.out)
  have HBW : Hid (Below w.heap.size w w5) := Lib.hid (HB0.out.trans ((HBA.out.trans (HB35.out.mono HBA.out.size)).mono HB0.out.size))
  have HFC : Hid (∀ u, Below w5.heap.size w5 u → Calls Try.prog 35 #[.pointer (some ⟨gA, 0, none⟩), .string (s1 99)] u fun e u' => e = .returned (.tuple #[.agg #[.string (s1 98), .string (s1 49)], .bool true]) ∧ Below u.heap.size u u') := Lib.hid (fun u hu => by
    have h := floor_any (HTA5.out.under hu).tr HTA5.out.ok HTA5.out.so (s1 99)
    rw [HLA2.out, livF] at h
    exact h)
  have HFA : Hid (∀ u, Below w5.heap.size w5 u → Calls Try.prog 35 #[.pointer (some ⟨gA, 0, none⟩), .string (s1 97)] u fun e u' => e = .returned (.tuple #[.agg #[.string emptyS, .string emptyS], .bool false]) ∧ Below u.heap.size u u') := Lib.hid (fun u hu => by
    have h := floor_any (HTA5.out.under hu).tr HTA5.out.ok HTA5.out.so (s1 97)
    rw [HLA2.out, livG] at h
    exact h)
  clear HT0 HB0 HT1 HL1 HB1 HLA HBA HT03 HT3 HL3 HB3 HLB HB4 HTA HB2 HB35
  go_upto_region 7 with (go_at_call 35; refine (HFC.out _ (Below.refl _ _)).mono ?_; rintro e w6 ⟨rfl, hb6⟩; have HB6 := Lib.hid hb6; have p6 : PB (w6.alloc (.cells #[.string ⟨#[]⟩, .string ⟨#[]⟩] 65)) w6.heap.size := ⟨⟨⟨#[]⟩, ⟨#[]⟩⟩, heap_new rfl⟩; clear hb6)
  have hx6 : Below w6.heap.size w6 ((w6.alloc (.cells #[.string ⟨#[]⟩, .string ⟨#[]⟩] 65)).setRow w6.heap.size #[.string (s1 98), .string (s1 49)]) :=
    ((((Kept.of_below (fun _ => False) (Below.refl w6.heap.size w6)).alloc _).setRow (fun h => by omega) _).below (Nat.le_refl _) (fun _ _ h => h))
  have hp6 : ((w6.alloc (.cells #[.string ⟨#[]⟩, .string ⟨#[]⟩] 65)).setRow w6.heap.size #[.string (s1 98), .string (s1 49)]).heap[w6.heap.size]? = some (.cells #[.string (s1 98), .string (s1 49)] 65 (0, 0)) := setRow_heap _ _ _ _ _ _ (heap_new rfl)
  obtain ⟨X, hX⟩ : ∃ X, X = w6.heap.size := ⟨_, rfl⟩
  have HB6W : Hid (Below w5.heap.size w5 ((w6.alloc (.cells #[.string ⟨#[]⟩, .string ⟨#[]⟩] 65)).setRow w6.heap.size #[.string (s1 98), .string (s1 49)])) := Lib.hid (HB6.out.trans (hx6.mono HB6.out.size))
  rw [← hX] at HB6W hp6 ⊢
  obtain ⟨W6, hW6⟩ : ∃ W6, W6 = (w6.alloc (.cells #[.string ⟨#[]⟩, .string ⟨#[]⟩] 65)).setRow X #[.string (s1 98), .string (s1 49)] := ⟨_, rfl⟩
  have HP6 := Lib.hid hp6
  rw [← hW6] at HB6W HP6 ⊢
  clear hW6 hX hx6 hp6 HB6 p6 HFC
  go_upto_region 8 with (go_at_call 35; refine (HFA.out _ HB6W.out).mono ?_; rintro e w7 ⟨rfl, hb7⟩; have HB7 := Lib.hid hb7; have p7 : PB (w7.alloc (.cells #[.string ⟨#[]⟩, .string ⟨#[]⟩] 65)) w7.heap.size := ⟨⟨⟨#[]⟩, ⟨#[]⟩⟩, heap_new rfl⟩; clear hb7)
  have hx7 : Below w7.heap.size w7 ((w7.alloc (.cells #[.string ⟨#[]⟩, .string ⟨#[]⟩] 65)).setRow w7.heap.size #[.string emptyS, .string emptyS]) :=
    ((((Kept.of_below (fun _ => False) (Below.refl w7.heap.size w7)).alloc _).setRow (fun h => by omega) _).below (Nat.le_refl _) (fun _ _ h => h))
  obtain ⟨W7, hW7⟩ : ∃ W7, W7 = (w7.alloc (.cells #[.string ⟨#[]⟩, .string ⟨#[]⟩] 65)).setRow w7.heap.size #[.string emptyS, .string emptyS] := ⟨_, rfl⟩
  rw [← hW7] at hx7 ⊢
  have HB67 : Hid (Below W6.heap.size W6 W7) := Lib.hid (HB7.out.trans (hx7.mono HB7.out.size))
  have HB57 : Hid (Below w5.heap.size w5 W7) := Lib.hid (HB6W.out.trans (HB67.out.mono HB6W.out.size))
  have HP7 : Hid (W7.heap[X]? = some (.cells #[.string (s1 98), .string (s1 49)] 65 (0, 0))) := Lib.hid ((HB67.out.block _ (Array.getElem?_eq_some_iff.1 HP6.out).1).trans HP6.out)
  have HTA7 := Lib.hid (HTA5.out.under HB57.out)
  have HTB7 := Lib.hid (HTB.out.under HB57.out)
  have HT07 := Lib.hid (HT05.out.under HB57.out)
  have HBW7 : Hid (Below w.heap.size w W7) := Lib.hid (HBW.out.trans (HB57.out.mono HBW.out.size))
  clear hW7 hx7 HB7 p7 HFA HB67 HB57 HTA5 HTB HT05 HBW HB6W HP6
  have HKEY : Hid (∀ (q : Nat) (u : World), q < 4000 → Calls Try.prog 15 #[.int .i64 (q : Int)] u fun e w' => e = .returned (.string (keyB q)) ∧ Below u.heap.size u w') := Lib.hid (fun q u hq => by
    have h := key_any (q : Int) (by omega) (by omega) u
    have e : (aroundT (q : Int) 4000).toNat = q := by
      unfold aroundT
      rw [if_neg (by omega)]
      omega
    rw [e] at h
    exact h)
  go_wp2
  go_loopw [8, 9] (fun u x wr => ∃ (i g : Nat) (t : Option BT) (H : Nat), u = .pointer (some ⟨g, 0, none⟩) ∧ x = .int .i64 (i : Int) ∧ i ≤ 9 ∧ TT wr g t H ∧ treeL t = nineL i ∧ Below W7.heap.size W7 wr) (fun _ x _ => 9 - (intOf x).toNat)
  case atStart => exact ⟨0, g0, none, 0, rfl, rfl, Nat.zero_le _, HT07.out, rfl, Below.refl _ _⟩
  case round =>
    obtain ⟨i, g, t, H, rfl, rfl, hi, ht, hl, hb⟩ := hrel
    have HT := Lib.hid ht
    have HL := Lib.hid hl
    have HB := Lib.hid hb
    have HLEN : Hid ((treeL t).length = i) := Lib.hid (by rw [hl]; exact nine_len i hi)
    have HHI : Hid (H ≤ 100000) := Lib.hid (Nat.le_trans (tok_high ht.ok 2 (by rw [HLEN.out]; omega)) (by omega))
    clear ht hl hb
    by_cases hlt : i < 9
    · have hlt2 : (i : Int) < 9 := by omega
      have HPUT : Hid (∀ u, Below wr.heap.size wr u → Calls Try.prog 25 #[.pointer (some ⟨g, 0, none⟩), .string (keyB i), .string xB] u (PutT u t H ⟨keyB i, xB⟩)) := Lib.hid (fun u hu => put_tree (HT.out.under hu) (by have := HLEN.out; omega) (keyB i) xB (by rw [keyB_size]; omega) (by show 1 ≤ 1000; omega))
      have HLT := Lib.hid hlt
      by_cases h7 : 0 < i ∧ i < 7
      · have h70 : (0 : Int) < (i : Int) := by omega
        have h71 : (i : Int) < 7 := by omega
        have HH1 : Hid (H = 1) := Lib.hid (by
          have h1 := tok_high HT.out.ok 1 (by rw [HLEN.out]; omega)
          have h2 : H ≠ 0 := fun e => by
            have := (tok_zero HT.out.ok).1 e
            have h3 := HLEN.out
            rw [this] at h3
            simp at h3
            omega
          omega)
        clear hlt h7
        go_wp2_with (first
          | (go_at_call 22; refine (height_any HT.out.tr HT.out.ok HHI.out).mono ?_; rintro e w8 ⟨rfl, hb8⟩; have HB8 := Lib.hid hb8; clear hb8; rw [HH1.out])
          | (go_at_call 15; refine (HKEY.out i _ (by have := HLT.out; omega)).mono ?_; rintro e w9 ⟨rfl, hb9⟩; have HB9 := Lib.hid hb9; clear hb9)
          | (go_at_call 25; refine (HPUT.out _ (HB8.out.trans (HB9.out.mono HB8.out.size))).mono ?_; rintro e w10 ⟨g3, t3, H3, rfl, ht3, hl3, -, -, hb3⟩; have HT3 := Lib.hid ht3; have HL3 := Lib.hid hl3; have HB3 := Lib.hid hb3; clear ht3 hl3 hb3))
        go_roundw
        case rel => exact ⟨i + 1, g3, t3, H3, rfl, by go_num, by have := HLT.out; omega, HT3.out, by rw [HL3.out, HL.out, nine_succ], HB.out.trans (((HB8.out.trans (HB9.out.mono HB8.out.size)).trans (HB3.out.mono (Nat.le_trans HB8.out.size HB9.out.size))).mono HB.out.size)⟩
        case measure => (try go_num); (try (simp only [intOf])); have := HLT.out; omega
      · by_cases h0 : i = 0
        · have h70 : ¬ (0 : Int) < (i : Int) := by omega
          clear hlt h7 h0
          go_wp2_with (first
            | (go_at_call 15; refine (HKEY.out i _ (by have := HLT.out; omega)).mono ?_; rintro e w9 ⟨rfl, hb9⟩; have HB9 := Lib.hid hb9; clear hb9)
            | (go_at_call 25; refine (HPUT.out _ HB9.out).mono ?_; rintro e w10 ⟨g3, t3, H3, rfl, ht3, hl3, -, -, hb3⟩; have HT3 := Lib.hid ht3; have HL3 := Lib.hid hl3; have HB3 := Lib.hid hb3; clear ht3 hl3 hb3))
          go_roundw
          case rel => exact ⟨i + 1, g3, t3, H3, rfl, by go_num, by have := HLT.out; omega, HT3.out, by rw [HL3.out, HL.out, nine_succ], HB.out.trans ((HB9.out.trans (HB3.out.mono HB9.out.size)).mono HB.out.size)⟩
          case measure => (try go_num); (try (simp only [intOf])); have := HLT.out; omega
        · have h70 : (0 : Int) < (i : Int) := by omega
          have h71 : ¬ (i : Int) < 7 := by omega
          clear hlt h7 h0
          go_wp2_with (first
            | (go_at_call 15; refine (HKEY.out i _ (by have := HLT.out; omega)).mono ?_; rintro e w9 ⟨rfl, hb9⟩; have HB9 := Lib.hid hb9; clear hb9)
            | (go_at_call 25; refine (HPUT.out _ HB9.out).mono ?_; rintro e w10 ⟨g3, t3, H3, rfl, ht3, hl3, -, -, hb3⟩; have HT3 := Lib.hid ht3; have HL3 := Lib.hid hl3; have HB3 := Lib.hid hb3; clear ht3 hl3 hb3))
          go_roundw
          case rel => exact ⟨i + 1, g3, t3, H3, rfl, by go_num, by have := HLT.out; omega, HT3.out, by rw [HL3.out, HL.out, nine_succ], HB.out.trans ((HB9.out.trans (HB3.out.mono HB9.out.size)).mono HB.out.size)⟩
          case measure => (try go_num); (try (simp only [intOf])); have := HLT.out; omega
    · have hge : ¬ (i : Int) < 9 := by omega
      have HH2 : Hid (H = 2) := Lib.hid (by
        have h1 := tok_high HT.out.ok 2 (by rw [HLEN.out]; omega)
        have h2 : H ≠ 0 := fun e => by
          have := (tok_zero HT.out.ok).1 e
          have h3 := HLEN.out
          rw [this] at h3
          simp at h3
          omega
        have h3 : H ≠ 1 := fun e => by
          have h4 := (tok_bounds HT.out.ok h2).2
          rw [e, HLEN.out] at h4
          omega
        omega)
      have HRG : Hid (∀ u, Below wr.heap.size wr u → Calls Try.prog 29 #[.pointer (some ⟨gA, 0, none⟩), .string (s1 98), .string (s1 100)] u fun e W' => ∃ a n c, e = .returned (.slice a n c) ∧ Ps (fun _ => True) W' a n c [⟨s1 98, s1 49⟩] ∧ Below u.heap.size u W') := Lib.hid (fun u hu => by
        have h := range_any ((HTA7.out.under HB.out).under hu) (s1 98) (s1 100) (by rw [HLA2.out]; decide)
        rw [HLA2.out, livR] at h
        refine h.mono ?_
        rintro e W' ⟨v, rfl, hr, hb⟩
        obtain ⟨a, n, c, rfl, hp⟩ := Ps.row hr
        exact ⟨a, n, c, rfl, hp.dom (fun _ _ => trivial), hb⟩)
      have HP8 : Hid (wr.heap[X]? = some (.cells #[.string (s1 98), .string (s1 49)] 65 (0, 0))) := Lib.hid ((HB.out.block _ (Array.getElem?_eq_some_iff.1 HP7.out).1).trans HP7.out)
      clear hlt hi
      have HSM : Hid (∀ (u : World) (a : Option Addr) (n c : Nat), Ps (fun _ => True) u a n c [⟨s1 98, s1 49⟩] → Calls Try.prog 30 #[.slice a n c, .slice (some ⟨u.heap.size, 0, none⟩) 1 1] (u.alloc (.cells #[.string ⟨#[98]⟩, .string ⟨#[49]⟩] 65)) fun e W' => e = .returned (.bool true) ∧ Below u.heap.size u W') := Lib.hid (fun u a n c hp => by
        have hal : Below u.heap.size u (u.alloc (.cells #[.string ⟨#[98]⟩, .string ⟨#[49]⟩] 65)) := (Below.refl _ u).alloc (Nat.le_refl _) _
        have h := same_any (hp.below hal) (Ps.new1 u ⟨#[98]⟩ ⟨#[49]⟩)
        have e : decide ([(⟨s1 98, s1 49⟩ : KV)] = [⟨⟨#[98]⟩, ⟨#[49]⟩⟩]) = true := decide_eq_true rfl
        rw [e] at h
        exact h.mono (fun e W' h => ⟨h.1, hal.trans (h.2.mono hal.size)⟩))
      go_upto_region 17 with (first
        | (go_at_call 29; refine (HRG.out _ (Below.refl _ _)).mono ?_; rintro e w11 ⟨a1, n1, c1, rfl, hp1, hb1⟩; have HP1 := Lib.hid hp1; have HB1 := Lib.hid hb1; clear hp1 hb1)
        | (go_at_call 30; refine (HSM.out _ _ _ _ HP1.out).mono ?_; rintro e w12 ⟨rfl, hb12⟩; have HB12 := Lib.hid (HB1.out.trans (hb12.mono HB1.out.size)); have c1 : w12.cell? ⟨X, 1, none⟩ = some (.string ⟨#[49]⟩) := cell_of_row w12 X 1 _ _ _ ((HB12.out.block _ (Array.getElem?_eq_some_iff.1 HP8.out).1).trans HP8.out); clear hb12)
        | (go_at_call 22; refine (height_any (HT.out.under HB12.out).tr HT.out.ok HHI.out).mono ?_; rintro e w13 ⟨rfl, hb13⟩; have HB13 := Lib.hid (HB12.out.trans (hb13.mono HB12.out.size)); clear hb13; rw [HH2.out]))
      have HB713 : Hid (Below W7.heap.size W7 w13) := Lib.hid (HB.out.trans (HB13.out.mono HB.out.size))
      clear c1
      have HDF : Hid (∀ u, Below w13.heap.size w13 u → Calls Try.prog 32 #[.pointer (some ⟨gA, 0, none⟩), .pointer (some ⟨gB, 0, none⟩)] u fun e W' => ∃ a n c, e = .returned (.slice a n c) ∧ Es (fun _ => True) W' a n c livE ∧ Below u.heap.size u W') := Lib.hid (fun u hu => by
        have h := diff_any ((HTA7.out.under HB713.out).under hu) ((HTB7.out.under HB713.out).under hu) (by rw [HLA2.out]; decide) (by rw [HLB2.out]; decide)
        rw [HLA2.out, HLB2.out, livE_eq] at h
        refine h.mono ?_
        rintro e W' ⟨v, rfl, hr, hb⟩
        obtain ⟨a, n, c, rfl, hp⟩ := Es.row hr
        exact ⟨a, n, c, rfl, ⟨hp.1, hp.2.dom (fun _ _ => trivial)⟩, hb⟩)
      go_upto_region 18 with fail
      have hal : Below w13.heap.size w13 (w13.alloc (.cells #[.string ⟨#[98]⟩, .string ⟨#[]⟩, .bool true, .string ⟨#[100]⟩, .string ⟨#[51]⟩, .bool false, .string ⟨#[101]⟩, .string ⟨#[52]⟩, .bool false] 61)) := (Below.refl _ w13).alloc (Nat.le_refl _) _
      have hes : Es (fun _ => True) (w13.alloc (.cells #[.string ⟨#[98]⟩, .string ⟨#[]⟩, .bool true, .string ⟨#[100]⟩, .string ⟨#[51]⟩, .bool false, .string ⟨#[101]⟩, .string ⟨#[52]⟩, .bool false] 61)) (some ⟨w13.heap.size, 0, none⟩) 3 3 livE := Es.new3 w13 ⟨⟨#[98]⟩, ⟨#[]⟩, true⟩ ⟨⟨#[100]⟩, ⟨#[51]⟩, false⟩ ⟨⟨#[101]⟩, ⟨#[52]⟩, false⟩
      obtain ⟨w14, hw14⟩ : ∃ z, z = w13.alloc (.cells #[.string ⟨#[98]⟩, .string ⟨#[]⟩, .bool true, .string ⟨#[100]⟩, .string ⟨#[51]⟩, .bool false, .string ⟨#[101]⟩, .string ⟨#[52]⟩, .bool false] 61) := ⟨_, rfl⟩
      rw [← hw14] at hal hes ⊢
      have HAL := Lib.hid hal
      have HES := Lib.hid hes
      clear hw14 hal hes
      have HSE : Hid (∀ (u : World) (a : Option Addr) (n c : Nat), Below w14.heap.size w14 u → Es (fun _ => True) u a n c livE → Calls Try.prog 33 #[.slice a n c, .slice (some ⟨w13.heap.size, 0, none⟩) 3 3] u fun e W' => e = .returned (.bool true) ∧ Below u.heap.size u W') := Lib.hid (fun u a n c hu hp => by
        have h := sameE_any hp (HES.out.below hu)
        rw [decide_eq_true rfl] at h
        exact h)
      have HL0 : Hid (∀ u, Below w14.heap.size w14 u → Calls Try.prog 23 #[.pointer (some ⟨g0, 0, none⟩)] u fun e W' => e = .returned (.int .i64 0) ∧ u = W') := Lib.hid (fun u hu => len_any (((HT07.out.under HB713.out).under HAL.out).under hu).tr)
      have HLA : Hid (∀ u, Below w14.heap.size w14 u → Calls Try.prog 23 #[.pointer (some ⟨gA, 0, none⟩)] u fun e W' => e = .returned (.int .i64 2) ∧ u = W') := Lib.hid (fun u hu => by
        have h := len_any (((HTA7.out.under HB713.out).under HAL.out).under hu).tr
        rw [HLA2.out] at h
        exact h)
      go_wp2_with (first
        | (go_at_call 32; refine (HDF.out _ HAL.out).mono ?_; rintro e w15 ⟨a2, n2, c2, rfl, hp2, hb2⟩; have HP2 := Lib.hid hp2; have HB2 := Lib.hid hb2; clear hp2 hb2)
        | (go_at_call 33; refine (HSE.out _ _ _ _ HB2.out HP2.out).mono ?_; rintro e w16 ⟨rfl, hb16⟩; have HB16 := Lib.hid (HB2.out.trans (hb16.mono HB2.out.size)); clear hb16)
        | (go_at_call_has 23 (Value.pointer (some ⟨g0, 0, none⟩)); refine (HL0.out _ HB16.out).mono ?_; rintro e w17 ⟨rfl, rfl⟩)
        | (go_at_call_has 23 (Value.pointer (some ⟨gA, 0, none⟩)); refine (HLA.out _ HB16.out).mono ?_; rintro e w17 ⟨rfl, rfl⟩))
      go_ret
      exact ⟨rfl, HBW7.out.trans ((HB713.out.trans ((HAL.out.trans (HB16.out.mono HAL.out.size)).mono HB713.out.size)).mono HBW7.out.size)⟩
end Go.Proofs.Ytfgmhidgkemfoaa
namespace Go.Proofs.Ytfgmhidgkemfoaa
open Go.RowKit
set_option linter.unusedSimpArgs false
set_option linter.unusedVariables false
def Dpm23 : List (Option Tmp) := [some 103, some 104, some 105, some 106, some 107, some 108, some 109, some 110, some 111, some 112, some 113, some 114, some 115, some 116, some 117, some 118, some 119]
def Lpm23 : List (List Nat) := [[], [0], [1], [2], [2], [2], [2], [5, 6, 2], [7, 2], [4, 8, 2], [2], [2], [10, 11, 2], [12, 2], [3, 9, 13, 2], [14, 2], [2, 15]]
def Dpm19 : List (Option Tmp) := [some 75, some 76, some 77, some 78, some 79, some 80, some 81, some 82, some 83, some 84, some 19]
def Lpm19 : List (List Nat) := [[], [], [], [1, 2], [3], [], [], [5, 6], [7], [0, 4, 8], [9]]
def Dpm18 : List (Option Tmp) := [some 65, some 66, some 67, some 68, some 69, some 70, some 71, some 72, some 73, some 74, some 18]
def Lpm18 : List (List Nat) := [[], [], [], [1, 2], [3], [], [], [5, 6], [7], [0, 4, 8], [9]]
theorem Ops.upto {D : Nat → Prop} {w : World} {a : Option Addr} {n c : Nat} {ms : List OpM} (h : Ops D w a n c ms) (k : Nat) (hk : k ≤ n) : Ops D w a k c (ms.take k) := by
  obtain ⟨h1, ⟨h2, h3, h4, h5, h6⟩, h7⟩ := h
  have e : opcells (ms.take k) = (opcells ms).take (k * 3) := by
    conv => rhs; rw [← List.take_append_drop k ms]
    have e2 : opcells (ms.take k ++ ms.drop k) = opcells (ms.take k) ++ opcells (ms.drop k) := by unfold opcells; rw [List.flatMap_append]
    have e3 : (opcells (ms.take k)).length = k * 3 := by rw [opcells_len, List.length_take]; congr 1; omega
    rw [e2, ← e3, List.take_left]
  refine ⟨by rw [List.length_take]; omega, ⟨by rw [opcells_len, List.length_take]; congr 1; omega, by omega, h4, h5, fun hp => ?_⟩, fun m hm => h7 m (List.mem_of_mem_take hm)⟩
  obtain ⟨b, off, hD, ha, hr⟩ := h6 (by omega)
  refine ⟨b, off, hD, ha, fun j u hu => hr j u ?_⟩
  rw [e, List.getElem?_take] at hu
  split at hu
  · exact hu
  · cases hu
/-- Put of any key and value -/
theorem put_all {w : World} {g : Nat} {t : Option BT} {H : Nat} (h : TT w g t H) (hlen : (treeL t).length ≤ 1000000) (key value : ByteArray) :
    Calls Try.prog 25 #[.pointer (some ⟨g, 0, none⟩), .string key, .string value] w fun e w' => ∃ g' t' H', e = .returned (.pointer (some ⟨g', 0, none⟩)) ∧ TT w' g' t' H' ∧ treeL t' = putR (treeL t) key value ∧ Below w.heap.size w w' := by
  by_cases hok : key.size ≤ 60 ∧ value.size ≤ 1000
  · refine (put_tree h hlen key value hok.1 hok.2).mono ?_
    rintro e w' ⟨g', t', H', rfl, h1, h2, -, -, h3⟩
    exact ⟨g', t', H', rfl, h1, by rw [h2, putR_ins h.so key value hok], h3⟩
  · refine (put_bad key value hok).mono ?_
    rintro e w' ⟨rfl, rfl⟩
    exact ⟨g, t, H, rfl, h, by rw [putR_bad _ _ _ hok], Below.refl _ _⟩
def strOf : Value → ByteArray
  | .string s => s
  | _ => ⟨#[]⟩
set_option maxRecDepth 100000 in
set_option maxHeartbeats 400000 in
theorem treepermits_any {D : Nat → Prop} {w : World} {a : Option Addr} {n c : Nat} {ms : List OpM} (h : Ops D w a n c ms) (key value : ByteArray) (hks : key.size ≤ 9223372036854775807) (hvs : value.size ≤ 9223372036854775807) (more : Int) (hm1 : -9223372036854775808 ≤ more) (hm2 : more ≤ 9223372036854775807) :
    Calls Try.prog 5 #[.slice a n c, .string key, .string value, .int .i64 more] w fun e w' => e = .returned (.bool true) ∧ Below w.heap.size w w' := by
  have HA1 := Lib.hid (fun u => aroundT_any more 20 u hm1 hm2 (by omega) (by omega))
  have HA2 := Lib.hid (fun u => aroundT_any more 10 u hm1 hm2 (by omega) (by omega))
  have hbd1 := aroundT_bd more 20 (by omega)
  have hbd2 := aroundT_bd more 10 (by omega)
  obtain ⟨p, hp⟩ : ∃ p : Nat, aroundT more 20 = (p : Int) := ⟨(aroundT more 20).toNat, by omega⟩
  obtain ⟨q, hq⟩ : ∃ q : Nat, aroundT more 10 = (q : Int) := ⟨(aroundT more 10).toNat, by omega⟩
  rw [hp] at HA1 hbd1
  rw [hq] at HA2 hbd2
  have hwp : IntKind.i64.wrap ((50 : Int) + (p : Int)) = ((50 + p : Nat) : Int) := by rw [i64_id _ (by omega) (by omega)]; omega
  have hwq : IntKind.i64.wrap ((995 : Int) + (q : Int)) = ((995 + q : Nat) : Int) := by rw [i64_id _ (by omega) (by omega)]; omega
  have hp20 : p < 20 := by omega
  have hq10 : q < 10 := by omega
  clear hp hq hbd1 hbd2 hm1 hm2
  obtain ⟨k0, hk0⟩ : ∃ k0, k0 = min n 20 := ⟨_, rfl⟩
  have hk0n : k0 ≤ n := by omega
  have HO := Lib.hid (h.upto k0 hk0n)
  have hc1 := h.2.1.2.1
  have hc2 : c ≤ 9223372036854775807 := h.2.1.2.2.1
  have hmin : min (n : Int) 20 = (k0 : Int) := by omega
  have hkc : (k0 : Int) ≤ (c : Int) := by omega
  have HK0 : Hid (k0 ≤ 20) := Lib.hid (by omega)
  have HL0 := Lib.hid h.1
  have HBU : Hid (∀ u, Below w.heap.size w u → Calls Try.prog 24 #[.slice a k0 c, .int .i64 10] u (Built u (ms.take k0) 10)) := Lib.hid (fun u hu => built_any (HO.out.below hu) (Nat.le_trans HK0.out (by omega)) 10 (by omega) (by omega))
  clear h hk0
  go_enter Try.func5, Try.ntmps5
  go_upto_region 2 with (go_at_call 24; refine (HBU.out _ (Below.refl _ _)).mono ?_; rintro e w1 ⟨g, t, H, ap, np, cp, rfl, htp, hl, hb1⟩; have HTP := Lib.hid htp; have HLT := Lib.hid hl; have HB1 := Lib.hid hb1; clear htp hl hb1)
  clear hmin hkc HBU HO
  have HPL0 : Hid ((treeL t).length ≤ 20) := Lib.hid (by
    rw [HLT.out]
    have h := chLs_len 10 (ms.take k0) (l := []) List.Pairwise.nil
    rw [List.length_take] at h
    simp only [List.length_nil] at h
    have := HK0.out
    omega)
  go_upto_region 4 with fail
  go_wp2
  go_loopw [12] (fun u wr => ∃ s : ByteArray, u = .string s ∧ s.size ≤ 9223372036854775807 ∧ wr = w1) (fun u _ => 100 - (strOf u).size)
  case atStart => exact ⟨key, rfl, hks, rfl⟩
  case round =>
    obtain ⟨s, rfl, hs, rfl⟩ := hrel
    by_cases hlt : s.size < 50 + p
    · have hlt2 : (s.size : Int) < ((50 + p : Nat) : Int) := by omega
      go_wp2_with (go_at_call 16; refine (HA1.out _).mono ?_; rintro e w2 ⟨rfl, rfl⟩)
      have hsz : (s ++ (⟨#[122]⟩ : ByteArray)).size = s.size + 1 := by rw [ByteArray.size_append]; rfl
      exact ⟨⟨_, rfl, by omega, trivial⟩, by simp only [strOf]; omega⟩
    · have hge : ¬ (s.size : Int) < ((50 + p : Nat) : Int) := by omega
      clear hlt
      go_wp2_with (go_at_call 16; refine (HA1.out _).mono ?_; rintro e w2 ⟨rfl, rfl⟩)
      clear hge
      go_loopw [13] (fun u wr2 => ∃ s2 : ByteArray, u = .string s2 ∧ s2.size ≤ 9223372036854775807 ∧ wr2 = wr) (fun u _ => 2000 - (strOf u).size)
      case atStart => exact ⟨value, rfl, hvs, rfl⟩
      case round =>
        obtain ⟨s2, rfl, hs2, rfl⟩ := hrel
        by_cases hlt : s2.size < 995 + q
        · have hlt2 : (s2.size : Int) < ((995 + q : Nat) : Int) := by omega
          go_wp2_with (go_at_call 16; refine (HA2.out _).mono ?_; rintro e w2 ⟨rfl, rfl⟩)
          have hsz : (s2 ++ (⟨#[121]⟩ : ByteArray)).size = s2.size + 1 := by rw [ByteArray.size_append]; rfl
          exact ⟨⟨_, rfl, by omega, trivial⟩, by simp only [strOf]; omega⟩
        · have hge : ¬ (s2.size : Int) < ((995 + q : Nat) : Int) := by omega
          clear hlt
          go_upto_region 10 with (go_at_call 16; refine (HA2.out _).mono ?_; rintro e w2 ⟨rfl, rfl⟩)
          clear hge HA1 HA2 hwp hwq hp20 hq10 hc1 hc2
          go_upto_region 12 with fail
          obtain ⟨W0, hW0⟩ : ∃ W0, W0 = (wr.alloc (.cells #[.string key, .string s, .string ⟨#[]⟩] 9)).alloc (.cells #[.string value, .string s2] 9) := ⟨_, rfl⟩
          obtain ⟨gk, hgk⟩ : ∃ gk, gk = wr.heap.size := ⟨_, rfl⟩
          obtain ⟨gv, hgv⟩ : ∃ gv, gv = wr.heap.size + 1 := ⟨_, rfl⟩
          have hbk : W0.heap[gk]? = some (.cells #[.string key, .string s, .string ⟨#[]⟩] 9 (0, 0)) := by rw [hW0, hgk]; exact heap_old (heap_new rfl)
          have hbv : W0.heap[gv]? = some (.cells #[.string value, .string s2] 9 (0, 0)) := by rw [hW0, hgv]; exact heap_new (by simp)
          have hb0 : Below wr.heap.size wr W0 := by rw [hW0]; exact ((Below.refl _ wr).alloc (Nat.le_refl _) _).alloc (by simp) _
          rw [← hW0, ← hgv, ← hgk]
          have HB0 := Lib.hid hb0
          have HCKS : Hid (∀ i : Nat, i < 3 → ∃ kk : ByteArray, kk.size ≤ 9223372036854775807 ∧ W0.cell? ⟨gk, i, none⟩ = some (.string kk)) := Lib.hid (fun i hi => by
            have : i = 0 ∨ i = 1 ∨ i = 2 := by omega
            rcases this with rfl | rfl | rfl
            · exact ⟨key, hks, cell_of_row W0 gk 0 _ _ _ hbk⟩
            · exact ⟨s, hs, cell_of_row W0 gk 1 _ _ _ hbk⟩
            · exact ⟨⟨#[]⟩, by show 0 ≤ 9223372036854775807; omega, cell_of_row W0 gk 2 _ _ _ hbk⟩)
          have HCVS : Hid (∀ i : Nat, i < 2 → ∃ va : ByteArray, va.size ≤ 9223372036854775807 ∧ W0.cell? ⟨gv, i, none⟩ = some (.string va)) := Lib.hid (fun i hi => by
            have : i = 0 ∨ i = 1 := by omega
            rcases this with rfl | rfl
            · exact ⟨value, hvs, cell_of_row W0 gv 0 _ _ _ hbv⟩
            · exact ⟨s2, hs2, cell_of_row W0 gv 1 _ _ _ hbv⟩)
          have HGK0 : Hid (gk < W0.heap.size) := Lib.hid (Array.getElem?_eq_some_iff.1 hbk).1
          have HGV0 : Hid (gv < W0.heap.size) := Lib.hid (Array.getElem?_eq_some_iff.1 hbv).1
          have HT0 := Lib.hid (HTP.out.tt.under hb0)
          have HP0 := Lib.hid (HTP.out.pp.below hb0)
          have HBW0 : Hid (Below w.heap.size w W0) := Lib.hid (HB1.out.trans (hb0.mono HB1.out.size))
          clear hW0 hgk hgv hbk hbv hb0 hks hvs hs hs2 HB0 HTP HB1
          go_wp2
          go_loopw [16] (fun x wr => ∃ i : Nat, x = .int .i64 (i : Int) ∧ i ≤ 3 ∧ Below W0.heap.size W0 wr) (fun x _ => 3 - (intOf x).toNat)
          case atStart => exact ⟨0, rfl, Nat.zero_le _, Below.refl _ _⟩
          case round =>
            obtain ⟨i, rfl, hi3, hbo⟩ := hrel
            have HBO := Lib.hid hbo
            clear hbo
            have hwi : IntKind.i64.wrap ((i : Int) + 1) = (i : Int) + 1 := i64_id _ (by omega) (by omega)
            by_cases hil : i < 3
            · have hil2 : (i : Int) < 3 := by omega
              obtain ⟨kk, hkk, hck⟩ := HCKS.out i hil
              have HKK := Lib.hid hkk
              have HCK0 := Lib.hid hck
              have HIL := Lib.hid hil
              have HI3 : Hid ((i : Int) < 3) := Lib.hid hil2
              have HI30 : Hid (0 ≤ (i : Int)) := Lib.hid (by omega)
              clear hkk hck hil
              go_wp2
              go_loopw [17] (fun x wr2 => ∃ k : Nat, x = .int .i64 (k : Int) ∧ k ≤ 2 ∧ Below W0.heap.size W0 wr2) (fun x _ => 2 - (intOf x).toNat)
              case atStart => exact ⟨0, rfl, Nat.zero_le _, HBO.out⟩
              case round =>
                clear HBO
                obtain ⟨k, rfl, hk2, hbi⟩ := hrel
                have HB := Lib.hid hbi
                clear hbi
                have hwk : IntKind.i64.wrap ((k : Int) + 1) = (k : Int) + 1 := i64_id _ (by omega) (by omega)
                by_cases hkl : k < 2
                · have hkl2 : (k : Int) < 2 := by omega
                  obtain ⟨va, hvv, hcv⟩ := HCVS.out k hkl
                  have HVV := Lib.hid hvv
                  have HCV0 := Lib.hid hcv
                  have HKL := Lib.hid hkl
                  have HK2 : Hid ((k : Int) < 2) := Lib.hid hkl2
                  have HK20 : Hid (0 ≤ (k : Int)) := Lib.hid (by omega)
                  have HCK : Hid (wr.cell? ⟨gk, i, none⟩ = some (.string kk)) := Lib.hid ((HB.out.cell (p := ⟨gk, i, none⟩) HGK0.out).trans HCK0.out)
                  have HGK : Hid (gk < wr.heap.size) := Lib.hid (Nat.lt_of_lt_of_le HGK0.out HB.out.size)
                  have HCV : Hid (wr.cell? ⟨gv, k, none⟩ = some (.string va)) := Lib.hid ((HB.out.cell (p := ⟨gv, k, none⟩) HGV0.out).trans HCV0.out)
                  have HGV : Hid (gv < wr.heap.size) := Lib.hid (Nat.lt_of_lt_of_le HGV0.out HB.out.size)
                  have HPL : Hid ((putR (treeL t) kk va).length ≤ 1000000) := Lib.hid (by
                    by_cases hok : kk.size ≤ 60 ∧ va.size ≤ 1000
                    · rw [putR_ins HT0.out.so kk va hok]
                      have := insL_len_le (p := ⟨kk, va⟩) HT0.out.so
                      have := HPL0.out
                      omega
                    · rw [putR_bad _ _ _ hok]
                      have := HPL0.out
                      omega)
                  have HPUT : Hid (∀ u, Below wr.heap.size wr u → Calls Try.prog 25 #[.pointer (some ⟨g, 0, none⟩), .string kk, .string va] u fun e w' => ∃ g' t' H', e = .returned (.pointer (some ⟨g', 0, none⟩)) ∧ TT w' g' t' H' ∧ treeL t' = putR (treeL t) kk va ∧ Below u.heap.size u w') := Lib.hid (fun u hu => put_all ((HT0.out.under HB.out).under hu) (Nat.le_trans HPL0.out (by omega)) kk va)
                  have HRPUT : Hid (∀ u, Below W0.heap.size W0 u → Calls Try.prog 26 #[.slice ap np cp, .string kk, .string va] u fun e w' => ∃ a' n' c', e = .returned (.slice a' n' c') ∧ Ps (fun _ => True) w' a' n' c' (putR (treeL t) kk va) ∧ Below u.heap.size u w') := Lib.hid (fun u hu => (refPut_any (HP0.out.below hu) (by have := HP0.out.1; have := HPL0.out; omega) kk va (by have := HKK.out; omega) (by have := HVV.out; omega)).mono (fun e w' h => by
                    obtain ⟨a', n', c', rfl, hp, hb⟩ := h
                    exact ⟨a', n', c', rfl, hp.dom (fun _ _ => trivial), hb⟩))
                  clear hvv hcv hkl
                  go_upto_region 18 with fail
                  refine Roll.region_f 10 121 Dpm18 Lpm18 [(9, .pointer (some ⟨g, 0, none⟩)), (10, .slice ap np cp), (14, .slice (some ⟨gk, 0, none⟩) 3 3), (15, .slice (some ⟨gv, 0, none⟩) 2 2), (16, .int .i64 (i : Int)), (17, .int .i64 (k : Int))] (fun p => Below wr.heap.size wr p) (fun p p2 => Below p.heap.size p p2) [fun vv p => vv = .pointer (some ⟨g, 0, none⟩), fun vv p => vv = .slice (some ⟨gk, 0, none⟩) 3 3, fun vv p => vv = .int .i64 (i : Int), fun vv p => vv = .pointer (some ⟨gk, i, none⟩), fun vv p => vv = .string kk, fun vv p => vv = .slice (some ⟨gv, 0, none⟩) 2 2, fun vv p => vv = .int .i64 (k : Int), fun vv p => vv = .pointer (some ⟨gv, k, none⟩), fun vv p => vv = .string va, fun vv p => ∃ (g' : Nat) (t' : Option BT) (H' : Nat), vv = .pointer (some ⟨g', 0, none⟩) ∧ TT p g' t' H' ∧ treeL t' = putR (treeL t) kk va] (by kernel_rfl) (by kernel_rfl) rfl ⟨rfl, rfl, rfl, rfl, rfl, rfl, trivial⟩ ((Below.refl _ _).drew) ?_ ?_ ?_
                  · exact ⟨fun _ _ _ _ h => h, fun _ _ _ _ h => h, fun _ _ _ _ h => h, fun _ _ _ _ h => h, fun _ _ _ _ h => h, fun _ _ _ _ h => h, fun _ _ _ _ h => h, fun _ _ _ _ h => h, fun _ _ _ _ h => h, fun _ _ _ hs h => by obtain ⟨g', t', H', e1, e2, e3⟩ := h; exact ⟨g', t', H', e1, e2.under hs, e3⟩, trivial⟩
                  · intro b0 hN hlv
                    refine ⟨?_, ?_, ?_, ?_, ?_, ?_, ?_, ?_, ?_, ?_, trivial⟩
                    · intro vs p hI hp
                      have e9 : (Roll.putD Dpm18 vs [] b0).eval (.tmp 9) = .pointer (some ⟨g, 0, none⟩) := (Roll.eval_old rfl).trans (hlv.at 0 (9, .pointer (some ⟨g, 0, none⟩)) rfl)
                      clear hp hlv hN
                      unfold Roll.Goes
                      simp only [Lpm18, List.getD_cons_zero, List.getD_cons_succ]
                      generalize Roll.putD Dpm18 vs [] b0 = a1 at *
                      refine Roll.goes_val (w' := p) (.pointer (some ⟨g, 0, none⟩)) rfl ?_ ⟨hI, Below.refl _ _, rfl⟩
                      (have ec : ∀ x, a1.eval (.const x) = x := fun _ => rfl); (have ef : ∀ x, a1.eval (.func x) = .func (.func x) #[] #[] := fun _ => rfl); generalize a1.eval = ρ at *
                      skip
                      go_simp <;> (intros; first | (exfalso; omega) | rfl | omega)
                    · intro vs p hI hp
                      have e14 : (Roll.putD Dpm18 vs [] b0).eval (.tmp 14) = .slice (some ⟨gk, 0, none⟩) 3 3 := (Roll.eval_old rfl).trans (hlv.at 2 (14, .slice (some ⟨gk, 0, none⟩) 3 3) rfl)
                      clear hp hlv hN
                      unfold Roll.Goes
                      simp only [Lpm18, List.getD_cons_zero, List.getD_cons_succ]
                      generalize Roll.putD Dpm18 vs [] b0 = a1 at *
                      refine Roll.goes_val (w' := p) (.slice (some ⟨gk, 0, none⟩) 3 3) rfl ?_ ⟨hI, Below.refl _ _, rfl⟩
                      (have ec : ∀ x, a1.eval (.const x) = x := fun _ => rfl); (have ef : ∀ x, a1.eval (.func x) = .func (.func x) #[] #[] := fun _ => rfl); generalize a1.eval = ρ at *
                      skip
                      go_simp <;> (intros; first | (exfalso; omega) | rfl | omega)
                    · intro vs p hI hp
                      have e16 : (Roll.putD Dpm18 vs [] b0).eval (.tmp 16) = .int .i64 (i : Int) := (Roll.eval_old rfl).trans (hlv.at 4 (16, .int .i64 (i : Int)) rfl)
                      clear hp hlv hN
                      unfold Roll.Goes
                      simp only [Lpm18, List.getD_cons_zero, List.getD_cons_succ]
                      generalize Roll.putD Dpm18 vs [] b0 = a1 at *
                      refine Roll.goes_val (w' := p) (.int .i64 (i : Int)) rfl ?_ ⟨hI, Below.refl _ _, rfl⟩
                      (have ec : ∀ x, a1.eval (.const x) = x := fun _ => rfl); (have ef : ∀ x, a1.eval (.func x) = .func (.func x) #[] #[] := fun _ => rfl); generalize a1.eval = ρ at *
                      skip
                      go_simp <;> (intros; first | (exfalso; omega) | rfl | omega)
                    · intro vs p hI hp
                      have h1 : (vs 1) = .slice (some ⟨gk, 0, none⟩) 3 3 := hp 1 (by simp [Lpm18])
                      have h2 : (vs 2) = .int .i64 (i : Int) := hp 2 (by simp [Lpm18])
                      have e66 : (Roll.putD Dpm18 vs [1, 2] b0).eval (.tmp 66) = .slice (some ⟨gk, 0, none⟩) 3 3 := (Roll.eval_new 1 rfl (by decide) (by decide) (by omega)).trans h1
                      have e67 : (Roll.putD Dpm18 vs [1, 2] b0).eval (.tmp 67) = .int .i64 (i : Int) := (Roll.eval_new 2 rfl (by decide) (by decide) (by omega)).trans h2
                      clear hp hlv hN
                      unfold Roll.Goes
                      simp only [Lpm18, List.getD_cons_zero, List.getD_cons_succ]
                      generalize Roll.putD Dpm18 vs [1, 2] b0 = a1 at *
                      have f1 := HI3.out
                      have f2 := HI30.out
                      refine Roll.goes_val (w' := p) (.pointer (some ⟨gk, i, none⟩)) rfl ?_ ⟨hI, Below.refl _ _, rfl⟩
                      (have ec : ∀ x, a1.eval (.const x) = x := fun _ => rfl); (have ef : ∀ x, a1.eval (.func x) = .func (.func x) #[] #[] := fun _ => rfl); generalize a1.eval = ρ at *
                      clear h1 h2
                      go_simp <;> (intros; first | (exfalso; omega) | rfl | omega)
                    · intro vs p hI hp
                      have h3 : (vs 3) = .pointer (some ⟨gk, i, none⟩) := hp 3 (by simp [Lpm18])
                      have e68 : (Roll.putD Dpm18 vs [3] b0).eval (.tmp 68) = .pointer (some ⟨gk, i, none⟩) := (Roll.eval_new 3 rfl (by decide) (by decide) (by omega)).trans h3
                      clear hp hlv hN
                      unfold Roll.Goes
                      simp only [Lpm18, List.getD_cons_zero, List.getD_cons_succ]
                      generalize Roll.putD Dpm18 vs [3] b0 = a1 at *
                      have cf : p.cell? ⟨gk, i, none⟩ = some (.string kk) := (hI.cell (p := ⟨gk, i, none⟩) HGK.out).trans HCK.out
                      refine Roll.goes_val (w' := p) (.string kk) rfl ?_ ⟨hI, Below.refl _ _, rfl⟩
                      (have ec : ∀ x, a1.eval (.const x) = x := fun _ => rfl); (have ef : ∀ x, a1.eval (.func x) = .func (.func x) #[] #[] := fun _ => rfl); generalize a1.eval = ρ at *
                      clear h3
                      go_simp <;> (intros; first | (exfalso; omega) | rfl | omega)
                    · intro vs p hI hp
                      have e15 : (Roll.putD Dpm18 vs [] b0).eval (.tmp 15) = .slice (some ⟨gv, 0, none⟩) 2 2 := (Roll.eval_old rfl).trans (hlv.at 3 (15, .slice (some ⟨gv, 0, none⟩) 2 2) rfl)
                      clear hp hlv hN
                      unfold Roll.Goes
                      simp only [Lpm18, List.getD_cons_zero, List.getD_cons_succ]
                      generalize Roll.putD Dpm18 vs [] b0 = a1 at *
                      refine Roll.goes_val (w' := p) (.slice (some ⟨gv, 0, none⟩) 2 2) rfl ?_ ⟨hI, Below.refl _ _, rfl⟩
                      (have ec : ∀ x, a1.eval (.const x) = x := fun _ => rfl); (have ef : ∀ x, a1.eval (.func x) = .func (.func x) #[] #[] := fun _ => rfl); generalize a1.eval = ρ at *
                      skip
                      go_simp <;> (intros; first | (exfalso; omega) | rfl | omega)
                    · intro vs p hI hp
                      have e17 : (Roll.putD Dpm18 vs [] b0).eval (.tmp 17) = .int .i64 (k : Int) := (Roll.eval_old rfl).trans (hlv.at 5 (17, .int .i64 (k : Int)) rfl)
                      clear hp hlv hN
                      unfold Roll.Goes
                      simp only [Lpm18, List.getD_cons_zero, List.getD_cons_succ]
                      generalize Roll.putD Dpm18 vs [] b0 = a1 at *
                      refine Roll.goes_val (w' := p) (.int .i64 (k : Int)) rfl ?_ ⟨hI, Below.refl _ _, rfl⟩
                      (have ec : ∀ x, a1.eval (.const x) = x := fun _ => rfl); (have ef : ∀ x, a1.eval (.func x) = .func (.func x) #[] #[] := fun _ => rfl); generalize a1.eval = ρ at *
                      skip
                      go_simp <;> (intros; first | (exfalso; omega) | rfl | omega)
                    · intro vs p hI hp
                      have h5 : (vs 5) = .slice (some ⟨gv, 0, none⟩) 2 2 := hp 5 (by simp [Lpm18])
                      have h6 : (vs 6) = .int .i64 (k : Int) := hp 6 (by simp [Lpm18])
                      have e70 : (Roll.putD Dpm18 vs [5, 6] b0).eval (.tmp 70) = .slice (some ⟨gv, 0, none⟩) 2 2 := (Roll.eval_new 5 rfl (by decide) (by decide) (by omega)).trans h5
                      have e71 : (Roll.putD Dpm18 vs [5, 6] b0).eval (.tmp 71) = .int .i64 (k : Int) := (Roll.eval_new 6 rfl (by decide) (by decide) (by omega)).trans h6
                      clear hp hlv hN
                      unfold Roll.Goes
                      simp only [Lpm18, List.getD_cons_zero, List.getD_cons_succ]
                      generalize Roll.putD Dpm18 vs [5, 6] b0 = a1 at *
                      have f1 := HK2.out
                      have f2 := HK20.out
                      refine Roll.goes_val (w' := p) (.pointer (some ⟨gv, k, none⟩)) rfl ?_ ⟨hI, Below.refl _ _, rfl⟩
                      (have ec : ∀ x, a1.eval (.const x) = x := fun _ => rfl); (have ef : ∀ x, a1.eval (.func x) = .func (.func x) #[] #[] := fun _ => rfl); generalize a1.eval = ρ at *
                      clear h5 h6
                      go_simp <;> (intros; first | (exfalso; omega) | rfl | omega)
                    · intro vs p hI hp
                      have h7 : (vs 7) = .pointer (some ⟨gv, k, none⟩) := hp 7 (by simp [Lpm18])
                      have e72 : (Roll.putD Dpm18 vs [7] b0).eval (.tmp 72) = .pointer (some ⟨gv, k, none⟩) := (Roll.eval_new 7 rfl (by decide) (by decide) (by omega)).trans h7
                      clear hp hlv hN
                      unfold Roll.Goes
                      simp only [Lpm18, List.getD_cons_zero, List.getD_cons_succ]
                      generalize Roll.putD Dpm18 vs [7] b0 = a1 at *
                      have cf : p.cell? ⟨gv, k, none⟩ = some (.string va) := (hI.cell (p := ⟨gv, k, none⟩) HGV.out).trans HCV.out
                      refine Roll.goes_val (w' := p) (.string va) rfl ?_ ⟨hI, Below.refl _ _, rfl⟩
                      (have ec : ∀ x, a1.eval (.const x) = x := fun _ => rfl); (have ef : ∀ x, a1.eval (.func x) = .func (.func x) #[] #[] := fun _ => rfl); generalize a1.eval = ρ at *
                      clear h7
                      go_simp <;> (intros; first | (exfalso; omega) | rfl | omega)
                    · intro vs p hI hp
                      have h0 : (vs 0) = .pointer (some ⟨g, 0, none⟩) := hp 0 (by simp [Lpm18])
                      have h4 : (vs 4) = .string kk := hp 4 (by simp [Lpm18])
                      have h8 : (vs 8) = .string va := hp 8 (by simp [Lpm18])
                      have e65 : (Roll.putD Dpm18 vs [0, 4, 8] b0).eval (.tmp 65) = .pointer (some ⟨g, 0, none⟩) := (Roll.eval_new 0 rfl (by decide) (by decide) (by omega)).trans h0
                      have e69 : (Roll.putD Dpm18 vs [0, 4, 8] b0).eval (.tmp 69) = .string kk := (Roll.eval_new 4 rfl (by decide) (by decide) (by omega)).trans h4
                      have e73 : (Roll.putD Dpm18 vs [0, 4, 8] b0).eval (.tmp 73) = .string va := (Roll.eval_new 8 rfl (by decide) (by decide) (by omega)).trans h8
                      clear hp hlv hN
                      unfold Roll.Goes
                      simp only [Lpm18, List.getD_cons_zero, List.getD_cons_succ]
                      generalize Roll.putD Dpm18 vs [0, 4, 8] b0 = a1 at *
                      refine Roll.goes_call 25 #[.pointer (some ⟨g, 0, none⟩), .string kk, .string va] p rfl (by have ec : ∀ x, a1.eval (.const x) = x := fun _ => rfl; have ef : ∀ x, a1.eval (.func x) = .func (.func x) #[] #[] := fun _ => rfl; generalize a1.eval = ρ at *; go_simp) ?_
                      refine (HPUT.out p hI).mono ?_
                      rintro y p2 ⟨g', t', H', rfl, ht', hl', hb2⟩
                      exact ⟨_, rfl, hI.trans (hb2.mono hI.size), hb2, g', t', H', rfl, ht', hl'⟩
                  · intro vs p hI hR
                    have h0 : (vs 0) = .pointer (some ⟨g, 0, none⟩) := hR 0 (by omega)
                    have h1 : (vs 1) = .slice (some ⟨gk, 0, none⟩) 3 3 := hR 1 (by omega)
                    have h2 : (vs 2) = .int .i64 (i : Int) := hR 2 (by omega)
                    have h3 : (vs 3) = .pointer (some ⟨gk, i, none⟩) := hR 3 (by omega)
                    have h4 : (vs 4) = .string kk := hR 4 (by omega)
                    have h5 : (vs 5) = .slice (some ⟨gv, 0, none⟩) 2 2 := hR 5 (by omega)
                    have h6 : (vs 6) = .int .i64 (k : Int) := hR 6 (by omega)
                    have h7 : (vs 7) = .pointer (some ⟨gv, k, none⟩) := hR 7 (by omega)
                    have h8 : (vs 8) = .string va := hR 8 (by omega)
                    have h9 : ∃ (g' : Nat) (t' : Option BT) (H' : Nat), (vs 9) = .pointer (some ⟨g', 0, none⟩) ∧ TT p g' t' H' ∧ treeL t' = putR (treeL t) kk va := hR 9 (by omega)
                    clear hR
                    simp only [List.range_succ, List.range_zero, List.nil_append, List.cons_append, Roll.putD, Act.put, List.getD_cons_zero, List.getD_cons_succ, List.setIfInBounds_toArray, List.set_cons_zero, List.set_cons_succ, List.drop_succ_cons, List.drop_zero, Dpm18]
                    simp only [h0, h1, h2, h3, h4, h5, h6, h7, h8]
                    clear h0 h1 h2 h3 h4 h5 h6 h7 h8
                    generalize vs 9 = v9 at *
                    obtain ⟨gu, tu, Hu, rfl, htu, hlu⟩ := h9
                    obtain ⟨p18, hp18⟩ : ∃ z, z = p := ⟨_, rfl⟩
                    subst hp18
                    have HTU := Lib.hid htu
                    have HLU := Lib.hid hlu
                    have HBp18 : Hid (Below W0.heap.size W0 p18) := Lib.hid (HB.out.trans (hI.mono HB.out.size))
                    have HCK : Hid (p18.cell? ⟨gk, i, none⟩ = some (.string kk)) := Lib.hid ((HBp18.out.cell (p := ⟨gk, i, none⟩) HGK0.out).trans HCK0.out)
                    have HGK : Hid (gk < p18.heap.size) := Lib.hid (Nat.lt_of_lt_of_le HGK0.out HBp18.out.size)
                    have HCV : Hid (p18.cell? ⟨gv, k, none⟩ = some (.string va)) := Lib.hid ((HBp18.out.cell (p := ⟨gv, k, none⟩) HGV0.out).trans HCV0.out)
                    have HGV : Hid (gv < p18.heap.size) := Lib.hid (Nat.lt_of_lt_of_le HGV0.out HBp18.out.size)
                    clear htu hlu hI
                    go_wp2_with fail
                    refine Roll.region_f 10 121 Dpm19 Lpm19 [(9, .pointer (some ⟨g, 0, none⟩)), (10, .slice ap np cp), (14, .slice (some ⟨gk, 0, none⟩) 3 3), (15, .slice (some ⟨gv, 0, none⟩) 2 2), (16, .int .i64 (i : Int)), (17, .int .i64 (k : Int))] (fun p => Below p18.heap.size p18 p) (fun p p2 => Below p.heap.size p p2) [fun vv p => vv = .slice ap np cp, fun vv p => vv = .slice (some ⟨gk, 0, none⟩) 3 3, fun vv p => vv = .int .i64 (i : Int), fun vv p => vv = .pointer (some ⟨gk, i, none⟩), fun vv p => vv = .string kk, fun vv p => vv = .slice (some ⟨gv, 0, none⟩) 2 2, fun vv p => vv = .int .i64 (k : Int), fun vv p => vv = .pointer (some ⟨gv, k, none⟩), fun vv p => vv = .string va, fun vv p => ∃ (a' : Option Addr) (n' c' : Nat), vv = .slice a' n' c' ∧ Ps (fun _ => True) p a' n' c' (putR (treeL t) kk va)] (by kernel_rfl) (by kernel_rfl) rfl ⟨rfl, rfl, rfl, rfl, rfl, rfl, trivial⟩ ((Below.refl _ _).drew) ?_ ?_ ?_
                    · exact ⟨fun _ _ _ _ h => h, fun _ _ _ _ h => h, fun _ _ _ _ h => h, fun _ _ _ _ h => h, fun _ _ _ _ h => h, fun _ _ _ _ h => h, fun _ _ _ _ h => h, fun _ _ _ _ h => h, fun _ _ _ _ h => h, fun _ _ _ hs h => by obtain ⟨a', n', c', e1, e2⟩ := h; exact ⟨a', n', c', e1, e2.below hs⟩, trivial⟩
                    · intro b0 hN hlv
                      refine ⟨?_, ?_, ?_, ?_, ?_, ?_, ?_, ?_, ?_, ?_, trivial⟩
                      · intro vs p hI hp
                        have e10 : (Roll.putD Dpm19 vs [] b0).eval (.tmp 10) = .slice ap np cp := (Roll.eval_old rfl).trans (hlv.at 1 (10, .slice ap np cp) rfl)
                        clear hp hlv hN
                        unfold Roll.Goes
                        simp only [Lpm19, List.getD_cons_zero, List.getD_cons_succ]
                        generalize Roll.putD Dpm19 vs [] b0 = a1 at *
                        refine Roll.goes_val (w' := p) (.slice ap np cp) rfl ?_ ⟨hI, Below.refl _ _, rfl⟩
                        (have ec : ∀ x, a1.eval (.const x) = x := fun _ => rfl); (have ef : ∀ x, a1.eval (.func x) = .func (.func x) #[] #[] := fun _ => rfl); generalize a1.eval = ρ at *
                        skip
                        go_simp <;> (intros; first | (exfalso; omega) | rfl | omega)
                      · intro vs p hI hp
                        have e14 : (Roll.putD Dpm19 vs [] b0).eval (.tmp 14) = .slice (some ⟨gk, 0, none⟩) 3 3 := (Roll.eval_old rfl).trans (hlv.at 2 (14, .slice (some ⟨gk, 0, none⟩) 3 3) rfl)
                        clear hp hlv hN
                        unfold Roll.Goes
                        simp only [Lpm19, List.getD_cons_zero, List.getD_cons_succ]
                        generalize Roll.putD Dpm19 vs [] b0 = a1 at *
                        refine Roll.goes_val (w' := p) (.slice (some ⟨gk, 0, none⟩) 3 3) rfl ?_ ⟨hI, Below.refl _ _, rfl⟩
                        (have ec : ∀ x, a1.eval (.const x) = x := fun _ => rfl); (have ef : ∀ x, a1.eval (.func x) = .func (.func x) #[] #[] := fun _ => rfl); generalize a1.eval = ρ at *
                        skip
                        go_simp <;> (intros; first | (exfalso; omega) | rfl | omega)
                      · intro vs p hI hp
                        have e16 : (Roll.putD Dpm19 vs [] b0).eval (.tmp 16) = .int .i64 (i : Int) := (Roll.eval_old rfl).trans (hlv.at 4 (16, .int .i64 (i : Int)) rfl)
                        clear hp hlv hN
                        unfold Roll.Goes
                        simp only [Lpm19, List.getD_cons_zero, List.getD_cons_succ]
                        generalize Roll.putD Dpm19 vs [] b0 = a1 at *
                        refine Roll.goes_val (w' := p) (.int .i64 (i : Int)) rfl ?_ ⟨hI, Below.refl _ _, rfl⟩
                        (have ec : ∀ x, a1.eval (.const x) = x := fun _ => rfl); (have ef : ∀ x, a1.eval (.func x) = .func (.func x) #[] #[] := fun _ => rfl); generalize a1.eval = ρ at *
                        skip
                        go_simp <;> (intros; first | (exfalso; omega) | rfl | omega)
                      · intro vs p hI hp
                        have h1 : (vs 1) = .slice (some ⟨gk, 0, none⟩) 3 3 := hp 1 (by simp [Lpm19])
                        have h2 : (vs 2) = .int .i64 (i : Int) := hp 2 (by simp [Lpm19])
                        have e76 : (Roll.putD Dpm19 vs [1, 2] b0).eval (.tmp 76) = .slice (some ⟨gk, 0, none⟩) 3 3 := (Roll.eval_new 1 rfl (by decide) (by decide) (by omega)).trans h1
                        have e77 : (Roll.putD Dpm19 vs [1, 2] b0).eval (.tmp 77) = .int .i64 (i : Int) := (Roll.eval_new 2 rfl (by decide) (by decide) (by omega)).trans h2
                        clear hp hlv hN
                        unfold Roll.Goes
                        simp only [Lpm19, List.getD_cons_zero, List.getD_cons_succ]
                        generalize Roll.putD Dpm19 vs [1, 2] b0 = a1 at *
                        have f1 := HI3.out
                        have f2 := HI30.out
                        refine Roll.goes_val (w' := p) (.pointer (some ⟨gk, i, none⟩)) rfl ?_ ⟨hI, Below.refl _ _, rfl⟩
                        (have ec : ∀ x, a1.eval (.const x) = x := fun _ => rfl); (have ef : ∀ x, a1.eval (.func x) = .func (.func x) #[] #[] := fun _ => rfl); generalize a1.eval = ρ at *
                        clear h1 h2
                        go_simp <;> (intros; first | (exfalso; omega) | rfl | omega)
                      · intro vs p hI hp
                        have h3 : (vs 3) = .pointer (some ⟨gk, i, none⟩) := hp 3 (by simp [Lpm19])
                        have e78 : (Roll.putD Dpm19 vs [3] b0).eval (.tmp 78) = .pointer (some ⟨gk, i, none⟩) := (Roll.eval_new 3 rfl (by decide) (by decide) (by omega)).trans h3
                        clear hp hlv hN
                        unfold Roll.Goes
                        simp only [Lpm19, List.getD_cons_zero, List.getD_cons_succ]
                        generalize Roll.putD Dpm19 vs [3] b0 = a1 at *
                        have cf : p.cell? ⟨gk, i, none⟩ = some (.string kk) := (hI.cell (p := ⟨gk, i, none⟩) HGK.out).trans HCK.out
                        refine Roll.goes_val (w' := p) (.string kk) rfl ?_ ⟨hI, Below.refl _ _, rfl⟩
                        (have ec : ∀ x, a1.eval (.const x) = x := fun _ => rfl); (have ef : ∀ x, a1.eval (.func x) = .func (.func x) #[] #[] := fun _ => rfl); generalize a1.eval = ρ at *
                        clear h3
                        go_simp <;> (intros; first | (exfalso; omega) | rfl | omega)
                      · intro vs p hI hp
                        have e15 : (Roll.putD Dpm19 vs [] b0).eval (.tmp 15) = .slice (some ⟨gv, 0, none⟩) 2 2 := (Roll.eval_old rfl).trans (hlv.at 3 (15, .slice (some ⟨gv, 0, none⟩) 2 2) rfl)
                        clear hp hlv hN
                        unfold Roll.Goes
                        simp only [Lpm19, List.getD_cons_zero, List.getD_cons_succ]
                        generalize Roll.putD Dpm19 vs [] b0 = a1 at *
                        refine Roll.goes_val (w' := p) (.slice (some ⟨gv, 0, none⟩) 2 2) rfl ?_ ⟨hI, Below.refl _ _, rfl⟩
                        (have ec : ∀ x, a1.eval (.const x) = x := fun _ => rfl); (have ef : ∀ x, a1.eval (.func x) = .func (.func x) #[] #[] := fun _ => rfl); generalize a1.eval = ρ at *
                        skip
                        go_simp <;> (intros; first | (exfalso; omega) | rfl | omega)
                      · intro vs p hI hp
                        have e17 : (Roll.putD Dpm19 vs [] b0).eval (.tmp 17) = .int .i64 (k : Int) := (Roll.eval_old rfl).trans (hlv.at 5 (17, .int .i64 (k : Int)) rfl)
                        clear hp hlv hN
                        unfold Roll.Goes
                        simp only [Lpm19, List.getD_cons_zero, List.getD_cons_succ]
                        generalize Roll.putD Dpm19 vs [] b0 = a1 at *
                        refine Roll.goes_val (w' := p) (.int .i64 (k : Int)) rfl ?_ ⟨hI, Below.refl _ _, rfl⟩
                        (have ec : ∀ x, a1.eval (.const x) = x := fun _ => rfl); (have ef : ∀ x, a1.eval (.func x) = .func (.func x) #[] #[] := fun _ => rfl); generalize a1.eval = ρ at *
                        skip
                        go_simp <;> (intros; first | (exfalso; omega) | rfl | omega)
                      · intro vs p hI hp
                        have h5 : (vs 5) = .slice (some ⟨gv, 0, none⟩) 2 2 := hp 5 (by simp [Lpm19])
                        have h6 : (vs 6) = .int .i64 (k : Int) := hp 6 (by simp [Lpm19])
                        have e80 : (Roll.putD Dpm19 vs [5, 6] b0).eval (.tmp 80) = .slice (some ⟨gv, 0, none⟩) 2 2 := (Roll.eval_new 5 rfl (by decide) (by decide) (by omega)).trans h5
                        have e81 : (Roll.putD Dpm19 vs [5, 6] b0).eval (.tmp 81) = .int .i64 (k : Int) := (Roll.eval_new 6 rfl (by decide) (by decide) (by omega)).trans h6
                        clear hp hlv hN
                        unfold Roll.Goes
                        simp only [Lpm19, List.getD_cons_zero, List.getD_cons_succ]
                        generalize Roll.putD Dpm19 vs [5, 6] b0 = a1 at *
                        have f1 := HK2.out
                        have f2 := HK20.out
                        refine Roll.goes_val (w' := p) (.pointer (some ⟨gv, k, none⟩)) rfl ?_ ⟨hI, Below.refl _ _, rfl⟩
                        (have ec : ∀ x, a1.eval (.const x) = x := fun _ => rfl); (have ef : ∀ x, a1.eval (.func x) = .func (.func x) #[] #[] := fun _ => rfl); generalize a1.eval = ρ at *
                        clear h5 h6
                        go_simp <;> (intros; first | (exfalso; omega) | rfl | omega)
                      · intro vs p hI hp
                        have h7 : (vs 7) = .pointer (some ⟨gv, k, none⟩) := hp 7 (by simp [Lpm19])
                        have e82 : (Roll.putD Dpm19 vs [7] b0).eval (.tmp 82) = .pointer (some ⟨gv, k, none⟩) := (Roll.eval_new 7 rfl (by decide) (by decide) (by omega)).trans h7
                        clear hp hlv hN
                        unfold Roll.Goes
                        simp only [Lpm19, List.getD_cons_zero, List.getD_cons_succ]
                        generalize Roll.putD Dpm19 vs [7] b0 = a1 at *
                        have cf : p.cell? ⟨gv, k, none⟩ = some (.string va) := (hI.cell (p := ⟨gv, k, none⟩) HGV.out).trans HCV.out
                        refine Roll.goes_val (w' := p) (.string va) rfl ?_ ⟨hI, Below.refl _ _, rfl⟩
                        (have ec : ∀ x, a1.eval (.const x) = x := fun _ => rfl); (have ef : ∀ x, a1.eval (.func x) = .func (.func x) #[] #[] := fun _ => rfl); generalize a1.eval = ρ at *
                        clear h7
                        go_simp <;> (intros; first | (exfalso; omega) | rfl | omega)
                      · intro vs p hI hp
                        have h0 : (vs 0) = .slice ap np cp := hp 0 (by simp [Lpm19])
                        have h4 : (vs 4) = .string kk := hp 4 (by simp [Lpm19])
                        have h8 : (vs 8) = .string va := hp 8 (by simp [Lpm19])
                        have e75 : (Roll.putD Dpm19 vs [0, 4, 8] b0).eval (.tmp 75) = .slice ap np cp := (Roll.eval_new 0 rfl (by decide) (by decide) (by omega)).trans h0
                        have e79 : (Roll.putD Dpm19 vs [0, 4, 8] b0).eval (.tmp 79) = .string kk := (Roll.eval_new 4 rfl (by decide) (by decide) (by omega)).trans h4
                        have e83 : (Roll.putD Dpm19 vs [0, 4, 8] b0).eval (.tmp 83) = .string va := (Roll.eval_new 8 rfl (by decide) (by decide) (by omega)).trans h8
                        clear hp hlv hN
                        unfold Roll.Goes
                        simp only [Lpm19, List.getD_cons_zero, List.getD_cons_succ]
                        generalize Roll.putD Dpm19 vs [0, 4, 8] b0 = a1 at *
                        refine Roll.goes_call 26 #[.slice ap np cp, .string kk, .string va] p rfl (by have ec : ∀ x, a1.eval (.const x) = x := fun _ => rfl; have ef : ∀ x, a1.eval (.func x) = .func (.func x) #[] #[] := fun _ => rfl; generalize a1.eval = ρ at *; go_simp) ?_
                        refine (HRPUT.out p (HBp18.out.trans (hI.mono HBp18.out.size))).mono ?_
                        rintro y p2 ⟨a', n', c', rfl, hp', hb2⟩
                        exact ⟨_, rfl, hI.trans (hb2.mono hI.size), hb2, a', n', c', rfl, hp'⟩
                    · intro vs p hI hR
                      have h0 : (vs 0) = .slice ap np cp := hR 0 (by omega)
                      have h1 : (vs 1) = .slice (some ⟨gk, 0, none⟩) 3 3 := hR 1 (by omega)
                      have h2 : (vs 2) = .int .i64 (i : Int) := hR 2 (by omega)
                      have h3 : (vs 3) = .pointer (some ⟨gk, i, none⟩) := hR 3 (by omega)
                      have h4 : (vs 4) = .string kk := hR 4 (by omega)
                      have h5 : (vs 5) = .slice (some ⟨gv, 0, none⟩) 2 2 := hR 5 (by omega)
                      have h6 : (vs 6) = .int .i64 (k : Int) := hR 6 (by omega)
                      have h7 : (vs 7) = .pointer (some ⟨gv, k, none⟩) := hR 7 (by omega)
                      have h8 : (vs 8) = .string va := hR 8 (by omega)
                      have h9 : ∃ (a' : Option Addr) (n' c' : Nat), (vs 9) = .slice a' n' c' ∧ Ps (fun _ => True) p a' n' c' (putR (treeL t) kk va) := hR 9 (by omega)
                      clear hR
                      simp only [List.range_succ, List.range_zero, List.nil_append, List.cons_append, Roll.putD, Act.put, List.getD_cons_zero, List.getD_cons_succ, List.setIfInBounds_toArray, List.set_cons_zero, List.set_cons_succ, List.drop_succ_cons, List.drop_zero, Dpm19]
                      simp only [h0, h1, h2, h3, h4, h5, h6, h7, h8]
                      clear h0 h1 h2 h3 h4 h5 h6 h7 h8
                      generalize vs 9 = v9 at *
                      obtain ⟨aq, nq, cq, rfl, hpq⟩ := h9
                      obtain ⟨p19, hp19⟩ : ∃ z, z = p := ⟨_, rfl⟩
                      subst hp19
                      have HPQ := Lib.hid hpq
                      have HTU2 := Lib.hid (HTU.out.under hI)
                      have HB19 : Hid (Below W0.heap.size W0 p19) := Lib.hid (HBp18.out.trans (hI.mono HBp18.out.size))
                      clear hpq hI
                      have ck : p19.cell? ⟨gk, i, none⟩ = some (.string kk) := (HB19.out.cell (p := ⟨gk, i, none⟩) HGK0.out).trans HCK0.out
                      have f1 := HI3.out
                      have f2 := HI30.out
                      have HAG : Hid (Calls Try.prog 18 #[.pointer (some ⟨gu, 0, none⟩), .slice aq nq cq, .string kk, .string ⟨#[]⟩] p19 fun e w' => e = .returned (.bool true) ∧ Below p19.heap.size p19 w') := Lib.hid (agrees_any HTU2.out (by rw [HLU.out]; exact HPQ.out) (by rw [HLU.out]; exact HPL.out) kk ⟨#[]⟩)
                      go_upto_region 22 with (go_at_call 18; refine HAG.out.mono ?_; rintro e p20 ⟨rfl, hb20⟩; have HB20 := Lib.hid hb20; clear hb20)
                      clear ck
                      have ck : p20.cell? ⟨gk, i, none⟩ = some (.string kk) := ((HB19.out.trans (HB20.out.mono HB19.out.size)).cell (p := ⟨gk, i, none⟩) HGK0.out).trans HCK0.out
                      go_upto_region 23 with (go_at_call 27; refine (del_tree (HTU2.out.under HB20.out) (by rw [HLU.out]; exact HPL.out) kk).mono ?_; rintro e p22 ⟨gd, td, Hd, rfl, htd, hld, -, -, hb22⟩; have HTD := Lib.hid htd; have HLD := Lib.hid hld; have HB2022 := Lib.hid (HB20.out.trans (hb22.mono HB20.out.size)); clear htd hld hb22)
                      clear ck f1 f2
                      have HB22 : Hid (Below W0.heap.size W0 p22) := Lib.hid (HB19.out.trans (HB2022.out.mono HB19.out.size))
                      have HCK : Hid (p22.cell? ⟨gk, i, none⟩ = some (.string kk)) := Lib.hid ((HB22.out.cell (p := ⟨gk, i, none⟩) HGK0.out).trans HCK0.out)
                      have HGK : Hid (gk < p22.heap.size) := Lib.hid (Nat.lt_of_lt_of_le HGK0.out HB22.out.size)
                      have HRDEL : Hid (∀ u, Below p22.heap.size p22 u → Calls Try.prog 28 #[.slice aq nq cq, .string kk] u fun e w' => ∃ a' n' c', e = .returned (.slice a' n' c') ∧ Ps (fun _ => True) w' a' n' c' (treeL td) ∧ Below u.heap.size u w') := Lib.hid (fun u hu => (refDelete_any ((HPQ.out.below HB2022.out).below hu) (by have := HPQ.out.1; have := HPL.out; omega) kk).mono (fun e w' h => by
                        obtain ⟨v, rfl, hr, hb⟩ := h
                        obtain ⟨a', n', c', rfl, hp⟩ := Ps.row hr
                        rw [delR_del, ← HLU.out, ← HLD.out] at hp
                        exact ⟨a', n', c', rfl, hp.dom (fun _ _ => trivial), hb⟩))
                      have HAGD : Hid (∀ u a' n' c', Below p22.heap.size p22 u → Ps (fun _ => True) u a' n' c' (treeL td) → Calls Try.prog 18 #[.pointer (some ⟨gd, 0, none⟩), .slice a' n' c', .string kk, .string ⟨#[]⟩] u fun e w' => e = .returned (.bool true) ∧ Below u.heap.size u w') := Lib.hid (fun u a' n' c' hu hp => agrees_any (HTD.out.under hu) hp (by rw [HLD.out, HLU.out]; exact Nat.le_trans (delL_le _ _) HPL.out) kk ⟨#[]⟩)
                      refine Roll.region_f 17 121 Dpm23 Lpm23 [(9, .pointer (some ⟨g, 0, none⟩)), (10, .slice ap np cp), (14, .slice (some ⟨gk, 0, none⟩) 3 3), (15, .slice (some ⟨gv, 0, none⟩) 2 2), (16, .int .i64 (i : Int)), (17, .int .i64 (k : Int)), (19, .slice aq nq cq), (20, .pointer (some ⟨gd, 0, none⟩))] (fun p => Below p22.heap.size p22 p) (fun p p2 => Below p.heap.size p p2) [fun vv p => vv = .pointer (some ⟨gd, 0, none⟩), fun vv p => vv = .bool false, fun vv p => vv = .bool false, fun vv p => vv = .pointer (some ⟨gd, 0, none⟩), fun vv p => vv = .slice aq nq cq, fun vv p => vv = .slice (some ⟨gk, 0, none⟩) 3 3, fun vv p => vv = .int .i64 (i : Int), fun vv p => vv = .pointer (some ⟨gk, i, none⟩), fun vv p => vv = .string kk, fun vv p => ∃ (a' : Option Addr) (n' c' : Nat), vv = .slice a' n' c' ∧ Ps (fun _ => True) p a' n' c' (treeL td), fun vv p => vv = .slice (some ⟨gk, 0, none⟩) 3 3, fun vv p => vv = .int .i64 (i : Int), fun vv p => vv = .pointer (some ⟨gk, i, none⟩), fun vv p => vv = .string kk, fun vv p => vv = .bool true, fun vv p => vv = .bool false, fun vv p => vv = .bool false] (by kernel_rfl) (by kernel_rfl) rfl ⟨rfl, rfl, rfl, rfl, rfl, rfl, rfl, rfl, trivial⟩ ((Below.refl _ _).drew) ?_ ?_ ?_
                      · exact ⟨fun _ _ _ _ h => h, fun _ _ _ _ h => h, fun _ _ _ _ h => h, fun _ _ _ _ h => h, fun _ _ _ _ h => h, fun _ _ _ _ h => h, fun _ _ _ _ h => h, fun _ _ _ _ h => h, fun _ _ _ _ h => h, fun _ _ _ hs h => by obtain ⟨a', n', c', e1, e2⟩ := h; exact ⟨a', n', c', e1, e2.below hs⟩, fun _ _ _ _ h => h, fun _ _ _ _ h => h, fun _ _ _ _ h => h, fun _ _ _ _ h => h, fun _ _ _ _ h => h, fun _ _ _ _ h => h, fun _ _ _ _ h => h, trivial⟩
                      · intro b0 hN hlv
                        refine ⟨?_, ?_, ?_, ?_, ?_, ?_, ?_, ?_, ?_, ?_, ?_, ?_, ?_, ?_, ?_, ?_, ?_, trivial⟩
                        · intro vs p hI hp
                          have e20 : (Roll.putD Dpm23 vs [] b0).eval (.tmp 20) = .pointer (some ⟨gd, 0, none⟩) := (Roll.eval_old rfl).trans (hlv.at 7 (20, .pointer (some ⟨gd, 0, none⟩)) rfl)
                          clear hp hlv hN
                          unfold Roll.Goes
                          simp only [Lpm23, List.getD_cons_zero, List.getD_cons_succ]
                          generalize Roll.putD Dpm23 vs [] b0 = a1 at *
                          refine Roll.goes_val (w' := p) (.pointer (some ⟨gd, 0, none⟩)) rfl ?_ ⟨hI, Below.refl _ _, rfl⟩
                          (have ec : ∀ x, a1.eval (.const x) = x := fun _ => rfl); (have ef : ∀ x, a1.eval (.func x) = .func (.func x) #[] #[] := fun _ => rfl); generalize a1.eval = ρ at *
                          skip
                          go_simp <;> (intros; first | (exfalso; omega) | rfl | omega)
                        · intro vs p hI hp
                          have h0 : (vs 0) = .pointer (some ⟨gd, 0, none⟩) := hp 0 (by simp [Lpm23])
                          have e103 : (Roll.putD Dpm23 vs [0] b0).eval (.tmp 103) = .pointer (some ⟨gd, 0, none⟩) := (Roll.eval_new 0 rfl (by decide) (by decide) (by omega)).trans h0
                          clear hp hlv hN
                          unfold Roll.Goes
                          simp only [Lpm23, List.getD_cons_zero, List.getD_cons_succ]
                          generalize Roll.putD Dpm23 vs [0] b0 = a1 at *
                          refine Roll.goes_val (w' := p) (.bool false) rfl ?_ ⟨hI, Below.refl _ _, rfl⟩
                          (have ec : ∀ x, a1.eval (.const x) = x := fun _ => rfl); (have ef : ∀ x, a1.eval (.func x) = .func (.func x) #[] #[] := fun _ => rfl); generalize a1.eval = ρ at *
                          clear h0
                          go_simp <;> (intros; first | (exfalso; omega) | rfl | omega)
                        · intro vs p hI hp
                          have h1 : (vs 1) = .bool false := hp 1 (by simp [Lpm23])
                          have e104 : (Roll.putD Dpm23 vs [1] b0).eval (.tmp 104) = .bool false := (Roll.eval_new 1 rfl (by decide) (by decide) (by omega)).trans h1
                          clear hp hlv hN
                          unfold Roll.Goes
                          simp only [Lpm23, List.getD_cons_zero, List.getD_cons_succ]
                          generalize Roll.putD Dpm23 vs [1] b0 = a1 at *
                          refine Roll.goes_val (w' := p) (.bool false) rfl ?_ ⟨hI, Below.refl _ _, rfl⟩
                          (have ec : ∀ x, a1.eval (.const x) = x := fun _ => rfl); (have ef : ∀ x, a1.eval (.func x) = .func (.func x) #[] #[] := fun _ => rfl); generalize a1.eval = ρ at *
                          clear h1
                          go_simp <;> (intros; first | (exfalso; omega) | rfl | omega)
                        · intro vs p hI hp
                          have h2 : (vs 2) = .bool false := hp 2 (by simp [Lpm23])
                          have e20 : (Roll.putD Dpm23 vs [2] b0).eval (.tmp 20) = .pointer (some ⟨gd, 0, none⟩) := (Roll.eval_old rfl).trans (hlv.at 7 (20, .pointer (some ⟨gd, 0, none⟩)) rfl)
                          clear hp hlv hN
                          refine ⟨fun hg => ?_, fun hg => absurd h2 hg⟩
                          clear hg
                          unfold Roll.Goes
                          simp only [Lpm23, List.getD_cons_zero, List.getD_cons_succ]
                          generalize Roll.putD Dpm23 vs [2] b0 = a1 at *
                          refine Roll.goes_val (w' := p) (.pointer (some ⟨gd, 0, none⟩)) rfl ?_ ⟨hI, Below.refl _ _, rfl⟩
                          (have ec : ∀ x, a1.eval (.const x) = x := fun _ => rfl); (have ef : ∀ x, a1.eval (.func x) = .func (.func x) #[] #[] := fun _ => rfl); generalize a1.eval = ρ at *
                          clear h2
                          go_simp <;> (intros; first | (exfalso; omega) | rfl | omega)
                        · intro vs p hI hp
                          have h2 : (vs 2) = .bool false := hp 2 (by simp [Lpm23])
                          have e19 : (Roll.putD Dpm23 vs [2] b0).eval (.tmp 19) = .slice aq nq cq := (Roll.eval_old rfl).trans (hlv.at 6 (19, .slice aq nq cq) rfl)
                          clear hp hlv hN
                          refine ⟨fun hg => ?_, fun hg => absurd h2 hg⟩
                          clear hg
                          unfold Roll.Goes
                          simp only [Lpm23, List.getD_cons_zero, List.getD_cons_succ]
                          generalize Roll.putD Dpm23 vs [2] b0 = a1 at *
                          refine Roll.goes_val (w' := p) (.slice aq nq cq) rfl ?_ ⟨hI, Below.refl _ _, rfl⟩
                          (have ec : ∀ x, a1.eval (.const x) = x := fun _ => rfl); (have ef : ∀ x, a1.eval (.func x) = .func (.func x) #[] #[] := fun _ => rfl); generalize a1.eval = ρ at *
                          clear h2
                          go_simp <;> (intros; first | (exfalso; omega) | rfl | omega)
                        · intro vs p hI hp
                          have h2 : (vs 2) = .bool false := hp 2 (by simp [Lpm23])
                          have e14 : (Roll.putD Dpm23 vs [2] b0).eval (.tmp 14) = .slice (some ⟨gk, 0, none⟩) 3 3 := (Roll.eval_old rfl).trans (hlv.at 2 (14, .slice (some ⟨gk, 0, none⟩) 3 3) rfl)
                          clear hp hlv hN
                          refine ⟨fun hg => ?_, fun hg => absurd h2 hg⟩
                          clear hg
                          unfold Roll.Goes
                          simp only [Lpm23, List.getD_cons_zero, List.getD_cons_succ]
                          generalize Roll.putD Dpm23 vs [2] b0 = a1 at *
                          refine Roll.goes_val (w' := p) (.slice (some ⟨gk, 0, none⟩) 3 3) rfl ?_ ⟨hI, Below.refl _ _, rfl⟩
                          (have ec : ∀ x, a1.eval (.const x) = x := fun _ => rfl); (have ef : ∀ x, a1.eval (.func x) = .func (.func x) #[] #[] := fun _ => rfl); generalize a1.eval = ρ at *
                          clear h2
                          go_simp <;> (intros; first | (exfalso; omega) | rfl | omega)
                        · intro vs p hI hp
                          have h2 : (vs 2) = .bool false := hp 2 (by simp [Lpm23])
                          have e16 : (Roll.putD Dpm23 vs [2] b0).eval (.tmp 16) = .int .i64 (i : Int) := (Roll.eval_old rfl).trans (hlv.at 4 (16, .int .i64 (i : Int)) rfl)
                          clear hp hlv hN
                          refine ⟨fun hg => ?_, fun hg => absurd h2 hg⟩
                          clear hg
                          unfold Roll.Goes
                          simp only [Lpm23, List.getD_cons_zero, List.getD_cons_succ]
                          generalize Roll.putD Dpm23 vs [2] b0 = a1 at *
                          refine Roll.goes_val (w' := p) (.int .i64 (i : Int)) rfl ?_ ⟨hI, Below.refl _ _, rfl⟩
                          (have ec : ∀ x, a1.eval (.const x) = x := fun _ => rfl); (have ef : ∀ x, a1.eval (.func x) = .func (.func x) #[] #[] := fun _ => rfl); generalize a1.eval = ρ at *
                          clear h2
                          go_simp <;> (intros; first | (exfalso; omega) | rfl | omega)
                        · intro vs p hI hp
                          have h5 : (vs 5) = .slice (some ⟨gk, 0, none⟩) 3 3 := hp 5 (by simp [Lpm23])
                          have h6 : (vs 6) = .int .i64 (i : Int) := hp 6 (by simp [Lpm23])
                          have h2 : (vs 2) = .bool false := hp 2 (by simp [Lpm23])
                          have e108 : (Roll.putD Dpm23 vs [5, 6, 2] b0).eval (.tmp 108) = .slice (some ⟨gk, 0, none⟩) 3 3 := (Roll.eval_new 5 rfl (by decide) (by decide) (by omega)).trans h5
                          have e109 : (Roll.putD Dpm23 vs [5, 6, 2] b0).eval (.tmp 109) = .int .i64 (i : Int) := (Roll.eval_new 6 rfl (by decide) (by decide) (by omega)).trans h6
                          clear hp hlv hN
                          refine ⟨fun hg => ?_, fun hg => absurd h2 hg⟩
                          clear hg
                          unfold Roll.Goes
                          simp only [Lpm23, List.getD_cons_zero, List.getD_cons_succ]
                          generalize Roll.putD Dpm23 vs [5, 6, 2] b0 = a1 at *
                          have f1 := HI3.out
                          have f2 := HI30.out
                          refine Roll.goes_val (w' := p) (.pointer (some ⟨gk, i, none⟩)) rfl ?_ ⟨hI, Below.refl _ _, rfl⟩
                          (have ec : ∀ x, a1.eval (.const x) = x := fun _ => rfl); (have ef : ∀ x, a1.eval (.func x) = .func (.func x) #[] #[] := fun _ => rfl); generalize a1.eval = ρ at *
                          clear h5 h6 h2
                          go_simp <;> (intros; first | (exfalso; omega) | rfl | omega)
                        · intro vs p hI hp
                          have h7 : (vs 7) = .pointer (some ⟨gk, i, none⟩) := hp 7 (by simp [Lpm23])
                          have h2 : (vs 2) = .bool false := hp 2 (by simp [Lpm23])
                          have e110 : (Roll.putD Dpm23 vs [7, 2] b0).eval (.tmp 110) = .pointer (some ⟨gk, i, none⟩) := (Roll.eval_new 7 rfl (by decide) (by decide) (by omega)).trans h7
                          clear hp hlv hN
                          refine ⟨fun hg => ?_, fun hg => absurd h2 hg⟩
                          clear hg
                          unfold Roll.Goes
                          simp only [Lpm23, List.getD_cons_zero, List.getD_cons_succ]
                          generalize Roll.putD Dpm23 vs [7, 2] b0 = a1 at *
                          have cf : p.cell? ⟨gk, i, none⟩ = some (.string kk) := (hI.cell (p := ⟨gk, i, none⟩) HGK.out).trans HCK.out
                          refine Roll.goes_val (w' := p) (.string kk) rfl ?_ ⟨hI, Below.refl _ _, rfl⟩
                          (have ec : ∀ x, a1.eval (.const x) = x := fun _ => rfl); (have ef : ∀ x, a1.eval (.func x) = .func (.func x) #[] #[] := fun _ => rfl); generalize a1.eval = ρ at *
                          clear h7 h2
                          go_simp <;> (intros; first | (exfalso; omega) | rfl | omega)
                        · intro vs p hI hp
                          have h4 : (vs 4) = .slice aq nq cq := hp 4 (by simp [Lpm23])
                          have h8 : (vs 8) = .string kk := hp 8 (by simp [Lpm23])
                          have h2 : (vs 2) = .bool false := hp 2 (by simp [Lpm23])
                          have e107 : (Roll.putD Dpm23 vs [4, 8, 2] b0).eval (.tmp 107) = .slice aq nq cq := (Roll.eval_new 4 rfl (by decide) (by decide) (by omega)).trans h4
                          have e111 : (Roll.putD Dpm23 vs [4, 8, 2] b0).eval (.tmp 111) = .string kk := (Roll.eval_new 8 rfl (by decide) (by decide) (by omega)).trans h8
                          clear hp hlv hN
                          refine ⟨fun hg => ?_, fun hg => absurd h2 hg⟩
                          clear hg
                          unfold Roll.Goes
                          simp only [Lpm23, List.getD_cons_zero, List.getD_cons_succ]
                          generalize Roll.putD Dpm23 vs [4, 8, 2] b0 = a1 at *
                          refine Roll.goes_call 28 #[.slice aq nq cq, .string kk] p rfl (by have ec : ∀ x, a1.eval (.const x) = x := fun _ => rfl; have ef : ∀ x, a1.eval (.func x) = .func (.func x) #[] #[] := fun _ => rfl; generalize a1.eval = ρ at *; go_simp) ?_
                          refine (HRDEL.out p hI).mono ?_
                          rintro y p2 ⟨a', n', c', rfl, hp', hb2⟩
                          exact ⟨_, rfl, hI.trans (hb2.mono hI.size), hb2, a', n', c', rfl, hp'⟩
                        · intro vs p hI hp
                          have h2 : (vs 2) = .bool false := hp 2 (by simp [Lpm23])
                          have e14 : (Roll.putD Dpm23 vs [2] b0).eval (.tmp 14) = .slice (some ⟨gk, 0, none⟩) 3 3 := (Roll.eval_old rfl).trans (hlv.at 2 (14, .slice (some ⟨gk, 0, none⟩) 3 3) rfl)
                          clear hp hlv hN
                          refine ⟨fun hg => ?_, fun hg => absurd h2 hg⟩
                          clear hg
                          unfold Roll.Goes
                          simp only [Lpm23, List.getD_cons_zero, List.getD_cons_succ]
                          generalize Roll.putD Dpm23 vs [2] b0 = a1 at *
                          refine Roll.goes_val (w' := p) (.slice (some ⟨gk, 0, none⟩) 3 3) rfl ?_ ⟨hI, Below.refl _ _, rfl⟩
                          (have ec : ∀ x, a1.eval (.const x) = x := fun _ => rfl); (have ef : ∀ x, a1.eval (.func x) = .func (.func x) #[] #[] := fun _ => rfl); generalize a1.eval = ρ at *
                          clear h2
                          go_simp <;> (intros; first | (exfalso; omega) | rfl | omega)
                        · intro vs p hI hp
                          have h2 : (vs 2) = .bool false := hp 2 (by simp [Lpm23])
                          have e16 : (Roll.putD Dpm23 vs [2] b0).eval (.tmp 16) = .int .i64 (i : Int) := (Roll.eval_old rfl).trans (hlv.at 4 (16, .int .i64 (i : Int)) rfl)
                          clear hp hlv hN
                          refine ⟨fun hg => ?_, fun hg => absurd h2 hg⟩
                          clear hg
                          unfold Roll.Goes
                          simp only [Lpm23, List.getD_cons_zero, List.getD_cons_succ]
                          generalize Roll.putD Dpm23 vs [2] b0 = a1 at *
                          refine Roll.goes_val (w' := p) (.int .i64 (i : Int)) rfl ?_ ⟨hI, Below.refl _ _, rfl⟩
                          (have ec : ∀ x, a1.eval (.const x) = x := fun _ => rfl); (have ef : ∀ x, a1.eval (.func x) = .func (.func x) #[] #[] := fun _ => rfl); generalize a1.eval = ρ at *
                          clear h2
                          go_simp <;> (intros; first | (exfalso; omega) | rfl | omega)
                        · intro vs p hI hp
                          have h10 : (vs 10) = .slice (some ⟨gk, 0, none⟩) 3 3 := hp 10 (by simp [Lpm23])
                          have h11 : (vs 11) = .int .i64 (i : Int) := hp 11 (by simp [Lpm23])
                          have h2 : (vs 2) = .bool false := hp 2 (by simp [Lpm23])
                          have e113 : (Roll.putD Dpm23 vs [10, 11, 2] b0).eval (.tmp 113) = .slice (some ⟨gk, 0, none⟩) 3 3 := (Roll.eval_new 10 rfl (by decide) (by decide) (by omega)).trans h10
                          have e114 : (Roll.putD Dpm23 vs [10, 11, 2] b0).eval (.tmp 114) = .int .i64 (i : Int) := (Roll.eval_new 11 rfl (by decide) (by decide) (by omega)).trans h11
                          clear hp hlv hN
                          refine ⟨fun hg => ?_, fun hg => absurd h2 hg⟩
                          clear hg
                          unfold Roll.Goes
                          simp only [Lpm23, List.getD_cons_zero, List.getD_cons_succ]
                          generalize Roll.putD Dpm23 vs [10, 11, 2] b0 = a1 at *
                          have f1 := HI3.out
                          have f2 := HI30.out
                          refine Roll.goes_val (w' := p) (.pointer (some ⟨gk, i, none⟩)) rfl ?_ ⟨hI, Below.refl _ _, rfl⟩
                          (have ec : ∀ x, a1.eval (.const x) = x := fun _ => rfl); (have ef : ∀ x, a1.eval (.func x) = .func (.func x) #[] #[] := fun _ => rfl); generalize a1.eval = ρ at *
                          clear h10 h11 h2
                          go_simp <;> (intros; first | (exfalso; omega) | rfl | omega)
                        · intro vs p hI hp
                          have h12 : (vs 12) = .pointer (some ⟨gk, i, none⟩) := hp 12 (by simp [Lpm23])
                          have h2 : (vs 2) = .bool false := hp 2 (by simp [Lpm23])
                          have e115 : (Roll.putD Dpm23 vs [12, 2] b0).eval (.tmp 115) = .pointer (some ⟨gk, i, none⟩) := (Roll.eval_new 12 rfl (by decide) (by decide) (by omega)).trans h12
                          clear hp hlv hN
                          refine ⟨fun hg => ?_, fun hg => absurd h2 hg⟩
                          clear hg
                          unfold Roll.Goes
                          simp only [Lpm23, List.getD_cons_zero, List.getD_cons_succ]
                          generalize Roll.putD Dpm23 vs [12, 2] b0 = a1 at *
                          have cf : p.cell? ⟨gk, i, none⟩ = some (.string kk) := (hI.cell (p := ⟨gk, i, none⟩) HGK.out).trans HCK.out
                          refine Roll.goes_val (w' := p) (.string kk) rfl ?_ ⟨hI, Below.refl _ _, rfl⟩
                          (have ec : ∀ x, a1.eval (.const x) = x := fun _ => rfl); (have ef : ∀ x, a1.eval (.func x) = .func (.func x) #[] #[] := fun _ => rfl); generalize a1.eval = ρ at *
                          clear h12 h2
                          go_simp <;> (intros; first | (exfalso; omega) | rfl | omega)
                        · intro vs p hI hp
                          have h3 : (vs 3) = .pointer (some ⟨gd, 0, none⟩) := hp 3 (by simp [Lpm23])
                          have h9 : ∃ (a' : Option Addr) (n' c' : Nat), (vs 9) = .slice a' n' c' ∧ Ps (fun _ => True) p a' n' c' (treeL td) := hp 9 (by simp [Lpm23])
                          have h13 : (vs 13) = .string kk := hp 13 (by simp [Lpm23])
                          have h2 : (vs 2) = .bool false := hp 2 (by simp [Lpm23])
                          have e106 : (Roll.putD Dpm23 vs [3, 9, 13, 2] b0).eval (.tmp 106) = .pointer (some ⟨gd, 0, none⟩) := (Roll.eval_new 3 rfl (by decide) (by decide) (by omega)).trans h3
                          have e112 : (Roll.putD Dpm23 vs [3, 9, 13, 2] b0).eval (.tmp 112) = vs 9 := (Roll.eval_new 9 rfl (by decide) (by decide) (by omega))
                          have e116 : (Roll.putD Dpm23 vs [3, 9, 13, 2] b0).eval (.tmp 116) = .string kk := (Roll.eval_new 13 rfl (by decide) (by decide) (by omega)).trans h13
                          clear hp hlv hN
                          refine ⟨fun hg => ?_, fun hg => absurd h2 hg⟩
                          clear hg
                          unfold Roll.Goes
                          simp only [Lpm23, List.getD_cons_zero, List.getD_cons_succ]
                          generalize Roll.putD Dpm23 vs [3, 9, 13, 2] b0 = a1 at *
                          obtain ⟨a', n', c', hv9, hp9⟩ := h9
                          rw [hv9] at e112
                          refine Roll.goes_call 18 #[.pointer (some ⟨gd, 0, none⟩), .slice a' n' c', .string kk, .string ⟨#[]⟩] p rfl (by have ec : ∀ x, a1.eval (.const x) = x := fun _ => rfl; have ef : ∀ x, a1.eval (.func x) = .func (.func x) #[] #[] := fun _ => rfl; generalize a1.eval = ρ at *; go_simp) ?_
                          refine (HAGD.out p a' n' c' hI hp9).mono ?_
                          rintro y p2 ⟨rfl, hb2⟩
                          exact ⟨_, rfl, hI.trans (hb2.mono hI.size), hb2, rfl⟩
                        · intro vs p hI hp
                          have h14 : (vs 14) = .bool true := hp 14 (by simp [Lpm23])
                          have h2 : (vs 2) = .bool false := hp 2 (by simp [Lpm23])
                          have e117 : (Roll.putD Dpm23 vs [14, 2] b0).eval (.tmp 117) = .bool true := (Roll.eval_new 14 rfl (by decide) (by decide) (by omega)).trans h14
                          clear hp hlv hN
                          refine ⟨fun hg => ?_, fun hg => absurd h2 hg⟩
                          clear hg
                          unfold Roll.Goes
                          simp only [Lpm23, List.getD_cons_zero, List.getD_cons_succ]
                          generalize Roll.putD Dpm23 vs [14, 2] b0 = a1 at *
                          refine Roll.goes_val (w' := p) (.bool false) rfl ?_ ⟨hI, Below.refl _ _, rfl⟩
                          (have ec : ∀ x, a1.eval (.const x) = x := fun _ => rfl); (have ef : ∀ x, a1.eval (.func x) = .func (.func x) #[] #[] := fun _ => rfl); generalize a1.eval = ρ at *
                          clear h14 h2
                          go_simp <;> (intros; first | (exfalso; omega) | rfl | omega)
                        · intro vs p hI hp
                          have h2 : (vs 2) = .bool false := hp 2 (by simp [Lpm23])
                          have h15 : (vs 15) = .bool false := hp 15 (by simp [Lpm23])
                          have e105 : (Roll.putD Dpm23 vs [2, 15] b0).eval (.tmp 105) = .bool false := (Roll.eval_new 2 rfl (by decide) (by decide) (by omega)).trans h2
                          have e118 : (Roll.putD Dpm23 vs [2, 15] b0).eval (.tmp 118) = .bool false := (Roll.eval_new 15 rfl (by decide) (by decide) (by omega)).trans h15
                          clear hp hlv hN
                          unfold Roll.Goes
                          simp only [Lpm23, List.getD_cons_zero, List.getD_cons_succ]
                          generalize Roll.putD Dpm23 vs [2, 15] b0 = a1 at *
                          refine Roll.goes_val (w' := p) (.bool false) rfl ?_ ⟨hI, Below.refl _ _, rfl⟩
                          (have ec : ∀ x, a1.eval (.const x) = x := fun _ => rfl); (have ef : ∀ x, a1.eval (.func x) = .func (.func x) #[] #[] := fun _ => rfl); generalize a1.eval = ρ at *
                          clear h2 h15
                          go_simp <;> (intros; first | (exfalso; omega) | rfl | omega)
                      · intro vs p hI hR
                        have h0 : (vs 0) = .pointer (some ⟨gd, 0, none⟩) := hR 0 (by omega)
                        have h1 : (vs 1) = .bool false := hR 1 (by omega)
                        have h2 : (vs 2) = .bool false := hR 2 (by omega)
                        have h3 : (vs 3) = .pointer (some ⟨gd, 0, none⟩) := hR 3 (by omega)
                        have h4 : (vs 4) = .slice aq nq cq := hR 4 (by omega)
                        have h5 : (vs 5) = .slice (some ⟨gk, 0, none⟩) 3 3 := hR 5 (by omega)
                        have h6 : (vs 6) = .int .i64 (i : Int) := hR 6 (by omega)
                        have h7 : (vs 7) = .pointer (some ⟨gk, i, none⟩) := hR 7 (by omega)
                        have h8 : (vs 8) = .string kk := hR 8 (by omega)
                        have h9 : ∃ (a' : Option Addr) (n' c' : Nat), (vs 9) = .slice a' n' c' ∧ Ps (fun _ => True) p a' n' c' (treeL td) := hR 9 (by omega)
                        have h10 : (vs 10) = .slice (some ⟨gk, 0, none⟩) 3 3 := hR 10 (by omega)
                        have h11 : (vs 11) = .int .i64 (i : Int) := hR 11 (by omega)
                        have h12 : (vs 12) = .pointer (some ⟨gk, i, none⟩) := hR 12 (by omega)
                        have h13 : (vs 13) = .string kk := hR 13 (by omega)
                        have h14 : (vs 14) = .bool true := hR 14 (by omega)
                        have h15 : (vs 15) = .bool false := hR 15 (by omega)
                        have h16 : (vs 16) = .bool false := hR 16 (by omega)
                        clear hR
                        simp only [List.range_succ, List.range_zero, List.nil_append, List.cons_append, Roll.putD, Act.put, List.getD_cons_zero, List.getD_cons_succ, List.setIfInBounds_toArray, List.set_cons_zero, List.set_cons_succ, List.drop_succ_cons, List.drop_zero, Dpm23]
                        simp only [h0, h1, h2, h3, h4, h5, h6, h7, h8, h10, h11, h12, h13, h14, h15, h16]
                        clear h0 h1 h2 h3 h4 h5 h6 h7 h8 h10 h11 h12 h13 h14 h15 h16
                        clear h9
                        have HBf : Hid (Below W0.heap.size W0 p) := Lib.hid (HB22.out.trans (hI.mono HB22.out.size))
                        clear hI
                        apply wpList_nil
                        go_step
                        go_step
                        go_wp2_with fail
                        go_roundw
                        case rel => exact ⟨k + 1, by go_num, by have := HKL.out; omega, HBf.out⟩
                        case measure => (try go_num); (try (simp only [intOf])); have := HKL.out; omega
                · have hge : ¬ (k : Int) < 2 := by omega
                  clear hkl
                  go_wp2
                  go_roundw
                  case rel => exact ⟨i + 1, by go_num, by have := HIL.out; omega, HB.out⟩
                  case measure => (try go_num); (try (simp only [intOf])); have := HIL.out; omega
            · have hge : ¬ (i : Int) < 3 := by omega
              clear hil
              go_wp2_with (go_at_call 19; refine (lives_any _).mono ?_; rintro e w8 ⟨rfl, hb8⟩)
              go_ret
              exact ⟨rfl, HBW0.out.trans ((HBO.out.trans (hb8.mono HBO.out.size)).mono HBW0.out.size)⟩
end Go.Proofs.Ytfgmhidgkemfoaa

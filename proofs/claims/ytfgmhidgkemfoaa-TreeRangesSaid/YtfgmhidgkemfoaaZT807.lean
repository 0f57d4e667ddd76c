/-
  Texts OL, OM, ON, P0, one behind the other.
-/
import Derived.WalkKit
import Derived.WalkSpells
import Derived.WalkLawsBesides
import Derived.Laws.AppendOwn
import Derived.Laws.OwnMore
import Derived.Deep.AppendSrc
import Derived.Deep.MidRow
import Derived.Lib.Hide
import GoSem.Claim
import Derived.Lib.Bytealg
import Derived.Laws.Externs
import Derived.Deep.QuietTactic
import Derived.BigQuiet
import Derived.Deep.CutBlock
import Derived.OwnWalk
import Derived.Deep.DrawnRows
import Derived.Deep.CutRange
import Derived.Deep.LoopGhost
import Derived.Laws.Tables
import Derived.Laws.ResultCell
import Derived.Deep.WholeRow
import Derived.Lib.Strings
import Derived.Shelf.Spec.SlicesInsert
import Derived.Lib.AppendZerosOnto
import Derived.Lib.Overlaps
import Derived.Laws.CopyRow
import Derived.Deep.RegionLaw
import Derived.StillTailTactics
import Derived.RangeFuncNested
import Derived.RangeFuncBound
import Derived.RangeFuncCalls
import Derived.RangeFuncLeaves
import Derived.Shelf.Abstract
import Derived.Shelf.RegionOpen
import Derived.OwnWalkIn
import Derived.TacticsInMore
import Derived.LoopNIn
import Derived.LoopIn
import Derived.RangeFuncBox
import Derived.Sort.CutIn
import Derived.Orders
import Derived.Tactics
import Derived.Sort.AtCall
import Derived.Lib.MinMaxS
import Derived.ProofKit
import Derived.OpenShut
import Derived.Carry
import Derived.Deep.Slices
import Derived.Deep.Fields
import Derived.JoinedCond
import Derived.ChangeMaps5
import Derived.Test.YtfgmhidgkemfoaaRows
import Derived.Test.YtfgmhidgkemfoaaProg
import Derived.Test.YtfgmhidgkemfoaaChecked
import Derived.Test.YtfgmhidgkemfoaaZT806
namespace Go.Proofs.Ytfgmhidgkemfoaa
open Go.RowKit
set_option linter.unusedSimpArgs false
set_option linter.unusedVariables false
def s1 (a : UInt8) : ByteArray := ⟨#[a]⟩
def livA : List KV := [⟨s1 98, s1 49⟩, ⟨s1 100, s1 50⟩]
def livB : List KV := [⟨s1 100, s1 51⟩, ⟨s1 101, s1 52⟩]
def livE : List ED := [⟨s1 98, emptyS, true⟩, ⟨s1 100, s1 51, false⟩, ⟨s1 101, s1 52, false⟩]
theorem livA_eq : insL (insL [] ⟨s1 100, s1 50⟩) ⟨s1 98, s1 49⟩ = livA := by decide
theorem livB_eq : insL (insL [] ⟨s1 101, s1 52⟩) ⟨s1 100, s1 51⟩ = livB := by decide
theorem livE_eq : diffR livA livB = livE := by rw [← diffP_eq]; decide
theorem livF : floorL livA (s1 99) = some ⟨s1 98, s1 49⟩ := by decide
theorem livG : floorL livA (s1 97) = none := by decide
theorem livR : rngL (s1 98) (s1 100) livA = [⟨s1 98, s1 49⟩] := by decide
def nineL (i : Nat) : List KV := (List.range i).foldl (fun l j => insL l ⟨keyB j, xB⟩) []
theorem nine_succ (i : Nat) : nineL (i + 1) = insL (nineL i) ⟨keyB i, xB⟩ := by unfold nineL; rw [List.range_succ, List.foldl_append]; rfl
theorem nine_len : ∀ i, i ≤ 9 → (nineL i).length = i := by decide
theorem Sl.new {W : World} {t : TypeId} (cs : List Value) (size : Nat) (hs : cs.length = size) (n : Nat) (hn : n ≤ maxLen) (xs : List Value) (hx : xs.length = n * size) (hz : 0 < size) (h0 : 0 < n) : Sl (fun _ => True) (W.alloc (.cells xs.toArray t)) (some ⟨W.heap.size, 0, none⟩) n n xs size := by
  refine ⟨hx, Nat.le_refl _, hn, by simp, fun _ => ⟨W.heap.size, 0, trivial, rfl, fun j v hv => ?_⟩⟩
  rw [Nat.zero_add, cell_of_row (W.alloc (.cells xs.toArray t)) W.heap.size j xs.toArray _ _ (World.alloc_heap_new W _)]
  simpa using hv
theorem Ps.new1 (W : World) (k v : ByteArray) : Ps (fun _ => True) (W.alloc (.cells #[.string k, .string v] 65)) (some ⟨W.heap.size, 0, none⟩) 1 1 [⟨k, v⟩] := ⟨rfl, Sl.new [.string k, .string v] 2 rfl 1 (by decide) [.string k, .string v] rfl (by decide) (by decide)⟩
theorem Es.new3 (W : World) (a b c : ED) : Es (fun _ => True) (W.alloc (.cells #[.string a.k, .string a.v, .bool a.d, .string b.k, .string b.v, .bool b.d, .string c.k, .string c.v, .bool c.d] 61)) (some ⟨W.heap.size, 0, none⟩) 3 3 [a, b, c] := ⟨rfl, Sl.new [.string a.k, .string a.v, .bool a.d] 3 rfl 3 (by decide) (ecells [a, b, c]) rfl (by decide) (by decide)⟩
end Go.Proofs.Ytfgmhidgkemfoaa
namespace Go.Proofs.Ytfgmhidgkemfoaa
open Go.RowKit
set_option linter.unusedSimpArgs false
set_option linter.unusedVariables false
attribute [local go_sem ↓] exec_loadPair exec_storePair exec_at_zeroP exec_at_succP Go.wp_at_zero Go.wp_at_succ
attribute [local go_sem] run_storePair
theorem none_len : (treeL (none : Option BT)).length ≤ 1000000 := by show ([] : List KV).length ≤ 1000000; simp
theorem s1_60 (a : UInt8) : (s1 a).size ≤ 60 := by show 1 ≤ 60; omega
theorem s1_1000 (a : UInt8) : (s1 a).size ≤ 1000 := by show 1 ≤ 1000; omega
theorem ins_one (p : KV) : (insL (treeL (none : Option BT)) p).length ≤ 1000000 := by
  have h := insL_le (treeL (none : Option BT)) p
  have e : (treeL (none : Option BT)).length = 0 := rfl
  omega
set_option maxRecDepth 100000 in
set_option maxHeartbeats 400000 in
theorem lives_any (w : World) : Calls Try.prog 19 #[] w fun e w' => e = .returned (.bool true) ∧ Below w.heap.size w w' := by
  go_enter Try.func19, Try.ntmps19
  go_upto_region 4 with (go_at_call 12; refine (new_any _).mono ?_; rintro e w1 ⟨g0, rfl, ht0, -, hb0⟩; have HT0 := Lib.hid ht0; have HB0 := Lib.hid hb0; clear ht0 hb0)
  go_upto_region 5 with (first
    | (go_at_call_has 25 (Value.pointer (some ⟨g0, 0, none⟩)); refine (put_tree HT0.out none_len (s1 100) (s1 50) (s1_60 _) (s1_1000 _)).mono ?_; rintro e w2 ⟨g1, t1, H1, rfl, ht1, hl1, -, -, hb1⟩; have HT1 := Lib.hid ht1; have HL1 := Lib.hid hl1; have HB1 := Lib.hid hb1; clear ht1 hl1 hb1)
    | (go_at_call_has 25 (Value.pointer (some ⟨g1, 0, none⟩)); refine (put_tree HT1.out (by rw [HL1.out]; exact ins_one _) (s1 98) (s1 49) (s1_60 _) (s1_1000 _)).mono ?_; rintro e w3 ⟨gA, tA, HA, rfl, htA, hlA, -, -, hb2⟩; have HTA := Lib.hid htA; have HLA := Lib.hid hlA; have HB2 := Lib.hid hb2; clear htA hlA hb2))
  have HLA2 : Hid (treeL tA = livA) := Lib.hid (by rw [HLA.out, HL1.out]; exact livA_eq)
  have HBA : Hid (Below w1.heap.size w1 w3) := Lib.hid (HB1.out.trans (HB2.out.mono HB1.out.size))
  have HT03 := Lib.hid (HT0.out.under HBA.out)
  go_upto_region 6 with (first
    | (go_at_call_has 25 (Value.pointer (some ⟨g0, 0, none⟩)); refine (put_tree HT03.out none_len (s1 101) (s1 52) (s1_60 _) (s1_1000 _)).mono ?_; rintro e w4 ⟨g3, t3, H3, rfl, ht3, hl3, -, -, hb3⟩; have HT3 := Lib.hid ht3; have HL3 := Lib.hid hl3; have HB3 := Lib.hid hb3; clear ht3 hl3 hb3)
    | (go_at_call_has 25 (Value.pointer (some ⟨g3, 0, none⟩)); refine (put_tree HT3.out (by rw [HL3.out]; exact ins_one _) (s1 100) (s1 51) (s1_60 _) (s1_1000 _)).mono ?_; rintro e w5 ⟨gB, tB, HB, rfl, htB, hlB, -, -, hb4⟩; have HTB := Lib.hid htB; have HLB := Lib.hid hlB; have HB4 := Lib.hid hb4; clear htB hlB hb4))
  have HLB2 : Hid (treeL tB = livB) := Lib.hid (by rw [HLB.out, HL3.out]; exact livB_eq)
  have HB35 : Hid (Below w3.heap.size w3 w5) := Lib.hid (HB3.out.trans (HB4.out.mono HB3.out.size))
  have HTA5 := Lib.hid (HTA.out.under HB35.out)
  have HT05 := Lib.hid (HT03.out.under HB35.out)
  have HBW : Hid (Below w.heap.size w w5) := Lib.hid (HB0.out.trans ((HBA.out.trans (HB35.out.mono HBA.out.size)).mono HB0.out.size))
  have HFC : Hid (∀ u, Below w5.heap.size w5 u → Calls Try.prog 35 #[.pointer (some ⟨gA, 0, none⟩), .string (s1 99)] u fun e u' => e = .returned (.tuple #[.agg #[.string (s1 98), .string (s1 49)], .bool true]) ∧ Below u.heap.size u u') := Lib.hid (fun u hu => by
    have h := floor_any (HTA5.out.under hu).tr HTA5.out.ok HTA5.out.so (s1 99)
    rw [HLA2.out, livF] at h
    exact h)
  have HFA : Hid (∀ u, Below w5.heap.size w5 u → Calls Try.prog 35 #[.pointer (some ⟨gA, 0, none⟩), .string (s1 97)] u fun e u' => e = .returned (.tuple #[.agg #[.string emptyS, .string emptyS], .bool false]) ∧ Below u.heap.size u u') := Lib.hid (fun u hu => by
    have h := floor_any (HTA5.out.under hu).tr HTA5.out.ok HTA5.out.so (s1 97)
    rw [HLA2.out, livG] at h
    exact h)
  clear HT0 HB0 HT1 HL1 HB1 HLA HBA HT03 HT3 HL3 HB3 HLB HB4 HTA HB2 HB35
  go_upto_region 7 with (go_at_call 35; refine (HFC.out _ (Below.refl _ _)).mono ?_; rintro e w6 ⟨rfl, hb6⟩; have HB6 := Lib.hid hb6; have p6 : PB (w6.alloc (.cells #[.string ⟨#[]⟩, .string ⟨#[]⟩] 65)) w6.heap.size := ⟨⟨⟨#[]⟩, ⟨#[]⟩⟩, heap_new rfl⟩; clear hb6)
  have hx6 : Below w6.heap.size w6 ((w6.alloc (.cells #[.string ⟨#[]⟩, .string ⟨#[]⟩] 65)).setRow w6.heap.size #[.string (s1 98), .string (s1 49)]) :=
    ((((Kept.of_below (fun _ => False) (Below.refl w6.heap.size w6)).alloc _).setRow (fun h => by omega) _).below (Nat.le_refl _) (fun _ _ h => h))
  have hp6 : ((w6.alloc (.cells #[.string ⟨#[]⟩, .string ⟨#[]⟩] 65)).setRow w6.heap.size #[.string (s1 98), .string (s1 49)]).heap[w6.heap.size]? = some (.cells #[.string (s1 98), .string (s1 49)] 65 (0, 0)) := setRow_heap _ _ _ _ _ _ (heap_new rfl)
  obtain ⟨X, hX⟩ : ∃ X, X = w6.heap.size := ⟨_, rfl⟩
  have HB6W : Hid (Below w5.heap.size w5 ((w6.alloc (.cells #[.string ⟨#[]⟩, .string ⟨#[]⟩] 65)).setRow w6.heap.size #[.string (s1 98), .string (s1 49)])) := Lib.hid (HB6.out.trans (hx6.mono HB6.out.size))
  rw [← hX] at HB6W hp6 ⊢
  obtain ⟨W6, hW6⟩ : ∃ W6, W6 = (w6.alloc (.cells #[.string ⟨#[]⟩, .string ⟨#[]⟩] 65)).setRow X #[.string (s1 98), .string (s1 49)] := ⟨_, rfl⟩
  have HP6 := Lib.hid hp6
  rw [← hW6] at HB6W HP6 ⊢
  clear hW6 hX hx6 hp6 HB6 p6 HFC
  go_upto_region 8 with (go_at_call 35; refine (HFA.out _ HB6W.out).mono ?_; rintro e w7 ⟨rfl, hb7⟩; have HB7 := Lib.hid hb7; have p7 : PB (w7.alloc (.cells #[.string ⟨#[]⟩, .string ⟨#[]⟩] 65)) w7.heap.size := ⟨⟨⟨#[]⟩, ⟨#[]⟩⟩, heap_new rfl⟩; clear hb7)
  have hx7 : Below w7.heap.size w7 ((w7.alloc (.cells #[.string ⟨#[]⟩, .string ⟨#[]⟩] 65)).setRow w7.heap.size #[.string emptyS, .string emptyS]) :=
    ((((Kept.of_below (fun _ => False) (Below.refl w7.heap.size w7)).alloc _).setRow (fun h => by omega) _).below (Nat.le_refl _) (fun _ _ h => h))
  obtain ⟨W7, hW7⟩ : ∃ W7, W7 = (w7.alloc (.cells #[.string ⟨#[]⟩, .string ⟨#[]⟩] 65)).setRow w7.heap.size #[.string emptyS, .string emptyS] := ⟨_, rfl⟩
  rw [← hW7] at hx7 ⊢
  have HB67 : Hid (Below W6.heap.size W6 W7) := Lib.hid (HB7.out.trans (hx7.mono HB7.out.size))
  have HB57 : Hid (Below w5.heap.size w5 W7) := Lib.hid (HB6W.out.trans (HB67.out.mono HB6W.out.size))
  have HP7 : Hid (W7.heap[X]? = some (.cells #[.string (s1 98), .string (s1 49)] 65 (0, 0))) := Lib.hid ((HB67.out.block _ (Array.getElem?_eq_some_iff.1 HP6.out).1).trans HP6.out)
  have HTA7 := Lib.hid (HTA5.out.under HB57.out)
  have HTB7 := Lib.hid (HTB.out.under HB57.out)
  have HT07 := Lib.hid (HT05.out.under HB57.out)
  have HBW7 : Hid (Below w.heap.size w W7) := Lib.hid (HBW.out.trans (HB57.out.mono HBW.out.size))
  clear hW7 hx7 HB7 p7 HFA HB67 HB57 HTA5 HTB HT05 HBW HB6W HP6
  have HKEY : Hid (∀ (q : Nat) (u : World), q < 4000 → Calls Try.prog 15 #[.int .i64 (q : Int)] u fun e w' => e = .returned (.string (keyB q)) ∧ Below u.heap.size u w') := Lib.hid (fun q u hq => by
    have h := key_any (q : Int) (by omega) (by omega) u
    have e : (aroundT (q : Int) 4000).toNat = q := by
      unfold aroundT
      rw [if_neg (by omega)]
      omega
    rw [e] at h
    exact h)
  go_wp2
  go_loopw [8, 9] (fun u x wr => ∃ (i g : Nat) (t : Option BT) (H : Nat), u = .pointer (some ⟨g, 0, none⟩) ∧ x = .int .i64 (i : Int) ∧ i ≤ 9 ∧ TT wr g t H ∧ treeL t = nineL i ∧ Below W7.heap.size W7 wr) (fun _ x _ => 9 - (intOf x).toNat)
  case atStart => exact ⟨0, g0, none, 0, rfl, rfl, Nat.zero_le _, HT07.out, rfl, Below.refl _ _⟩
  case round =>
    obtain ⟨i, g, t, H, rfl, rfl, hi, ht, hl, hb⟩ := hrel
    have HT := Lib.hid ht
    have HL := Lib.hid hl
    have HB := Lib.hid hb
    have HLEN : Hid ((treeL t).length = i) := Lib.hid (by rw [hl]; exact nine_len i hi)
    have HHI : Hid (H ≤ 100000) := Lib.hid (Nat.le_trans (tok_high ht.ok 2 (by rw [HLEN.out]; omega)) (by omega))
    clear ht hl hb
    by_cases hlt : i < 9
    · have hlt2 : (i : Int) < 9 := by omega
      have HPUT : Hid (∀ u, Below wr.heap.size wr u → Calls Try.prog 25 #[.pointer (some ⟨g, 0, none⟩), .string (keyB i), .string xB] u (PutT u t H ⟨keyB i, xB⟩)) := Lib.hid (fun u hu => put_tree (HT.out.under hu) (by have := HLEN.out; omega) (keyB i) xB (by rw [keyB_size]; omega) (by show 1 ≤ 1000; omega))
      have HLT := Lib.hid hlt
      by_cases h7 : 0 < i ∧ i < 7
      · have h70 : (0 : Int) < (i : Int) := by omega
        have h71 : (i : Int) < 7 := by omega
        have HH1 : Hid (H = 1) := Lib.hid (by
          have h1 := tok_high HT.out.ok 1 (by rw [HLEN.out]; omega)
          have h2 : H ≠ 0 := fun e => by
            have := (tok_zero HT.out.ok).1 e
            have h3 := HLEN.out
            rw [this] at h3
            simp at h3
            omega
          omega)
        clear hlt h7
        go_wp2_with (first
          | (go_at_call 22; refine (height_any HT.out.tr HT.out.ok HHI.out).mono ?_; rintro e w8 ⟨rfl, hb8⟩; have HB8 := Lib.hid hb8; clear hb8; rw [HH1.out])
          | (go_at_call 15; refine (HKEY.out i _ (by have := HLT.out; omega)).mono ?_; rintro e w9 ⟨rfl, hb9⟩; have HB9 := Lib.hid hb9; clear hb9)
          | (go_at_call 25; refine (HPUT.out _ (HB8.out.trans (HB9.out.mono HB8.out.size))).mono ?_; rintro e w10 ⟨g3, t3, H3, rfl, ht3, hl3, -, -, hb3⟩; have HT3 := Lib.hid ht3; have HL3 := Lib.hid hl3; have HB3 := Lib.hid hb3; clear ht3 hl3 hb3))
        go_roundw
        case rel => exact ⟨i + 1, g3, t3, H3, rfl, by go_num, by have := HLT.out; omega, HT3.out, by rw [HL3.out, HL.out, nine_succ], HB.out.trans (((HB8.out.trans (HB9.out.mono HB8.out.size)).trans (HB3.out.mono (Nat.le_trans HB8.out.size HB9.out.size))).mono HB.out.size)⟩
        case measure => (try go_num); (try (simp only [intOf])); have := HLT.out; omega
      · by_cases h0 : i = 0
        · have h70 : ¬ (0 : Int) < (i : Int) := by omega
          clear hlt h7 h0
          go_wp2_with (first
            | (go_at_call 15; refine (HKEY.out i _ (by have := HLT.out; omega)).mono ?_; rintro e w9 ⟨rfl, hb9⟩; have HB9 := Lib.hid hb9; clear hb9)
            | (go_at_call 25; refine (HPUT.out _ HB9.out).mono ?_; rintro e w10 ⟨g3, t3, H3, rfl, ht3, hl3, -, -, hb3⟩; have HT3 := Lib.hid ht3; have HL3 := Lib.hid hl3; have HB3 := Lib.hid hb3; clear ht3 hl3 hb3))
          go_roundw
          case rel => exact ⟨i + 1, g3, t3, H3, rfl, by go_num, by have := HLT.out; omega, HT3.out, by rw [HL3.out, HL.out, nine_succ], HB.out.trans ((HB9.out.trans (HB3.out.mono HB9.out.size)).mono HB.out.size)⟩
          case measure => (try go_num); (try (simp only [intOf])); have := HLT.out; omega
        · have h70 : (0 : Int) < (i : Int) := by omega
          have h71 : ¬ (i : Int) < 7 := by omega
          clear hlt h7 h0
          go_wp2_with (first
            | (go_at_call 15; refine (HKEY.out i _ (by have := HLT.out; omega)).mono ?_; rintro e w9 ⟨rfl, hb9⟩; have HB9 := Lib.hid hb9; clear hb9)
            | (go_at_call 25; refine (HPUT.out _ HB9.out).mono ?_; rintro e w10 ⟨g3, t3, H3, rfl, ht3, hl3, -, -, hb3⟩; have HT3 := Lib.hid ht3; have HL3 := Lib.hid hl3; have HB3 := Lib.hid hb3; clear ht3 hl3 hb3))
          go_roundw
          case rel => exact ⟨i + 1, g3, t3, H3, rfl, by go_num, by have := HLT.out; omega, HT3.out, by rw [HL3.out, HL.out, nine_succ], HB.out.trans ((HB9.out.trans (HB3.out.mono HB9.out.size)).mono HB.out.size)⟩
          case measure => (try go_num); (try (simp only [intOf])); have := HLT.out; omega
    · have hge : ¬ (i : Int) < 9 := by omega
      have HH2 : Hid (H = 2) := Lib.hid (by
        have h1 := tok_high HT.out.ok 2 (by rw [HLEN.out]; omega)
        have h2 : H ≠ 0 := fun e => by
          have := (tok_zero HT.out.ok).1 e
          have h3 := HLEN.out
          rw [this] at h3
          simp at h3
          omega
        have h3 : H ≠ 1 := fun e => by
          have h4 := (tok_bounds HT.out.ok h2).2
          rw [e, HLEN.out] at h4
          omega
        omega)
      have HRG : Hid (∀ u, Below wr.heap.size wr u → Calls Try.prog 29 #[.pointer (some ⟨gA, 0, none⟩), .string (s1 98), .string (s1 100)] u fun e W' => ∃ a n c, e = .returned (.slice a n c) ∧ Ps (fun _ => True) W' a n c [⟨s1 98, s1 49⟩] ∧ Below u.heap.size u W') := Lib.hid (fun u hu => by
        have h := range_any ((HTA7.out.under HB.out).under hu) (s1 98) (s1 100) (by rw [HLA2.out]; decide)
        rw [HLA2.out, livR] at h
        refine h.mono ?_
        rintro e W' ⟨v, rfl, hr, hb⟩
        obtain ⟨a, n, c, rfl, hp⟩ := Ps.row hr
        exact ⟨a, n, c, rfl, hp.dom (fun _ _ => trivial), hb⟩)
      have HP8 : Hid (wr.heap[X]? = some (.cells #[.string (s1 98), .string (s1 49)] 65 (0, 0))) := Lib.hid ((HB.out.block _ (Array.getElem?_eq_some_iff.1 HP7.out).1).trans HP7.out)
      clear hlt hi
      have HSM : Hid (∀ (u : World) (a : Option Addr) (n c : Nat), Ps (fun _ => True) u a n c [⟨s1 98, s1 49⟩] → Calls Try.prog 30 #[.slice a n c, .slice (some ⟨u.heap.size, 0, none⟩) 1 1] (u.alloc (.cells #[.string ⟨#[98]⟩, .string ⟨#[49]⟩] 65)) fun e W' => e = .returned (.bool true) ∧ Below u.heap.size u W') := Lib.hid (fun u a n c hp => by
        have hal : Below u.heap.size u (u.alloc (.cells #[.string ⟨#[98]⟩, .string ⟨#[49]⟩] 65)) := (Below.refl _ u).alloc (Nat.le_refl _) _
        have h := same_any (hp.below hal) (Ps.new1 u ⟨#[98]⟩ ⟨#[49]⟩)
        have e : decide ([(⟨s1 98, s1 49⟩ : KV)] = [⟨⟨#[98]⟩, ⟨#[49]⟩⟩]) = true := decide_eq_true rfl
        rw [e] at h
        exact h.mono (fun e W' h => ⟨h.1, hal.trans (h.2.mono hal.size)⟩))
      go_upto_region 17 with (first
        | (go_at_call 29; refine (HRG.out _ (Below.refl _ _)).mono ?_; rintro e w11 ⟨a1, n1, c1, rfl, hp1, hb1⟩; have HP1 := Lib.hid hp1; have HB1 := Lib.hid hb1; clear hp1 hb1)
        | (go_at_call 30; refine (HSM.out _ _ _ _ HP1.out).mono ?_; rintro e w12 ⟨rfl, hb12⟩; have HB12 := Lib.hid (HB1.out.trans (hb12.mono HB1.out.size)); have c1 : w12.cell? ⟨X, 1, none⟩ = some (.string ⟨#[49]⟩) := cell_of_row w12 X 1 _ _ _ ((HB12.out.block _ (Array.getElem?_eq_some_iff.1 HP8.out).1).trans HP8.out); clear hb12)
        | (go_at_call 22; refine (height_any (HT.out.under HB12.out).tr HT.out.ok HHI.out).mono ?_; rintro e w13 ⟨rfl, hb13⟩; have HB13 := Lib.hid (HB12.out.trans (hb13.mono HB12.out.size)); clear hb13; rw [HH2.out]))
      have HB713 : Hid (Below W7.heap.size W7 w13) := Lib.hid (HB.out.trans (HB13.out.mono HB.out.size))
      clear c1
      have HDF : Hid (∀ u, Below w13.heap.size w13 u → Calls Try.prog 32 #[.pointer (some ⟨gA, 0, none⟩), .pointer (some ⟨gB, 0, none⟩)] u fun e W' => ∃ a n c, e = .returned (.slice a n c) ∧ Es (fun _ => True) W' a n c livE ∧ Below u.heap.size u W') := Lib.hid (fun u hu => by
        have h := diff_any ((HTA7.out.under HB713.out).under hu) ((HTB7.out.under HB713.out).under hu) (by rw [HLA2.out]; decide) (by rw [HLB2.out]; decide)
        rw [HLA2.out, HLB2.out, livE_eq] at h
        refine h.mono ?_
        rintro e W' ⟨v, rfl, hr, hb⟩
        obtain ⟨a, n, c, rfl, hp⟩ := Es.row hr
        exact ⟨a, n, c, rfl, ⟨hp.1, hp.2.dom (fun _ _ => trivial)⟩, hb⟩)
      go_upto_region 18 with fail
      have hal : Below w13.heap.size w13 (w13.alloc (.cells #[.string ⟨#[98]⟩, .string ⟨#[]⟩, .bool true, .string ⟨#[100]⟩, .string ⟨#[51]⟩, .bool false, .string ⟨#[101]⟩, .string ⟨#[52]⟩, .bool false] 61)) := (Below.refl _ w13).alloc (Nat.le_refl _) _
      have hes : Es (fun _ => True) (w13.alloc (.cells #[.string ⟨#[98]⟩, .string ⟨#[]⟩, .bool true, .string ⟨#[100]⟩, .string ⟨#[51]⟩, .bool false, .string ⟨#[101]⟩, .string ⟨#[52]⟩, .bool false] 61)) (some ⟨w13.heap.size, 0, none⟩) 3 3 livE := Es.new3 w13 ⟨⟨#[98]⟩, ⟨#[]⟩, true⟩ ⟨⟨#[100]⟩, ⟨#[51]⟩, false⟩ ⟨⟨#[101]⟩, ⟨#[52]⟩, false⟩
      obtain ⟨w14, hw14⟩ : ∃ z, z = w13.alloc (.cells #[.string ⟨#[98]⟩, .string ⟨#[]⟩, .bool true, .string ⟨#[100]⟩, .string ⟨#[51]⟩, .bool false, .string ⟨#[101]⟩, .string ⟨#[52]⟩, .bool false] 61) := ⟨_, rfl⟩
      rw [← hw14] at hal hes ⊢
      have HAL := Lib.hid hal
      have HES := Lib.hid hes
      clear hw14 hal hes
      have HSE : Hid (∀ (u : World) (a : Option Addr) (n c : Nat), Below w14.heap.size w14 u → Es (fun _ => True) u a n c livE → Calls Try.prog 33 #[.slice a n c, .slice (some ⟨w13.heap.size, 0, none⟩) 3 3] u fun e W' => e = .returned (.bool true) ∧ Below u.heap.size u W') := Lib.hid (fun u a n c hu hp => by
        have h := sameE_any hp (HES.out.below hu)
        rw [decide_eq_true rfl] at h
        exact h)
      have HL0 : Hid (∀ u, Below w14.heap.size w14 u → Calls Try.prog 23 #[.pointer (some ⟨g0, 0, none⟩)] u fun e W' => e = .returned (.int .i64 0) ∧ u = W') := Lib.hid (fun u hu => len_any (((HT07.out.under HB713.out).under HAL.out).under hu).tr)
      have HLA : Hid (∀ u, Below w14.heap.size w14 u → Calls Try.prog 23 #[.pointer (some ⟨gA, 0, none⟩)] u fun e W' => e = .returned (.int .i64 2) ∧ u = W') := Lib.hid (fun u hu => by
        have h := len_any (((HTA7.out.under HB713.out).under HAL.out).under hu).tr
        rw [HLA2.out] at h
        exact h)
      go_wp2_with (first
        | (go_at_call 32; refine (HDF.out _ HAL.out).mono ?_; rintro e w15 ⟨a2, n2, c2, rfl, hp2, hb2⟩; have HP2 := Lib.hid hp2; have HB2 := Lib.hid hb2; clear hp2 hb2)
        | (go_at_call 33; refine (HSE.out _ _ _ _ HB2.out HP2.out).mono ?_; rintro e w16 ⟨rfl, hb16⟩; have HB16 := Lib.hid (HB2.out.trans (hb16.mono HB2.out.size)); clear hb16)
        | (go_at_call_has 23 (Value.pointer (some ⟨g0, 0, none⟩)); refine (HL0.out _ HB16.out).mono ?_; rintro e w17 ⟨rfl, rfl⟩)
        | (go_at_call_has 23 (Value.pointer (some ⟨gA, 0, none⟩)); refine (HLA.out _ HB16.out).mono ?_; rintro e w17 ⟨rfl, rfl⟩))
      go_ret
      exact ⟨rfl, HBW7.out.trans ((HB713.out.trans ((HAL.out.trans (HB16.out.mono HAL.out.size)).mono HB713.out.size)).mono HBW7.out.size)⟩
end Go.Proofs.Ytfgmhidgkemfoaa
namespace Go.Proofs.Ytfgmhidgkemfoaa
open Go.RowKit
set_option linter.unusedSimpArgs false
set_option linter.unusedVariables false
attribute [local go_sem ↓] exec_loadPair exec_storePair exec_at_zeroP exec_at_succP Go.wp_at_zero Go.wp_at_succ
attribute [local go_sem] run_storePair
theorem filt_app {P : KV → Bool} {A B : List KV} (hA : ∀ a ∈ A, P a = true) (hB : ∀ b ∈ B, P b = false) : (A ++ B).filter P = A := by
  rw [List.filter_append, List.filter_eq_self.2 hA, List.filter_eq_nil_iff.2 (fun b hb => by simp [hB b hb]), List.append_nil]
theorem filt_app2 {P : KV → Bool} {A B : List KV} (hA : ∀ a ∈ A, P a = false) (hB : ∀ b ∈ B, P b = true) : (A ++ B).filter P = B := by
  rw [List.filter_append, List.filter_eq_self.2 hB, List.filter_eq_nil_iff.2 (fun b hb => by simp [hA b hb]), List.nil_append]
theorem befK_lt {u : ByteArray} {p : KV} (h : cmpK p.k u < 0) : befK u p = true := by unfold befK; simp [h]
theorem befK_ge {u : ByteArray} {p : KV} (hu : u ≠ emptyS) (h : 0 ≤ cmpK p.k u) : befK u p = false := by
  unfold befK
  have : ¬ cmpK p.k u < 0 := by omega
  simp [hu, this]
/-- the part ahead of a key -/
theorem rng_upto {L : List KV} (hs : Sorted L) {u : ByteArray} (hu : u ≠ emptyS) : ∃ A B, L = A ++ B ∧ (∀ a ∈ A, cmpK a.k u < 0) ∧ (∀ b ∈ B, 0 ≤ cmpK b.k u) ∧ rngL emptyS u L = A ∧ rngL u emptyS L = B := by
  obtain ⟨A, B, rfl, -, hA, hB, -⟩ := at_key hs u
  refine ⟨A, B, rfl, hA, hB, ?_, ?_⟩
  · rw [← rngR_rng hs]
    exact filt_app (fun a ha => by simp [cmpK_emp, befK_lt (hA a ha)]) (fun b hb => by simp [befK_ge hu (hB b hb)])
  · rw [← rngR_rng hs]
    exact filt_app2 (fun a ha => by have := hA a ha; simp; intro h; omega) (fun b hb => by have := hB b hb; simp [befK, this])
theorem cmpK_le2 {a b c : ByteArray} (h : cmpK a b < 0) (h2 : ¬ cmpK c b < 0) : cmpK a c < 0 := by
  have h3 := cmpK_flip c b
  exact cmpK_le h (by omega)
theorem rng_three {L : List KV} (hs : Sorted L) {lo hi : ByteArray} (hl : lo ≠ emptyS) (hh : hi ≠ emptyS) (hle : ¬ cmpK hi lo < 0) : rngL emptyS lo L ++ rngL lo hi L ++ rngL hi emptyS L = L := by
  obtain ⟨A, B, hAB, hA, hB, e1, -⟩ := rng_upto hs hl
  have hsB : Sorted B := (sorted_app.1 (hAB ▸ hs)).2.1
  obtain ⟨B1, B2, hB12, hB1, hB2, -, -⟩ := rng_upto hsB hh
  have hge : ∀ a ∈ A, cmpK a.k hi < 0 := fun a ha => cmpK_le2 (hA a ha) hle
  have e2 : rngL lo hi L = B1 := by
    rw [← rngR_rng hs, hAB, hB12, List.filter_append, List.filter_append,
      List.filter_eq_nil_iff.2 (fun a ha => by have := hA a ha; simp; intro h; omega),
      List.filter_eq_self.2 (fun b hb => by
        have h1 := hB b (by rw [hB12]; exact List.mem_append.2 (.inl hb))
        simp [h1, befK_lt (hB1 b hb)]),
      List.filter_eq_nil_iff.2 (fun b hb => by simp [befK_ge hh (hB2 b hb)])]
    simp
  have e3 : rngL hi emptyS L = B2 := by
    rw [← rngR_rng hs, hAB, hB12, List.filter_append, List.filter_append,
      List.filter_eq_nil_iff.2 (fun a ha => by have := hge a ha; simp; intro h; omega),
      List.filter_eq_nil_iff.2 (fun b hb => by have := hB1 b hb; simp; intro h; omega),
      List.filter_eq_self.2 (fun b hb => by simp [hB2 b hb, befK])]
    simp
  rw [e1, e2, e3, hAB, hB12, List.append_assoc]
/-- where there is no such key, the greatest pair up to a key is the last one of the range up to it -/
theorem floor_rng {L : List KV} (hs : Sorted L) {u : ByteArray} (hu : u ≠ emptyS) (hg : gotF (floorL L u) u = none) : floorL L u = (rngL emptyS u L).getLast? := by
  have hno := got_none hs hg
  obtain ⟨A, B, hAB, hA, hB, e1, -⟩ := rng_upto hs hu
  rw [e1, hAB]
  have hB' : ∀ b ∈ B, 0 < cmpK b.k u := fun b hb => by
    have h1 := hB b hb
    have h2 : cmpK b.k u ≠ 0 := fun e => hno b (by rw [hAB]; exact List.mem_append.2 (.inr hb)) ((cmpK_eq _ _).1 e)
    omega
  unfold floorL
  rw [List.filter_append, List.filter_eq_self.2 (fun a ha => by have := hA a ha; simp; omega), List.filter_eq_nil_iff.2 (fun b hb => by have := hB' b hb; simp; omega), List.append_nil]
theorem floor_got {L : List KV} {u v : ByteArray} (hg : gotF (floorL L u) u = some v) : floorL L u = some ⟨u, v⟩ := by
  unfold gotF at hg
  cases hF : floorL L u with
  | none => rw [hF] at hg; cases hg
  | some p =>
    rw [hF] at hg
    simp only at hg
    by_cases hk : p.k = u
    · rw [if_pos hk] at hg
      rw [KV.ext' (q := ⟨u, v⟩) hk (Option.some.inj hg)]
    · rw [if_neg hk] at hg
      cases hg
theorem lt_cmpK (a b : ByteArray) : a.data.toList < b.data.toList ↔ cmpK a b < 0 := by
  have h := less_cmpK a b
  rw [Proofs.bytesLess_eq, ByteArray.toList_eq, ByteArray.toList_eq] at h
  constructor
  · intro h1
    have h2 : decide (a.data.toList < b.data.toList) = true := decide_eq_true h1
    rw [h] at h2
    simpa using h2
  · intro h1
    have h2 : decide (cmpK a b < 0) = true := decide_eq_true h1
    rw [← h] at h2
    simpa using h2
theorem min_max (a b : ByteArray) : ∃ lo hh, Lib.minS a b = lo ∧ Lib.maxS a b = hh ∧ ¬ cmpK hh lo < 0 := by
  refine ⟨_, _, rfl, rfl, ?_⟩
  unfold Lib.minS Lib.maxS
  by_cases h : cmpK a b < 0
  · have h1 := (lt_cmpK a b).2 h
    have h2 := cmpK_flip a b
    simp only [h1, true_or, if_true]
    omega
  · have h1 : ¬ a.data.toList < b.data.toList := fun e => h ((lt_cmpK a b).1 e)
    by_cases he : a.data.toList = b.data.toList
    · rw [if_neg h1, if_pos (Or.inr he), (cmpK_eq a a).2 rfl]
      omega
    · rw [if_neg h1, if_neg (fun e => e.elim h1 he)]
      exact h
def Drg15 : List (Option Tmp) := [some 91, some 92, some 93, some 94, some 95, some 96, some 97, some 98, some 99, some 100, some 101, some 102, some 103, some 104, some 105, some 106, some 107, some 108, some 109]
def Lrg15 : List (List Nat) := [[], [], [1], [2], [0, 3], [4], [5], [6, 5], [7], [7], [7], [10, 7], [11, 7], [12, 7], [9, 13, 7], [14, 7], [8, 15, 7], [7, 16, 5], [5, 17]]
set_option maxRecDepth 100000 in
set_option maxHeartbeats 4000000 in
theorem treeranges_any (n step : Int) (a b : ByteArray) (w : World) (hn1 : -9223372036854775808 ≤ n) (hn2 : n ≤ 9223372036854775807) (hs1 : -9223372036854775808 ≤ step) (hs2 : step ≤ 9223372036854775807) : Calls Try.prog 10 #[.int .i64 n, .int .i64 step, .string a, .string b] w fun e w' => e = .returned (.bool true) ∧ Below w.heap.size w w' := by
  obtain ⟨i0, hi, hz0, hz1, hz2⟩ := info_parts infoP
  have HA1 := Lib.hid (aroundT_any n 301 w hn1 hn2 (by omega) (by omega))
  have HA2 := Lib.hid (aroundT_any step 3988 w hs1 hs2 (by omega) (by omega))
  have hbd1 := aroundT_bd n 301 (by omega)
  have hbd2 := aroundT_bd step 3988 (by omega)
  obtain ⟨m, hm⟩ : ∃ m : Nat, aroundT n 301 = (m : Int) := ⟨(aroundT n 301).toNat, by omega⟩
  obtain ⟨q, hq⟩ : ∃ q : Nat, aroundT step 3988 = (q : Int) := ⟨(aroundT step 3988).toNat, by omega⟩
  rw [hm] at HA1 hbd1
  rw [hq] at HA2 hbd2
  have hw1 : IntKind.i64.wrap ((1 : Int) + (q : Int)) = ((q + 1 : Nat) : Int) := by rw [i64_id _ (by omega) (by omega)]; omega
  have hM : Hid (m ≤ 300) := Lib.hid (by omega)
  have hQ : Hid (q + 1 ≤ 4000) := Lib.hid (by omega)
  clear hm hq hbd1 hbd2 hn1 hn2 hs1 hs2
  obtain ⟨lo, hh, hlo, hhi, hle⟩ := min_max a b
  have hmn : ∀ (w : World) (ts : Array TypeId) (t : TypeId), (Builtin.min_ ts t #[.string a, .string b]).run Try.prog w = .ok (.string lo) w := fun w ts t => by rw [← hlo]; exact Lib.run_min_strs w ts t a b
  have hmx : ∀ (w : World) (ts : Array TypeId) (t : TypeId), (Builtin.max_ ts t #[.string a, .string b]).run Try.prog w = .ok (.string hh) w := fun w ts t => by rw [← hhi]; exact Lib.run_max_strs w ts t a b
  have HLE := Lib.hid hle
  clear hlo hhi hle
  go_enter Try.func10, Try.ntmps10
  go_upto_region 4 with (first
    | (go_at_call_has 16 (Value.int IntKind.i64 301); refine HA1.out.mono ?_; rintro e w2 ⟨rfl, rfl⟩)
    | (go_at_call_has 16 (Value.int IntKind.i64 3988); refine HA2.out.mono ?_; rintro e w2 ⟨rfl, rfl⟩)
    | (go_at_call 20; refine (many_any m (q + 1) false (Nat.le_trans hM.out (by omega)) hQ.out _).mono ?_; rintro e w1 ⟨g, t, H, ap, np, cp, rfl, htp, hlen, hb1⟩; have HT := Lib.hid htp.tt; have HLEN : Hid ((treeL t).length ≤ 300) := Lib.hid (Nat.le_trans hlen hM.out); have HB1 := Lib.hid hb1; clear htp hlen hb1))
  go_upto_region 6 with fail
  clear hmn hmx
  have HLV : Hid (∀ u, Below w1.heap.size w1 u → Calls Try.prog 19 #[] u fun e w' => e = .returned (.bool true) ∧ Below w.heap.size w w') := Lib.hid (fun u hu => (lives_any u).mono (fun e w' h => ⟨h.1, HB1.out.trans ((hu.trans (h.2.mono hu.size)).mono HB1.out.size)⟩))
  by_cases hl : lo = emptyS
  · have hl2 : lo.toList.isEmpty = true := by rw [emp_iff]; simpa using hl
    clear hl
    go_wp2_with (go_at_call 19; refine (HLV.out _ (Below.refl _ _)).mono ?_; rintro e w2 ⟨rfl, hb⟩)
    go_ret
    exact ⟨rfl, hb⟩
  have hl2 : lo.toList.isEmpty = false := by rw [emp_iff]; simpa using hl
  by_cases hu : hh = emptyS
  · have hu2 : hh.toList.isEmpty = true := by rw [emp_iff]; simpa using hu
    clear hl hu
    go_wp2_with (go_at_call 19; refine (HLV.out _ (Below.refl _ _)).mono ?_; rintro e w2 ⟨rfl, hb⟩)
    go_ret
    exact ⟨rfl, hb⟩
  have hu2 : hh.toList.isEmpty = false := by rw [emp_iff]; simpa using hu
  have HL := Lib.hid hl
  have HU := Lib.hid hu
  clear hl hu
  have HRNG : Hid (∀ (u : World) (f v : ByteArray), Below w1.heap.size w1 u → Calls Try.prog 29 #[.pointer (some ⟨g, 0, none⟩), .string f, .string v] u fun e W' => ∃ z, e = .returned z ∧ W'.ownsRow u.heap.size 65 2 z (rngL f v (treeL t)).length (pcells (rngL f v (treeL t))) ∧ Below u.heap.size u W') := Lib.hid (fun u f v hu => range_any (HT.out.under hu) f v (Nat.le_trans HLEN.out (by omega)))
  have HSO : Hid (Sorted (treeL t)) := Lib.hid HT.out.so
  obtain ⟨L, hL⟩ : ∃ L, L = treeL t := ⟨_, rfl⟩
  rw [← hL] at HRNG HSO HLEN
  obtain ⟨L1, hL1⟩ : ∃ L1, L1 = rngL emptyS lo L := ⟨_, rfl⟩
  obtain ⟨L2, hL2⟩ : ∃ L2, L2 = rngL lo hh L := ⟨_, rfl⟩
  obtain ⟨L3, hL3⟩ : ∃ L3, L3 = rngL hh emptyS L := ⟨_, rfl⟩
  have HSUM : Hid (L1 ++ L2 ++ L3 = L) := Lib.hid (by rw [hL1, hL2, hL3]; exact rng_three HSO.out HL.out HU.out (by have := HLE.out; omega))
  have HLENS : Hid (L1.length + L2.length + L3.length ≤ 300) := Lib.hid (by have h := HSUM.out; have h2 := congrArg List.length h; rw [List.length_append, List.length_append] at h2; have := HLEN.out; omega)
  have HBB : Hid (0 + L1.length + L2.length ≤ maxLen ∧ (L1.length + L2.length) * 32 ≤ 140737488355328 ∧ (L1.length + L2.length + L3.length) ≤ maxLen ∧ (L1.length + L2.length + L3.length) * 32 ≤ 140737488355328 ∧ L1.length + L2.length ≤ maxLen) := Lib.hid (by have := HLENS.out; unfold maxLen; omega)
  have HR1 : Hid (Calls Try.prog 29 #[.pointer (some ⟨g, 0, none⟩), .string ⟨#[]⟩, .string lo] w1 fun e W' => ∃ z, e = .returned z ∧ W'.ownsRow w1.heap.size 65 2 z L1.length (pcells L1) ∧ Below w1.heap.size w1 W') := Lib.hid (by rw [hL1]; exact HRNG.out w1 ⟨#[]⟩ lo (Below.refl _ _))
  have HR2 : Hid (∀ u, Below w1.heap.size w1 u → Calls Try.prog 29 #[.pointer (some ⟨g, 0, none⟩), .string lo, .string hh] u fun e W' => ∃ z, e = .returned z ∧ W'.ownsRow u.heap.size 65 2 z L2.length (pcells L2) ∧ Below u.heap.size u W') := Lib.hid (fun u hu => by rw [hL2]; exact HRNG.out u lo hh hu)
  have HR3 : Hid (∀ u, Below w1.heap.size w1 u → Calls Try.prog 29 #[.pointer (some ⟨g, 0, none⟩), .string hh, .string ⟨#[]⟩] u fun e W' => ∃ z, e = .returned z ∧ W'.ownsRow u.heap.size 65 2 z L3.length (pcells L3) ∧ Below u.heap.size u W') := Lib.hid (fun u hu => by rw [hL3]; exact HRNG.out u hh ⟨#[]⟩ hu)
  clear hL1 hL2 hL3
  go_upto_region 9 with (first
    | (go_at_call_has 29 (Value.string hh); refine (HR2.out _ HB2.out).mono ?_; rintro e w3 ⟨z2, rfl, hr2, hb3⟩; obtain ⟨a2, n2, c2, rfl, hp2⟩ := Ps.row hr2; obtain rfl : L2.length = n2 := hp2.1; have HP2 := Lib.hid hp2; have HB3 := Lib.hid hb3; have HO3 := Lib.hid (HO2.out.kept (Kept.of_below (fun _ => False) hb3) (fun _ _ h => h)); clear hr2 hb3 hp2)
    | (go_at_call 29; refine HR1.out.mono ?_; rintro e w2 ⟨z1, rfl, hr1, hb2⟩; obtain ⟨ho1, hbk1⟩ := Own.ofRow hr1; have HO2 := Lib.hid ho1; have HBK1 := Lib.hid hbk1; have HB2 := Lib.hid hb2; clear hr1 hb2 ho1 hbk1)
    | (at_builtin; refine wpList_append_any _ rfl (.tmp 47) (.tmp 51) 26 26 rfl 65 i0 (.agg #[.string ⟨#[]⟩, .string ⟨#[]⟩]) 2 32 Try.underlying26 hi hz0 hz1 hz2 rfl z1.ownBlock z1 L1.length (pcells L1) rfl HO3.out L2.length (pcells L2) (HP2.out.2.src Try.underlying26 (pcells_one _)) HBB.out.2.2.2.2 HBB.out.2.1 ?_; intro k4 v4 w4 ho4 hf4 hK4 _; have HO4 := Lib.hid ho4; have HF4 := Lib.hid hf4; have HK4 := Lib.hid hK4; clear ho4 hf4 hK4))
  have HB4 : Hid (Below w1.heap.size w1 w4) := Lib.hid (HB2.out.trans ((HB3.out.mono HB2.out.size).trans (HK4.out.below (Nat.le_trans HB2.out.size HB3.out.size) (fun j hj e => by have := HBK1.out j e; omega))))
  have HF4W : Hid (∀ j, k4 = some j → w1.heap.size ≤ j) := Lib.hid (fun j hj => by
    rcases HF4.out j hj with h | h
    · exact HBK1.out j h
    · exact Nat.le_trans (Nat.le_trans HB2.out.size HB3.out.size) h)
  clear HO2 HO3 HP2 HBK1 HB2 HB3 HF4 HK4 HR1 HR2
  go_upto_region 10 with (first
    | (go_at_call 29; refine (HR3.out _ HB4.out).mono ?_; rintro e w5 ⟨z3, rfl, hr3, hb5⟩; obtain ⟨a3, n3, c3, rfl, hp3⟩ := Ps.row hr3; obtain rfl : L3.length = n3 := hp3.1; have HP3 := Lib.hid hp3; have HB5 := Lib.hid hb5; have HO5 := Lib.hid (HO4.out.kept (Kept.of_below (fun _ => False) hb5) (fun _ _ h => h)); clear hr3 hb5 hp3)
    | (at_builtin; refine wpList_append_any _ rfl (.tmp 53) (.tmp 56) 26 26 rfl 65 i0 (.agg #[.string ⟨#[]⟩, .string ⟨#[]⟩]) 2 32 Try.underlying26 hi hz0 hz1 hz2 rfl k4 v4 (L1.length + L2.length) _ rfl HO5.out L3.length (pcells L3) (HP3.out.2.src Try.underlying26 (pcells_one _)) HBB.out.2.2.1 HBB.out.2.2.2.1 ?_; intro k6 v6 w6 ho6 hf6 hK6 _; have HO6 := Lib.hid ho6; have HK6 := Lib.hid hK6; clear ho6 hf6 hK6))
  obtain ⟨aL, cL, rfl, hsl⟩ := HO6.out.sl
  have HB6 : Hid (Below w1.heap.size w1 w6) := Lib.hid (HB4.out.trans ((HB5.out.mono HB4.out.size).trans (HK6.out.below (Nat.le_trans HB4.out.size HB5.out.size) (fun j hj e => by have := HF4W.out j e; omega))))
  have hll : L1.length + L2.length + L3.length = L.length := by have h := congrArg List.length HSUM.out; rw [List.length_append, List.length_append] at h; exact h
  have hpl : pcells L1 ++ pcells L2 ++ pcells L3 = pcells L := by rw [← HSUM.out, pcells_app, pcells_app]
  rw [hll, hpl] at hsl
  rw [hll]
  have HALL : Hid (Ps (fun _ => True) w6 aL L.length cL L) := Lib.hid ⟨rfl, hsl.dom (fun _ _ => trivial)⟩
  clear hsl hll hpl HO4 HO5 HP3 HB4 HF4W HB5 HO6 HK6 HR3 HBB
  have HT6 := Lib.hid (HT.out.under HB6.out)
  obtain ⟨Fl, hFl⟩ : ∃ Fl, Fl = floorL L hh := ⟨_, rfl⟩
  obtain ⟨P, hP⟩ : ∃ P, P = fkv Fl := ⟨_, rfl⟩
  obtain ⟨G, hG⟩ : ∃ G, G = gotF Fl hh := ⟨_, rfl⟩
  have HFLR : Hid (∀ u, Below w6.heap.size w6 u → Calls Try.prog 35 #[.pointer (some ⟨g, 0, none⟩), .string hh] u fun e w' => e = .returned (.tuple #[.agg #[.string P.k, .string P.v], .bool Fl.isSome]) ∧ Below u.heap.size u w') := Lib.hid (fun u hu => by
    have h := floor_any (HT6.out.under hu).tr HT6.out.ok HT6.out.so hh
    rw [← hL, ← hFl] at h
    rw [hP]
    exact h)
  have HGET : Hid (∀ u, Below w6.heap.size w6 u → Calls Try.prog 36 #[.pointer (some ⟨g, 0, none⟩), .string hh] u fun e w' => e = .returned (.tuple #[.string (strO G), .bool G.isSome]) ∧ Below u.heap.size u w') := Lib.hid (fun u hu => by
    have h := get_any (HT6.out.under hu).tr HT6.out.ok HT6.out.so hh
    rw [← hL, ← hFl, ← hG] at h
    exact h)
  have HRN : Hid (∀ u f v, Below w6.heap.size w6 u → Calls Try.prog 29 #[.pointer (some ⟨g, 0, none⟩), .string f, .string v] u fun e W' => ∃ a n c, e = .returned (.slice a n c) ∧ Ps (fun _ => True) W' a n c (rngL f v L) ∧ Below u.heap.size u W') := Lib.hid (fun u f v hu => (HRNG.out u f v (HB6.out.trans (hu.mono HB6.out.size))).mono (fun e W' h => by
    obtain ⟨z, rfl, hr, hb⟩ := h
    obtain ⟨a, n, c, rfl, hp⟩ := Ps.row hr
    exact ⟨a, n, c, rfl, hp.dom (fun _ _ => trivial), hb⟩))
  have HGF : Hid (G = gotF (floorL L hh) hh) := Lib.hid (by rw [hG, hFl])
  have HFF : Hid (Fl = floorL L hh) := Lib.hid hFl
  have HPP : Hid (P = fkv Fl) := Lib.hid hP
  clear hFl hP hG hL
  go_upto_region 13 with (first
    | (go_at_call 35; refine (HFLR.out _ (Below.refl _ _)).mono ?_; rintro e w7 ⟨rfl, hb7⟩; have HB7 := Lib.hid hb7; have p7 : PB (w7.alloc (.cells #[.string ⟨#[]⟩, .string ⟨#[]⟩] 65)) w7.heap.size := ⟨⟨⟨#[]⟩, ⟨#[]⟩⟩, heap_new rfl⟩; have HX7 : Hid (Below w7.heap.size w7 ((w7.alloc (.cells #[.string ⟨#[]⟩, .string ⟨#[]⟩] 65)).setRow w7.heap.size #[.string P.k, .string P.v])) := Lib.hid ((((Kept.of_below (fun _ => False) (Below.refl w7.heap.size w7)).alloc _).setRow (fun h => by omega) _).below (Nat.le_refl _) (fun _ _ h => h)); clear hb7)
    | (go_at_call 36; refine (HGET.out _ (HB7.out.trans (HX7.out.mono HB7.out.size))).mono ?_; rintro e w8 ⟨rfl, hb8⟩; have HB8 := Lib.hid (HB7.out.trans ((HX7.out.trans (hb8.mono HX7.out.size)).mono HB7.out.size)); have HP8 : Hid (w8.heap[w7.heap.size]? = some (.cells #[.string P.k, .string P.v] 65 (0, 0))) := Lib.hid ((hb8.block _ (by simp [World.setRow])).trans (setRow_heap _ _ _ _ _ _ (heap_new rfl))); clear hb8)
    | (go_at_call 29; refine (HRN.out _ _ _ HB8.out).mono ?_; rintro e W ⟨aB, nB, cB, rfl, hpB, hb9⟩; have HPB : Hid (Ps (fun _ => True) W aB nB cB (rngL emptyS hh L)) := Lib.hid hpB; have HB9 := Lib.hid (HB8.out.trans (hb9.mono HB8.out.size)); have HP9 : Hid (W.heap[w7.heap.size]? = some (.cells #[.string P.k, .string P.v] 65 (0, 0))) := Lib.hid ((hb9.block _ (Array.getElem?_eq_some_iff.1 HP8.out).1).trans HP8.out); clear hpB hb9))
  have HSAME : Hid (∀ (u : World) (a : Option Addr) (n c : Nat), Below w6.heap.size w6 u → Ps (fun _ => True) u a n c L → Calls Try.prog 30 #[.slice aL L.length cL, .slice a n c] u fun e W' => e = .returned (.bool true) ∧ Below u.heap.size u W') := Lib.hid (fun u a n c hu hp => by
    have h := same_any (HALL.out.below hu) hp
    rw [decide_eq_true rfl] at h
    exact h)
  clear HB8 HP8 HX7 HB7 p7 HFLR HGET HRNG HALL
  cases G with
  | some v =>
    have hfl : Fl = some ⟨hh, v⟩ := by rw [HFF.out]; exact floor_got HGF.out.symm
    obtain rfl : P = ⟨hh, v⟩ := by rw [HPP.out, hfl]; rfl
    subst hfl
    have ld0 := run_loadPair (p := (⟨hh, v⟩ : KV)) (range_kv HP9.out)
    simp only [strO, Option.isSome_some]
    go_wp2_with (first
        | (go_at_call 29; refine (HRN.out _ ⟨#[]⟩ ⟨#[]⟩ (HB9.out)).mono ?_; rintro e w10 ⟨aE, nE, cE, rfl, hpE, hb10⟩; have HPE : Hid (Ps (fun _ => True) w10 aE nE cE L) := Lib.hid (by have h : Ps (fun _ => True) w10 aE nE cE (rngL emptyS emptyS L) := hpE; rw [rngL_emp] at h; exact h); have HB10 := Lib.hid ((HB9.out).trans (hb10.mono (HB9.out).size)); clear hpE hb10)
        | (go_at_call 30; refine (HSAME.out _ _ _ _ HB10.out HPE.out).mono ?_; rintro e w11 ⟨rfl, hb11⟩; have HB11 := Lib.hid (HB10.out.trans (hb11.mono HB10.out.size)); clear hb11)
        | (go_at_call 19; refine (HLV.out _ (HB6.out.trans (HB11.out.mono HB6.out.size))).mono ?_; rintro e w12 ⟨rfl, hb12⟩))
    go_ret
    exact ⟨rfl, hb12⟩
  | none =>
    have hfl : Fl = (rngL emptyS hh L).getLast? := by rw [HFF.out]; exact floor_rng HSO.out HU.out HGF.out.symm
    simp only [strO, Option.isSome_none]
    obtain ⟨BL, hBL⟩ : ∃ BL, BL = rngL emptyS hh L := ⟨_, rfl⟩
    rw [← hBL] at hfl HPB
    clear hBL
    have hnB := HPB.out.1
    have HN : Hid (BL.length = nB) := Lib.hid hnB
    have hnBm : nB ≤ 9223372036854775807 := Nat.le_trans HPB.out.2.2.1 HPB.out.2.2.2.1
    rcases BL.eq_nil_or_concat with hnil | ⟨B0, x, hcat⟩
    · subst hnil
      obtain rfl : Fl = none := hfl
      obtain rfl : (0 : Nat) = nB := hnB
      clear hnBm
      go_upto_region 15 with fail
      refine Roll.region_f 19 117 Drg15 Lrg15 [(15, .pointer (some ⟨w7.heap.size, 0, none⟩)), (16, .bool false), (19, .slice aB 0 cB)] (fun p => Below W.heap.size W p) (fun p p2 => Below p.heap.size p p2) [fun vv p => vv = .bool false, fun vv p => vv = .slice aB 0 cB, fun vv p => vv = .int .i64 0, fun vv p => vv = .bool false, fun vv p => vv = .bool false, fun vv p => vv = .bool false, fun vv p => vv = .bool false, fun vv p => vv = .bool false, fun vv p => vv = undef, fun vv p => vv = undef, fun vv p => vv = undef, fun vv p => vv = undef, fun vv p => vv = undef, fun vv p => vv = undef, fun vv p => vv = undef, fun vv p => vv = undef, fun vv p => vv = undef, fun vv p => vv = .bool false, fun vv p => vv = .bool false] (by kernel_rfl) (by kernel_rfl) rfl ⟨rfl, rfl, rfl, trivial⟩ ((Below.refl _ _).drew) ?_ ?_ ?_
      · exact ⟨fun _ _ _ _ h => h, fun _ _ _ _ h => h, fun _ _ _ _ h => h, fun _ _ _ _ h => h, fun _ _ _ _ h => h, fun _ _ _ _ h => h, fun _ _ _ _ h => h, fun _ _ _ _ h => h, fun _ _ _ _ h => h, fun _ _ _ _ h => h, fun _ _ _ _ h => h, fun _ _ _ _ h => h, fun _ _ _ _ h => h, fun _ _ _ _ h => h, fun _ _ _ _ h => h, fun _ _ _ _ h => h, fun _ _ _ _ h => h, fun _ _ _ _ h => h, fun _ _ _ _ h => h, trivial⟩
      · intro b0 hN hlv
        refine ⟨?_, ?_, ?_, ?_, ?_, ?_, ?_, ?_, ?_, ?_, ?_, ?_, ?_, ?_, ?_, ?_, ?_, ?_, ?_, trivial⟩
        · intro vs p hI hp
          have e16 : (Roll.putD Drg15 vs [] b0).eval (.tmp 16) = .bool false := (Roll.eval_old rfl).trans (hlv.at 1 (16, .bool false) rfl)
          clear hp hlv hN
          unfold Roll.Goes
          simp only [Lrg15, List.getD_cons_zero, List.getD_cons_succ]
          generalize Roll.putD Drg15 vs [] b0 = a1 at *
          refine Roll.goes_val (w' := p) (.bool false) rfl ?_ ⟨hI, Below.refl _ _, rfl⟩
          (have ec : ∀ x, a1.eval (.const x) = x := fun _ => rfl); (have ef : ∀ x, a1.eval (.func x) = .func (.func x) #[] #[] := fun _ => rfl); generalize a1.eval = ρ at *
          skip
          go_simp <;> (intros; first | (exfalso; omega) | rfl | omega)
        · intro vs p hI hp
          have e19 : (Roll.putD Drg15 vs [] b0).eval (.tmp 19) = .slice aB 0 cB := (Roll.eval_old rfl).trans (hlv.at 2 (19, .slice aB 0 cB) rfl)
          clear hp hlv hN
          unfold Roll.Goes
          simp only [Lrg15, List.getD_cons_zero, List.getD_cons_succ]
          generalize Roll.putD Drg15 vs [] b0 = a1 at *
          refine Roll.goes_val (w' := p) (.slice aB 0 cB) rfl ?_ ⟨hI, Below.refl _ _, rfl⟩
          (have ec : ∀ x, a1.eval (.const x) = x := fun _ => rfl); (have ef : ∀ x, a1.eval (.func x) = .func (.func x) #[] #[] := fun _ => rfl); generalize a1.eval = ρ at *
          skip
          go_simp <;> (intros; first | (exfalso; omega) | rfl | omega)
        · intro vs p hI hp
          have h1 : (vs 1) = .slice aB 0 cB := hp 1 (by simp [Lrg15])
          have e92 : (Roll.putD Drg15 vs [1] b0).eval (.tmp 92) = .slice aB 0 cB := (Roll.eval_new 1 rfl (by decide) (by decide) (by omega)).trans h1
          clear hp hlv hN
          unfold Roll.Goes
          simp only [Lrg15, List.getD_cons_zero, List.getD_cons_succ]
          generalize Roll.putD Drg15 vs [1] b0 = a1 at *
          refine Roll.goes_val (w' := p) (.int .i64 0) rfl ?_ ⟨hI, Below.refl _ _, rfl⟩
          (have ec : ∀ x, a1.eval (.const x) = x := fun _ => rfl); (have ef : ∀ x, a1.eval (.func x) = .func (.func x) #[] #[] := fun _ => rfl); generalize a1.eval = ρ at *
          clear h1
          go_simp <;> (intros; first | (exfalso; omega) | rfl | omega)
        · intro vs p hI hp
          have h2 : (vs 2) = .int .i64 0 := hp 2 (by simp [Lrg15])
          have e93 : (Roll.putD Drg15 vs [2] b0).eval (.tmp 93) = .int .i64 0 := (Roll.eval_new 2 rfl (by decide) (by decide) (by omega)).trans h2
          clear hp hlv hN
          unfold Roll.Goes
          simp only [Lrg15, List.getD_cons_zero, List.getD_cons_succ]
          generalize Roll.putD Drg15 vs [2] b0 = a1 at *
          refine Roll.goes_val (w' := p) (.bool false) rfl ?_ ⟨hI, Below.refl _ _, rfl⟩
          (have ec : ∀ x, a1.eval (.const x) = x := fun _ => rfl); (have ef : ∀ x, a1.eval (.func x) = .func (.func x) #[] #[] := fun _ => rfl); generalize a1.eval = ρ at *
          clear h2
          go_simp <;> (intros; first | (exfalso; omega) | rfl | omega)
        · intro vs p hI hp
          have h0 : (vs 0) = .bool false := hp 0 (by simp [Lrg15])
          have h3 : (vs 3) = .bool false := hp 3 (by simp [Lrg15])
          have e91 : (Roll.putD Drg15 vs [0, 3] b0).eval (.tmp 91) = .bool false := (Roll.eval_new 0 rfl (by decide) (by decide) (by omega)).trans h0
          have e94 : (Roll.putD Drg15 vs [0, 3] b0).eval (.tmp 94) = .bool false := (Roll.eval_new 3 rfl (by decide) (by decide) (by omega)).trans h3
          clear hp hlv hN
          unfold Roll.Goes
          simp only [Lrg15, List.getD_cons_zero, List.getD_cons_succ]
          generalize Roll.putD Drg15 vs [0, 3] b0 = a1 at *
          refine Roll.goes_val (w' := p) (.bool false) rfl ?_ ⟨hI, Below.refl _ _, rfl⟩
          (have ec : ∀ x, a1.eval (.const x) = x := fun _ => rfl); (have ef : ∀ x, a1.eval (.func x) = .func (.func x) #[] #[] := fun _ => rfl); generalize a1.eval = ρ at *
          clear h0 h3
          go_simp <;> (intros; first | (exfalso; omega) | rfl | omega)
        · intro vs p hI hp
          have h4 : (vs 4) = .bool false := hp 4 (by simp [Lrg15])
          have e95 : (Roll.putD Drg15 vs [4] b0).eval (.tmp 95) = .bool false := (Roll.eval_new 4 rfl (by decide) (by decide) (by omega)).trans h4
          clear hp hlv hN
          unfold Roll.Goes
          simp only [Lrg15, List.getD_cons_zero, List.getD_cons_succ]
          generalize Roll.putD Drg15 vs [4] b0 = a1 at *
          refine Roll.goes_val (w' := p) (.bool false) rfl ?_ ⟨hI, Below.refl _ _, rfl⟩
          (have ec : ∀ x, a1.eval (.const x) = x := fun _ => rfl); (have ef : ∀ x, a1.eval (.func x) = .func (.func x) #[] #[] := fun _ => rfl); generalize a1.eval = ρ at *
          clear h4
          go_simp <;> (intros; first | (exfalso; omega) | rfl | omega)
        · intro vs p hI hp
          have h5 : (vs 5) = .bool false := hp 5 (by simp [Lrg15])
          have e16 : (Roll.putD Drg15 vs [5] b0).eval (.tmp 16) = .bool false := (Roll.eval_old rfl).trans (hlv.at 1 (16, .bool false) rfl)
          clear hp hlv hN
          refine ⟨fun hg => ?_, fun hg => absurd h5 hg⟩
          clear hg
          unfold Roll.Goes
          simp only [Lrg15, List.getD_cons_zero, List.getD_cons_succ]
          generalize Roll.putD Drg15 vs [5] b0 = a1 at *
          refine Roll.goes_val (w' := p) (.bool false) rfl ?_ ⟨hI, Below.refl _ _, rfl⟩
          (have ec : ∀ x, a1.eval (.const x) = x := fun _ => rfl); (have ef : ∀ x, a1.eval (.func x) = .func (.func x) #[] #[] := fun _ => rfl); generalize a1.eval = ρ at *
          clear h5
          go_simp <;> (intros; first | (exfalso; omega) | rfl | omega)
        · intro vs p hI hp
          have h6 : (vs 6) = .bool false := hp 6 (by simp [Lrg15])
          have h5 : (vs 5) = .bool false := hp 5 (by simp [Lrg15])
          have e97 : (Roll.putD Drg15 vs [6, 5] b0).eval (.tmp 97) = .bool false := (Roll.eval_new 6 rfl (by decide) (by decide) (by omega)).trans h6
          clear hp hlv hN
          refine ⟨fun hg => ?_, fun hg => absurd h5 hg⟩
          clear hg
          unfold Roll.Goes
          simp only [Lrg15, List.getD_cons_zero, List.getD_cons_succ]
          generalize Roll.putD Drg15 vs [6, 5] b0 = a1 at *
          refine Roll.goes_val (w' := p) (.bool false) rfl ?_ ⟨hI, Below.refl _ _, rfl⟩
          (have ec : ∀ x, a1.eval (.const x) = x := fun _ => rfl); (have ef : ∀ x, a1.eval (.func x) = .func (.func x) #[] #[] := fun _ => rfl); generalize a1.eval = ρ at *
          clear h6 h5
          go_simp <;> (intros; first | (exfalso; omega) | rfl | omega)
        · intro vs p hI hp
          have h7 : (vs 7) = .bool false := hp 7 (by simp [Lrg15])
          have e15 : (Roll.putD Drg15 vs [7] b0).eval (.tmp 15) = .pointer (some ⟨w7.heap.size, 0, none⟩) := (Roll.eval_old rfl).trans (hlv.at 0 (15, .pointer (some ⟨w7.heap.size, 0, none⟩)) rfl)
          clear hp hlv hN
          exact ⟨fun hg => absurd (h7.symm.trans hg) (by simp), fun hg => ⟨Below.refl _ _, rfl⟩⟩
        · intro vs p hI hp
          have h7 : (vs 7) = .bool false := hp 7 (by simp [Lrg15])
          have e19 : (Roll.putD Drg15 vs [7] b0).eval (.tmp 19) = .slice aB 0 cB := (Roll.eval_old rfl).trans (hlv.at 2 (19, .slice aB 0 cB) rfl)
          clear hp hlv hN
          exact ⟨fun hg => absurd (h7.symm.trans hg) (by simp), fun hg => ⟨Below.refl _ _, rfl⟩⟩
        · intro vs p hI hp
          have h7 : (vs 7) = .bool false := hp 7 (by simp [Lrg15])
          have e19 : (Roll.putD Drg15 vs [7] b0).eval (.tmp 19) = .slice aB 0 cB := (Roll.eval_old rfl).trans (hlv.at 2 (19, .slice aB 0 cB) rfl)
          clear hp hlv hN
          exact ⟨fun hg => absurd (h7.symm.trans hg) (by simp), fun hg => ⟨Below.refl _ _, rfl⟩⟩
        · intro vs p hI hp
          have h10 : (vs 10) = undef := hp 10 (by simp [Lrg15])
          have h7 : (vs 7) = .bool false := hp 7 (by simp [Lrg15])
          have e101 : (Roll.putD Drg15 vs [10, 7] b0).eval (.tmp 101) = undef := (Roll.eval_new 10 rfl (by decide) (by decide) (by omega)).trans h10
          clear hp hlv hN
          exact ⟨fun hg => absurd (h7.symm.trans hg) (by simp), fun hg => ⟨Below.refl _ _, rfl⟩⟩
        · intro vs p hI hp
          have h11 : (vs 11) = undef := hp 11 (by simp [Lrg15])
          have h7 : (vs 7) = .bool false := hp 7 (by simp [Lrg15])
          have e102 : (Roll.putD Drg15 vs [11, 7] b0).eval (.tmp 102) = undef := (Roll.eval_new 11 rfl (by decide) (by decide) (by omega)).trans h11
          clear hp hlv hN
          exact ⟨fun hg => absurd (h7.symm.trans hg) (by simp), fun hg => ⟨Below.refl _ _, rfl⟩⟩
        · intro vs p hI hp
          have h12 : (vs 12) = undef := hp 12 (by simp [Lrg15])
          have h7 : (vs 7) = .bool false := hp 7 (by simp [Lrg15])
          have e103 : (Roll.putD Drg15 vs [12, 7] b0).eval (.tmp 103) = undef := (Roll.eval_new 12 rfl (by decide) (by decide) (by omega)).trans h12
          clear hp hlv hN
          exact ⟨fun hg => absurd (h7.symm.trans hg) (by simp), fun hg => ⟨Below.refl _ _, rfl⟩⟩
        · intro vs p hI hp
          have h9 : (vs 9) = undef := hp 9 (by simp [Lrg15])
          have h13 : (vs 13) = undef := hp 13 (by simp [Lrg15])
          have h7 : (vs 7) = .bool false := hp 7 (by simp [Lrg15])
          have e100 : (Roll.putD Drg15 vs [9, 13, 7] b0).eval (.tmp 100) = undef := (Roll.eval_new 9 rfl (by decide) (by decide) (by omega)).trans h9
          have e104 : (Roll.putD Drg15 vs [9, 13, 7] b0).eval (.tmp 104) = undef := (Roll.eval_new 13 rfl (by decide) (by decide) (by omega)).trans h13
          clear hp hlv hN
          exact ⟨fun hg => absurd (h7.symm.trans hg) (by simp), fun hg => ⟨Below.refl _ _, rfl⟩⟩
        · intro vs p hI hp
          have h14 : (vs 14) = undef := hp 14 (by simp [Lrg15])
          have h7 : (vs 7) = .bool false := hp 7 (by simp [Lrg15])
          have e105 : (Roll.putD Drg15 vs [14, 7] b0).eval (.tmp 105) = undef := (Roll.eval_new 14 rfl (by decide) (by decide) (by omega)).trans h14
          clear hp hlv hN
          exact ⟨fun hg => absurd (h7.symm.trans hg) (by simp), fun hg => ⟨Below.refl _ _, rfl⟩⟩
        · intro vs p hI hp
          have h8 : (vs 8) = undef := hp 8 (by simp [Lrg15])
          have h15 : (vs 15) = undef := hp 15 (by simp [Lrg15])
          have h7 : (vs 7) = .bool false := hp 7 (by simp [Lrg15])
          have e99 : (Roll.putD Drg15 vs [8, 15, 7] b0).eval (.tmp 99) = undef := (Roll.eval_new 8 rfl (by decide) (by decide) (by omega)).trans h8
          have e106 : (Roll.putD Drg15 vs [8, 15, 7] b0).eval (.tmp 106) = undef := (Roll.eval_new 15 rfl (by decide) (by decide) (by omega)).trans h15
          clear hp hlv hN
          exact ⟨fun hg => absurd (h7.symm.trans hg) (by simp), fun hg => ⟨Below.refl _ _, rfl⟩⟩
        · intro vs p hI hp
          have h7 : (vs 7) = .bool false := hp 7 (by simp [Lrg15])
          have h16 : (vs 16) = undef := hp 16 (by simp [Lrg15])
          have h5 : (vs 5) = .bool false := hp 5 (by simp [Lrg15])
          have e98 : (Roll.putD Drg15 vs [7, 16, 5] b0).eval (.tmp 98) = .bool false := (Roll.eval_new 7 rfl (by decide) (by decide) (by omega)).trans h7
          have e107 : (Roll.putD Drg15 vs [7, 16, 5] b0).eval (.tmp 107) = undef := (Roll.eval_new 16 rfl (by decide) (by decide) (by omega)).trans h16
          clear hp hlv hN
          refine ⟨fun hg => ?_, fun hg => absurd h5 hg⟩
          clear hg
          unfold Roll.Goes
          simp only [Lrg15, List.getD_cons_zero, List.getD_cons_succ]
          generalize Roll.putD Drg15 vs [7, 16, 5] b0 = a1 at *
          refine Roll.goes_val (w' := p) (.bool false) rfl ?_ ⟨hI, Below.refl _ _, rfl⟩
          (have ec : ∀ x, a1.eval (.const x) = x := fun _ => rfl); (have ef : ∀ x, a1.eval (.func x) = .func (.func x) #[] #[] := fun _ => rfl); generalize a1.eval = ρ at *
          clear h7 h16 h5
          go_simp <;> (intros; first | (exfalso; omega) | rfl | omega)
        · intro vs p hI hp
          have h5 : (vs 5) = .bool false := hp 5 (by simp [Lrg15])
          have h17 : (vs 17) = .bool false := hp 17 (by simp [Lrg15])
          have e96 : (Roll.putD Drg15 vs [5, 17] b0).eval (.tmp 96) = .bool false := (Roll.eval_new 5 rfl (by decide) (by decide) (by omega)).trans h5
          have e108 : (Roll.putD Drg15 vs [5, 17] b0).eval (.tmp 108) = .bool false := (Roll.eval_new 17 rfl (by decide) (by decide) (by omega)).trans h17
          clear hp hlv hN
          unfold Roll.Goes
          simp only [Lrg15, List.getD_cons_zero, List.getD_cons_succ]
          generalize Roll.putD Drg15 vs [5, 17] b0 = a1 at *
          refine Roll.goes_val (w' := p) (.bool false) rfl ?_ ⟨hI, Below.refl _ _, rfl⟩
          (have ec : ∀ x, a1.eval (.const x) = x := fun _ => rfl); (have ef : ∀ x, a1.eval (.func x) = .func (.func x) #[] #[] := fun _ => rfl); generalize a1.eval = ρ at *
          clear h5 h17
          go_simp <;> (intros; first | (exfalso; omega) | rfl | omega)
      · intro vs p hI hR
        have h0 : (vs 0) = .bool false := hR 0 (by omega)
        have h1 : (vs 1) = .slice aB 0 cB := hR 1 (by omega)
        have h2 : (vs 2) = .int .i64 0 := hR 2 (by omega)
        have h3 : (vs 3) = .bool false := hR 3 (by omega)
        have h4 : (vs 4) = .bool false := hR 4 (by omega)
        have h5 : (vs 5) = .bool false := hR 5 (by omega)
        have h6 : (vs 6) = .bool false := hR 6 (by omega)
        have h7 : (vs 7) = .bool false := hR 7 (by omega)
        have h8 : (vs 8) = undef := hR 8 (by omega)
        have h9 : (vs 9) = undef := hR 9 (by omega)
        have h10 : (vs 10) = undef := hR 10 (by omega)
        have h11 : (vs 11) = undef := hR 11 (by omega)
        have h12 : (vs 12) = undef := hR 12 (by omega)
        have h13 : (vs 13) = undef := hR 13 (by omega)
        have h14 : (vs 14) = undef := hR 14 (by omega)
        have h15 : (vs 15) = undef := hR 15 (by omega)
        have h16 : (vs 16) = undef := hR 16 (by omega)
        have h17 : (vs 17) = .bool false := hR 17 (by omega)
        have h18 : (vs 18) = .bool false := hR 18 (by omega)
        clear hR
        simp only [List.range_succ, List.range_zero, List.nil_append, List.cons_append, Roll.putD, Act.put, List.getD_cons_zero, List.getD_cons_succ, List.setIfInBounds_toArray, List.set_cons_zero, List.set_cons_succ, List.drop_succ_cons, List.drop_zero, Drg15]
        simp only [h0, h1, h2, h3, h4, h5, h6, h7, h8, h9, h10, h11, h12, h13, h14, h15, h16, h17, h18]
        clear h0 h1 h2 h3 h4 h5 h6 h7 h8 h9 h10 h11 h12 h13 h14 h15 h16 h17 h18
        apply wpList_nil
        go_step
        go_step
        have HBP : Hid (Below w6.heap.size w6 p) := Lib.hid (HB9.out.trans (hI.mono HB9.out.size))
        clear hI
        go_wp2_with (first
            | (go_at_call 29; refine (HRN.out _ ⟨#[]⟩ ⟨#[]⟩ (HBP.out)).mono ?_; rintro e w10 ⟨aE, nE, cE, rfl, hpE, hb10⟩; have HPE : Hid (Ps (fun _ => True) w10 aE nE cE L) := Lib.hid (by have h : Ps (fun _ => True) w10 aE nE cE (rngL emptyS emptyS L) := hpE; rw [rngL_emp] at h; exact h); have HB10 := Lib.hid ((HBP.out).trans (hb10.mono (HBP.out).size)); clear hpE hb10)
            | (go_at_call 30; refine (HSAME.out _ _ _ _ HB10.out HPE.out).mono ?_; rintro e w11 ⟨rfl, hb11⟩; have HB11 := Lib.hid (HB10.out.trans (hb11.mono HB10.out.size)); clear hb11)
            | (go_at_call 19; refine (HLV.out _ (HB6.out.trans (HB11.out.mono HB6.out.size))).mono ?_; rintro e w12 ⟨rfl, hb12⟩))
        go_ret
        exact ⟨rfl, hb12⟩
    · have hcat2 : BL = B0 ++ [x] := by rw [hcat, List.concat_eq_append]
      obtain rfl : Fl = some x := by rw [hfl, hcat2, List.getLast?_concat]
      obtain rfl : P = x := HPP.out
      have hl0 : nB = B0.length + 1 := by rw [← hnB, hcat2]; simp
      obtain ⟨b, off, -, hbs, rfl, hcell⟩ := HPB.out.at (by omega)
      have hr := hcell B0.length (by omega)
      have hx : BL[B0.length]'(by omega) = P := by subst hcat2; simp
      rw [hx] at hr
      obtain ⟨n1, hn1⟩ : ∃ n1, n1 = B0.length := ⟨_, rfl⟩
      rw [← hn1] at hl0 hr
      obtain ⟨ob, hob⟩ : ∃ ob, ob = off + n1 * 2 := ⟨_, rfl⟩
      rw [← hob] at hr
      have HOB : Hid (off + n1 * 2 = ob) := Lib.hid hob.symm
      have HRB : Hid (W.rangeAt b ob P.cells) := Lib.hid hr
      have HN1 : Hid ((nB : Int) - 1 = (n1 : Int)) := Lib.hid (by omega)
      have HN1W : Hid (IntKind.i64.wrap (n1 : Int) = (n1 : Int)) := Lib.hid (i64_id _ (by omega) (by omega))
      have HN1P : Hid (0 ≤ (n1 : Int)) := Lib.hid (by omega)
      have HNB : Hid ((n1 : Int) < (nB : Int)) := Lib.hid (by omega)
      have HNB0 : Hid ((0 : Int) < (nB : Int)) := Lib.hid (by omega)
      obtain ⟨X, hX⟩ : ∃ X, X = w7.heap.size := ⟨_, rfl⟩
      rw [← hX] at HP9 ⊢
      have HRX : Hid (W.rangeAt X 0 P.cells) := Lib.hid (range_kv HP9.out)
      clear hX hob hr hcell hbs hcat hcat2 hnB hnBm hx hn1
      clear hl0
      try clear hl0
      go_upto_region 15 with fail
      refine Roll.region_f 19 117 Drg15 Lrg15 [(15, .pointer (some ⟨X, 0, none⟩)), (16, .bool true), (19, .slice (some ⟨b, off, none⟩) nB cB)] (fun p => Below W.heap.size W p) (fun p p2 => Below p.heap.size p p2) [fun vv p => vv = .bool true, fun vv p => vv = .slice (some ⟨b, off, none⟩) nB cB, fun vv p => vv = .int .i64 (nB : Int), fun vv p => vv = .bool true, fun vv p => vv = .bool false, fun vv p => vv = .bool false, fun vv p => vv = .bool true, fun vv p => vv = .bool true, fun vv p => vv = .agg #[.string P.k, .string P.v], fun vv p => vv = .slice (some ⟨b, off, none⟩) nB cB, fun vv p => vv = .slice (some ⟨b, off, none⟩) nB cB, fun vv p => vv = .int .i64 (nB : Int), fun vv p => vv = .int .i64 (n1 : Int), fun vv p => vv = .int .i64 (n1 : Int), fun vv p => vv = .pointer (some ⟨b, ob, none⟩), fun vv p => vv = .agg #[.string P.k, .string P.v], fun vv p => vv = .bool false, fun vv p => vv = .bool false, fun vv p => vv = .bool false] (by kernel_rfl) (by kernel_rfl) rfl ⟨rfl, rfl, rfl, trivial⟩ ((Below.refl _ _).drew) ?_ ?_ ?_
      · exact ⟨fun _ _ _ _ h => h, fun _ _ _ _ h => h, fun _ _ _ _ h => h, fun _ _ _ _ h => h, fun _ _ _ _ h => h, fun _ _ _ _ h => h, fun _ _ _ _ h => h, fun _ _ _ _ h => h, fun _ _ _ _ h => h, fun _ _ _ _ h => h, fun _ _ _ _ h => h, fun _ _ _ _ h => h, fun _ _ _ _ h => h, fun _ _ _ _ h => h, fun _ _ _ _ h => h, fun _ _ _ _ h => h, fun _ _ _ _ h => h, fun _ _ _ _ h => h, fun _ _ _ _ h => h, trivial⟩
      · intro b0 hN hlv
        refine ⟨?_, ?_, ?_, ?_, ?_, ?_, ?_, ?_, ?_, ?_, ?_, ?_, ?_, ?_, ?_, ?_, ?_, ?_, ?_, trivial⟩
        · intro vs p hI hp
          have e16 : (Roll.putD Drg15 vs [] b0).eval (.tmp 16) = .bool true := (Roll.eval_old rfl).trans (hlv.at 1 (16, .bool true) rfl)
          clear hp hlv hN
          unfold Roll.Goes
          simp only [Lrg15, List.getD_cons_zero, List.getD_cons_succ]
          generalize Roll.putD Drg15 vs [] b0 = a1 at *
          refine Roll.goes_val (w' := p) (.bool true) rfl ?_ ⟨hI, Below.refl _ _, rfl⟩
          (have ec : ∀ x, a1.eval (.const x) = x := fun _ => rfl); (have ef : ∀ x, a1.eval (.func x) = .func (.func x) #[] #[] := fun _ => rfl); generalize a1.eval = ρ at *
          skip
          go_simp <;> (intros; first | (exfalso; omega) | rfl | omega)
        · intro vs p hI hp
          have e19 : (Roll.putD Drg15 vs [] b0).eval (.tmp 19) = .slice (some ⟨b, off, none⟩) nB cB := (Roll.eval_old rfl).trans (hlv.at 2 (19, .slice (some ⟨b, off, none⟩) nB cB) rfl)
          clear hp hlv hN
          unfold Roll.Goes
          simp only [Lrg15, List.getD_cons_zero, List.getD_cons_succ]
          generalize Roll.putD Drg15 vs [] b0 = a1 at *
          refine Roll.goes_val (w' := p) (.slice (some ⟨b, off, none⟩) nB cB) rfl ?_ ⟨hI, Below.refl _ _, rfl⟩
          (have ec : ∀ x, a1.eval (.const x) = x := fun _ => rfl); (have ef : ∀ x, a1.eval (.func x) = .func (.func x) #[] #[] := fun _ => rfl); generalize a1.eval = ρ at *
          skip
          go_simp <;> (intros; first | (exfalso; omega) | rfl | omega)
        · intro vs p hI hp
          have h1 : (vs 1) = .slice (some ⟨b, off, none⟩) nB cB := hp 1 (by simp [Lrg15])
          have e92 : (Roll.putD Drg15 vs [1] b0).eval (.tmp 92) = .slice (some ⟨b, off, none⟩) nB cB := (Roll.eval_new 1 rfl (by decide) (by decide) (by omega)).trans h1
          clear hp hlv hN
          unfold Roll.Goes
          simp only [Lrg15, List.getD_cons_zero, List.getD_cons_succ]
          generalize Roll.putD Drg15 vs [1] b0 = a1 at *
          refine Roll.goes_val (w' := p) (.int .i64 (nB : Int)) rfl ?_ ⟨hI, Below.refl _ _, rfl⟩
          (have ec : ∀ x, a1.eval (.const x) = x := fun _ => rfl); (have ef : ∀ x, a1.eval (.func x) = .func (.func x) #[] #[] := fun _ => rfl); generalize a1.eval = ρ at *
          clear h1
          go_simp <;> (intros; first | (exfalso; omega) | rfl | omega)
        · intro vs p hI hp
          have h2 : (vs 2) = .int .i64 (nB : Int) := hp 2 (by simp [Lrg15])
          have e93 : (Roll.putD Drg15 vs [2] b0).eval (.tmp 93) = .int .i64 (nB : Int) := (Roll.eval_new 2 rfl (by decide) (by decide) (by omega)).trans h2
          clear hp hlv hN
          unfold Roll.Goes
          simp only [Lrg15, List.getD_cons_zero, List.getD_cons_succ]
          generalize Roll.putD Drg15 vs [2] b0 = a1 at *
          have f1 := HNB0.out
          refine Roll.goes_val (w' := p) (.bool true) rfl ?_ ⟨hI, Below.refl _ _, rfl⟩
          (have ec : ∀ x, a1.eval (.const x) = x := fun _ => rfl); (have ef : ∀ x, a1.eval (.func x) = .func (.func x) #[] #[] := fun _ => rfl); generalize a1.eval = ρ at *
          clear h2
          go_simp <;> (intros; first | (exfalso; omega) | rfl | omega)
        · intro vs p hI hp
          have h0 : (vs 0) = .bool true := hp 0 (by simp [Lrg15])
          have h3 : (vs 3) = .bool true := hp 3 (by simp [Lrg15])
          have e91 : (Roll.putD Drg15 vs [0, 3] b0).eval (.tmp 91) = .bool true := (Roll.eval_new 0 rfl (by decide) (by decide) (by omega)).trans h0
          have e94 : (Roll.putD Drg15 vs [0, 3] b0).eval (.tmp 94) = .bool true := (Roll.eval_new 3 rfl (by decide) (by decide) (by omega)).trans h3
          clear hp hlv hN
          unfold Roll.Goes
          simp only [Lrg15, List.getD_cons_zero, List.getD_cons_succ]
          generalize Roll.putD Drg15 vs [0, 3] b0 = a1 at *
          refine Roll.goes_val (w' := p) (.bool false) rfl ?_ ⟨hI, Below.refl _ _, rfl⟩
          (have ec : ∀ x, a1.eval (.const x) = x := fun _ => rfl); (have ef : ∀ x, a1.eval (.func x) = .func (.func x) #[] #[] := fun _ => rfl); generalize a1.eval = ρ at *
          clear h0 h3
          go_simp <;> (intros; first | (exfalso; omega) | rfl | omega)
        · intro vs p hI hp
          have h4 : (vs 4) = .bool false := hp 4 (by simp [Lrg15])
          have e95 : (Roll.putD Drg15 vs [4] b0).eval (.tmp 95) = .bool false := (Roll.eval_new 4 rfl (by decide) (by decide) (by omega)).trans h4
          clear hp hlv hN
          unfold Roll.Goes
          simp only [Lrg15, List.getD_cons_zero, List.getD_cons_succ]
          generalize Roll.putD Drg15 vs [4] b0 = a1 at *
          refine Roll.goes_val (w' := p) (.bool false) rfl ?_ ⟨hI, Below.refl _ _, rfl⟩
          (have ec : ∀ x, a1.eval (.const x) = x := fun _ => rfl); (have ef : ∀ x, a1.eval (.func x) = .func (.func x) #[] #[] := fun _ => rfl); generalize a1.eval = ρ at *
          clear h4
          go_simp <;> (intros; first | (exfalso; omega) | rfl | omega)
        · intro vs p hI hp
          have h5 : (vs 5) = .bool false := hp 5 (by simp [Lrg15])
          have e16 : (Roll.putD Drg15 vs [5] b0).eval (.tmp 16) = .bool true := (Roll.eval_old rfl).trans (hlv.at 1 (16, .bool true) rfl)
          clear hp hlv hN
          refine ⟨fun hg => ?_, fun hg => absurd h5 hg⟩
          clear hg
          unfold Roll.Goes
          simp only [Lrg15, List.getD_cons_zero, List.getD_cons_succ]
          generalize Roll.putD Drg15 vs [5] b0 = a1 at *
          refine Roll.goes_val (w' := p) (.bool true) rfl ?_ ⟨hI, Below.refl _ _, rfl⟩
          (have ec : ∀ x, a1.eval (.const x) = x := fun _ => rfl); (have ef : ∀ x, a1.eval (.func x) = .func (.func x) #[] #[] := fun _ => rfl); generalize a1.eval = ρ at *
          clear h5
          go_simp <;> (intros; first | (exfalso; omega) | rfl | omega)
        · intro vs p hI hp
          have h6 : (vs 6) = .bool true := hp 6 (by simp [Lrg15])
          have h5 : (vs 5) = .bool false := hp 5 (by simp [Lrg15])
          have e97 : (Roll.putD Drg15 vs [6, 5] b0).eval (.tmp 97) = .bool true := (Roll.eval_new 6 rfl (by decide) (by decide) (by omega)).trans h6
          clear hp hlv hN
          refine ⟨fun hg => ?_, fun hg => absurd h5 hg⟩
          clear hg
          unfold Roll.Goes
          simp only [Lrg15, List.getD_cons_zero, List.getD_cons_succ]
          generalize Roll.putD Drg15 vs [6, 5] b0 = a1 at *
          refine Roll.goes_val (w' := p) (.bool true) rfl ?_ ⟨hI, Below.refl _ _, rfl⟩
          (have ec : ∀ x, a1.eval (.const x) = x := fun _ => rfl); (have ef : ∀ x, a1.eval (.func x) = .func (.func x) #[] #[] := fun _ => rfl); generalize a1.eval = ρ at *
          clear h6 h5
          go_simp <;> (intros; first | (exfalso; omega) | rfl | omega)
        · intro vs p hI hp
          have h7 : (vs 7) = .bool true := hp 7 (by simp [Lrg15])
          have e15 : (Roll.putD Drg15 vs [7] b0).eval (.tmp 15) = .pointer (some ⟨X, 0, none⟩) := (Roll.eval_old rfl).trans (hlv.at 0 (15, .pointer (some ⟨X, 0, none⟩)) rfl)
          clear hp hlv hN
          refine ⟨fun hg => ?_, fun hg => absurd h7 hg⟩
          clear hg
          unfold Roll.Goes
          simp only [Lrg15, List.getD_cons_zero, List.getD_cons_succ]
          generalize Roll.putD Drg15 vs [7] b0 = a1 at *
          have ld0 := run_loadPair (range_below HRX.out (by simp [KV.cells]) hI)
          refine Roll.goes_val (w' := p) (.agg #[.string P.k, .string P.v]) rfl ?_ ⟨hI, Below.refl _ _, rfl⟩
          (have ec : ∀ x, a1.eval (.const x) = x := fun _ => rfl); (have ef : ∀ x, a1.eval (.func x) = .func (.func x) #[] #[] := fun _ => rfl); generalize a1.eval = ρ at *
          clear h7
          go_simp <;> (intros; first | (exfalso; omega) | rfl | omega)
        · intro vs p hI hp
          have h7 : (vs 7) = .bool true := hp 7 (by simp [Lrg15])
          have e19 : (Roll.putD Drg15 vs [7] b0).eval (.tmp 19) = .slice (some ⟨b, off, none⟩) nB cB := (Roll.eval_old rfl).trans (hlv.at 2 (19, .slice (some ⟨b, off, none⟩) nB cB) rfl)
          clear hp hlv hN
          refine ⟨fun hg => ?_, fun hg => absurd h7 hg⟩
          clear hg
          unfold Roll.Goes
          simp only [Lrg15, List.getD_cons_zero, List.getD_cons_succ]
          generalize Roll.putD Drg15 vs [7] b0 = a1 at *
          refine Roll.goes_val (w' := p) (.slice (some ⟨b, off, none⟩) nB cB) rfl ?_ ⟨hI, Below.refl _ _, rfl⟩
          (have ec : ∀ x, a1.eval (.const x) = x := fun _ => rfl); (have ef : ∀ x, a1.eval (.func x) = .func (.func x) #[] #[] := fun _ => rfl); generalize a1.eval = ρ at *
          clear h7
          go_simp <;> (intros; first | (exfalso; omega) | rfl | omega)
        · intro vs p hI hp
          have h7 : (vs 7) = .bool true := hp 7 (by simp [Lrg15])
          have e19 : (Roll.putD Drg15 vs [7] b0).eval (.tmp 19) = .slice (some ⟨b, off, none⟩) nB cB := (Roll.eval_old rfl).trans (hlv.at 2 (19, .slice (some ⟨b, off, none⟩) nB cB) rfl)
          clear hp hlv hN
          refine ⟨fun hg => ?_, fun hg => absurd h7 hg⟩
          clear hg
          unfold Roll.Goes
          simp only [Lrg15, List.getD_cons_zero, List.getD_cons_succ]
          generalize Roll.putD Drg15 vs [7] b0 = a1 at *
          refine Roll.goes_val (w' := p) (.slice (some ⟨b, off, none⟩) nB cB) rfl ?_ ⟨hI, Below.refl _ _, rfl⟩
          (have ec : ∀ x, a1.eval (.const x) = x := fun _ => rfl); (have ef : ∀ x, a1.eval (.func x) = .func (.func x) #[] #[] := fun _ => rfl); generalize a1.eval = ρ at *
          clear h7
          go_simp <;> (intros; first | (exfalso; omega) | rfl | omega)
        · intro vs p hI hp
          have h10 : (vs 10) = .slice (some ⟨b, off, none⟩) nB cB := hp 10 (by simp [Lrg15])
          have h7 : (vs 7) = .bool true := hp 7 (by simp [Lrg15])
          have e101 : (Roll.putD Drg15 vs [10, 7] b0).eval (.tmp 101) = .slice (some ⟨b, off, none⟩) nB cB := (Roll.eval_new 10 rfl (by decide) (by decide) (by omega)).trans h10
          clear hp hlv hN
          refine ⟨fun hg => ?_, fun hg => absurd h7 hg⟩
          clear hg
          unfold Roll.Goes
          simp only [Lrg15, List.getD_cons_zero, List.getD_cons_succ]
          generalize Roll.putD Drg15 vs [10, 7] b0 = a1 at *
          refine Roll.goes_val (w' := p) (.int .i64 (nB : Int)) rfl ?_ ⟨hI, Below.refl _ _, rfl⟩
          (have ec : ∀ x, a1.eval (.const x) = x := fun _ => rfl); (have ef : ∀ x, a1.eval (.func x) = .func (.func x) #[] #[] := fun _ => rfl); generalize a1.eval = ρ at *
          clear h10 h7
          go_simp <;> (intros; first | (exfalso; omega) | rfl | omega)
        · intro vs p hI hp
          have h11 : (vs 11) = .int .i64 (nB : Int) := hp 11 (by simp [Lrg15])
          have h7 : (vs 7) = .bool true := hp 7 (by simp [Lrg15])
          have e102 : (Roll.putD Drg15 vs [11, 7] b0).eval (.tmp 102) = .int .i64 (nB : Int) := (Roll.eval_new 11 rfl (by decide) (by decide) (by omega)).trans h11
          clear hp hlv hN
          refine ⟨fun hg => ?_, fun hg => absurd h7 hg⟩
          clear hg
          unfold Roll.Goes
          simp only [Lrg15, List.getD_cons_zero, List.getD_cons_succ]
          generalize Roll.putD Drg15 vs [11, 7] b0 = a1 at *
          have f1 := HN1.out
          have f2 := HN1W.out
          refine Roll.goes_val (w' := p) (.int .i64 (n1 : Int)) rfl ?_ ⟨hI, Below.refl _ _, rfl⟩
          (have ec : ∀ x, a1.eval (.const x) = x := fun _ => rfl); (have ef : ∀ x, a1.eval (.func x) = .func (.func x) #[] #[] := fun _ => rfl); generalize a1.eval = ρ at *
          clear h11 h7
          go_simp <;> (intros; first | (exfalso; omega) | rfl | omega)
        · intro vs p hI hp
          have h12 : (vs 12) = .int .i64 (n1 : Int) := hp 12 (by simp [Lrg15])
          have h7 : (vs 7) = .bool true := hp 7 (by simp [Lrg15])
          have e103 : (Roll.putD Drg15 vs [12, 7] b0).eval (.tmp 103) = .int .i64 (n1 : Int) := (Roll.eval_new 12 rfl (by decide) (by decide) (by omega)).trans h12
          clear hp hlv hN
          refine ⟨fun hg => ?_, fun hg => absurd h7 hg⟩
          clear hg
          unfold Roll.Goes
          simp only [Lrg15, List.getD_cons_zero, List.getD_cons_succ]
          generalize Roll.putD Drg15 vs [12, 7] b0 = a1 at *
          have f1 := HN1P.out
          refine Roll.goes_val (w' := p) (.int .i64 (n1 : Int)) rfl ?_ ⟨hI, Below.refl _ _, rfl⟩
          (have ec : ∀ x, a1.eval (.const x) = x := fun _ => rfl); (have ef : ∀ x, a1.eval (.func x) = .func (.func x) #[] #[] := fun _ => rfl); generalize a1.eval = ρ at *
          clear h12 h7
          go_simp <;> (intros; first | (exfalso; omega) | rfl | omega)
        · intro vs p hI hp
          have h9 : (vs 9) = .slice (some ⟨b, off, none⟩) nB cB := hp 9 (by simp [Lrg15])
          have h13 : (vs 13) = .int .i64 (n1 : Int) := hp 13 (by simp [Lrg15])
          have h7 : (vs 7) = .bool true := hp 7 (by simp [Lrg15])
          have e100 : (Roll.putD Drg15 vs [9, 13, 7] b0).eval (.tmp 100) = .slice (some ⟨b, off, none⟩) nB cB := (Roll.eval_new 9 rfl (by decide) (by decide) (by omega)).trans h9
          have e104 : (Roll.putD Drg15 vs [9, 13, 7] b0).eval (.tmp 104) = .int .i64 (n1 : Int) := (Roll.eval_new 13 rfl (by decide) (by decide) (by omega)).trans h13
          clear hp hlv hN
          refine ⟨fun hg => ?_, fun hg => absurd h7 hg⟩
          clear hg
          unfold Roll.Goes
          simp only [Lrg15, List.getD_cons_zero, List.getD_cons_succ]
          generalize Roll.putD Drg15 vs [9, 13, 7] b0 = a1 at *
          have f1 := HNB.out
          have f2 := HOB.out
          refine Roll.goes_val (w' := p) (.pointer (some ⟨b, ob, none⟩)) rfl ?_ ⟨hI, Below.refl _ _, rfl⟩
          (have ec : ∀ x, a1.eval (.const x) = x := fun _ => rfl); (have ef : ∀ x, a1.eval (.func x) = .func (.func x) #[] #[] := fun _ => rfl); generalize a1.eval = ρ at *
          clear h9 h13 h7
          go_simp <;> (intros; first | (exfalso; omega) | rfl | omega)
        · intro vs p hI hp
          have h14 : (vs 14) = .pointer (some ⟨b, ob, none⟩) := hp 14 (by simp [Lrg15])
          have h7 : (vs 7) = .bool true := hp 7 (by simp [Lrg15])
          have e105 : (Roll.putD Drg15 vs [14, 7] b0).eval (.tmp 105) = .pointer (some ⟨b, ob, none⟩) := (Roll.eval_new 14 rfl (by decide) (by decide) (by omega)).trans h14
          clear hp hlv hN
          refine ⟨fun hg => ?_, fun hg => absurd h7 hg⟩
          clear hg
          unfold Roll.Goes
          simp only [Lrg15, List.getD_cons_zero, List.getD_cons_succ]
          generalize Roll.putD Drg15 vs [14, 7] b0 = a1 at *
          have ld0 := run_loadPair (range_below HRB.out (by simp [KV.cells]) hI)
          refine Roll.goes_val (w' := p) (.agg #[.string P.k, .string P.v]) rfl ?_ ⟨hI, Below.refl _ _, rfl⟩
          (have ec : ∀ x, a1.eval (.const x) = x := fun _ => rfl); (have ef : ∀ x, a1.eval (.func x) = .func (.func x) #[] #[] := fun _ => rfl); generalize a1.eval = ρ at *
          clear h14 h7
          go_simp <;> (intros; first | (exfalso; omega) | rfl | omega)
        · intro vs p hI hp
          have h8 : (vs 8) = .agg #[.string P.k, .string P.v] := hp 8 (by simp [Lrg15])
          have h15 : (vs 15) = .agg #[.string P.k, .string P.v] := hp 15 (by simp [Lrg15])
          have h7 : (vs 7) = .bool true := hp 7 (by simp [Lrg15])
          have e99 : (Roll.putD Drg15 vs [8, 15, 7] b0).eval (.tmp 99) = .agg #[.string P.k, .string P.v] := (Roll.eval_new 8 rfl (by decide) (by decide) (by omega)).trans h8
          have e106 : (Roll.putD Drg15 vs [8, 15, 7] b0).eval (.tmp 106) = .agg #[.string P.k, .string P.v] := (Roll.eval_new 15 rfl (by decide) (by decide) (by omega)).trans h15
          clear hp hlv hN
          refine ⟨fun hg => ?_, fun hg => absurd h7 hg⟩
          clear hg
          unfold Roll.Goes
          simp only [Lrg15, List.getD_cons_zero, List.getD_cons_succ]
          generalize Roll.putD Drg15 vs [8, 15, 7] b0 = a1 at *
          refine Roll.goes_val (w' := p) (.bool false) rfl ?_ ⟨hI, Below.refl _ _, rfl⟩
          (have ec : ∀ x, a1.eval (.const x) = x := fun _ => rfl); (have ef : ∀ x, a1.eval (.func x) = .func (.func x) #[] #[] := fun _ => rfl); generalize a1.eval = ρ at *
          clear h8 h15 h7
          go_simp <;> (intros; first | (exfalso; omega) | rfl | omega)
        · intro vs p hI hp
          have h7 : (vs 7) = .bool true := hp 7 (by simp [Lrg15])
          have h16 : (vs 16) = .bool false := hp 16 (by simp [Lrg15])
          have h5 : (vs 5) = .bool false := hp 5 (by simp [Lrg15])
          have e98 : (Roll.putD Drg15 vs [7, 16, 5] b0).eval (.tmp 98) = .bool true := (Roll.eval_new 7 rfl (by decide) (by decide) (by omega)).trans h7
          have e107 : (Roll.putD Drg15 vs [7, 16, 5] b0).eval (.tmp 107) = .bool false := (Roll.eval_new 16 rfl (by decide) (by decide) (by omega)).trans h16
          clear hp hlv hN
          refine ⟨fun hg => ?_, fun hg => absurd h5 hg⟩
          clear hg
          unfold Roll.Goes
          simp only [Lrg15, List.getD_cons_zero, List.getD_cons_succ]
          generalize Roll.putD Drg15 vs [7, 16, 5] b0 = a1 at *
          refine Roll.goes_val (w' := p) (.bool false) rfl ?_ ⟨hI, Below.refl _ _, rfl⟩
          (have ec : ∀ x, a1.eval (.const x) = x := fun _ => rfl); (have ef : ∀ x, a1.eval (.func x) = .func (.func x) #[] #[] := fun _ => rfl); generalize a1.eval = ρ at *
          clear h7 h16 h5
          go_simp <;> (intros; first | (exfalso; omega) | rfl | omega)
        · intro vs p hI hp
          have h5 : (vs 5) = .bool false := hp 5 (by simp [Lrg15])
          have h17 : (vs 17) = .bool false := hp 17 (by simp [Lrg15])
          have e96 : (Roll.putD Drg15 vs [5, 17] b0).eval (.tmp 96) = .bool false := (Roll.eval_new 5 rfl (by decide) (by decide) (by omega)).trans h5
          have e108 : (Roll.putD Drg15 vs [5, 17] b0).eval (.tmp 108) = .bool false := (Roll.eval_new 17 rfl (by decide) (by decide) (by omega)).trans h17
          clear hp hlv hN
          unfold Roll.Goes
          simp only [Lrg15, List.getD_cons_zero, List.getD_cons_succ]
          generalize Roll.putD Drg15 vs [5, 17] b0 = a1 at *
          refine Roll.goes_val (w' := p) (.bool false) rfl ?_ ⟨hI, Below.refl _ _, rfl⟩
          (have ec : ∀ x, a1.eval (.const x) = x := fun _ => rfl); (have ef : ∀ x, a1.eval (.func x) = .func (.func x) #[] #[] := fun _ => rfl); generalize a1.eval = ρ at *
          clear h5 h17
          go_simp <;> (intros; first | (exfalso; omega) | rfl | omega)
      · intro vs p hI hR
        have h0 : (vs 0) = .bool true := hR 0 (by omega)
        have h1 : (vs 1) = .slice (some ⟨b, off, none⟩) nB cB := hR 1 (by omega)
        have h2 : (vs 2) = .int .i64 (nB : Int) := hR 2 (by omega)
        have h3 : (vs 3) = .bool true := hR 3 (by omega)
        have h4 : (vs 4) = .bool false := hR 4 (by omega)
        have h5 : (vs 5) = .bool false := hR 5 (by omega)
        have h6 : (vs 6) = .bool true := hR 6 (by omega)
        have h7 : (vs 7) = .bool true := hR 7 (by omega)
        have h8 : (vs 8) = .agg #[.string P.k, .string P.v] := hR 8 (by omega)
        have h9 : (vs 9) = .slice (some ⟨b, off, none⟩) nB cB := hR 9 (by omega)
        have h10 : (vs 10) = .slice (some ⟨b, off, none⟩) nB cB := hR 10 (by omega)
        have h11 : (vs 11) = .int .i64 (nB : Int) := hR 11 (by omega)
        have h12 : (vs 12) = .int .i64 (n1 : Int) := hR 12 (by omega)
        have h13 : (vs 13) = .int .i64 (n1 : Int) := hR 13 (by omega)
        have h14 : (vs 14) = .pointer (some ⟨b, ob, none⟩) := hR 14 (by omega)
        have h15 : (vs 15) = .agg #[.string P.k, .string P.v] := hR 15 (by omega)
        have h16 : (vs 16) = .bool false := hR 16 (by omega)
        have h17 : (vs 17) = .bool false := hR 17 (by omega)
        have h18 : (vs 18) = .bool false := hR 18 (by omega)
        clear hR
        simp only [List.range_succ, List.range_zero, List.nil_append, List.cons_append, Roll.putD, Act.put, List.getD_cons_zero, List.getD_cons_succ, List.setIfInBounds_toArray, List.set_cons_zero, List.set_cons_succ, List.drop_succ_cons, List.drop_zero, Drg15]
        simp only [h0, h1, h2, h3, h4, h5, h6, h7, h8, h9, h10, h11, h12, h13, h14, h15, h16, h17, h18]
        clear h0 h1 h2 h3 h4 h5 h6 h7 h8 h9 h10 h11 h12 h13 h14 h15 h16 h17 h18
        apply wpList_nil
        go_step
        go_step
        have HBP : Hid (Below w6.heap.size w6 p) := Lib.hid (HB9.out.trans (hI.mono HB9.out.size))
        clear hI
        go_wp2_with (first
            | (go_at_call 29; refine (HRN.out _ ⟨#[]⟩ ⟨#[]⟩ (HBP.out)).mono ?_; rintro e w10 ⟨aE, nE, cE, rfl, hpE, hb10⟩; have HPE : Hid (Ps (fun _ => True) w10 aE nE cE L) := Lib.hid (by have h : Ps (fun _ => True) w10 aE nE cE (rngL emptyS emptyS L) := hpE; rw [rngL_emp] at h; exact h); have HB10 := Lib.hid ((HBP.out).trans (hb10.mono (HBP.out).size)); clear hpE hb10)
            | (go_at_call 30; refine (HSAME.out _ _ _ _ HB10.out HPE.out).mono ?_; rintro e w11 ⟨rfl, hb11⟩; have HB11 := Lib.hid (HB10.out.trans (hb11.mono HB10.out.size)); clear hb11)
            | (go_at_call 19; refine (HLV.out _ (HB6.out.trans (HB11.out.mono HB6.out.size))).mono ?_; rintro e w12 ⟨rfl, hb12⟩))
        go_ret
        exact ⟨rfl, hb12⟩
end Go.Proofs.Ytfgmhidgkemfoaa
namespace Go.Proofs.Ytfgmhidgkemfoaa
theorem own : ownKnob Try.prog.godebug = none := by kernel_rfl
theorem laidOut : laidOutB Try.prog = true := by kernel_rfl
end Go.Proofs.Ytfgmhidgkemfoaa

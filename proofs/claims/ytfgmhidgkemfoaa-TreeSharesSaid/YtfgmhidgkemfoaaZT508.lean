/-
  Texts OL, OM, PJ, one behind the other.
-/
import Derived.WalkKit
import Derived.WalkSpells
import Derived.WalkLawsBesides
import Derived.Laws.AppendOwn
import Derived.Laws.OwnMore
import Derived.Deep.AppendSrc
import Derived.Deep.MidRow
import Derived.Lib.Hide
import GoSem.Claim
import Derived.Lib.Bytealg
import Derived.Laws.Externs
import Derived.Deep.QuietTactic
import Derived.BigQuiet
import Derived.Deep.CutBlock
import Derived.OwnWalk
import Derived.Deep.DrawnRows
import Derived.Deep.CutRange
import Derived.Deep.LoopGhost
import Derived.Laws.Tables
import Derived.Laws.ResultCell
import Derived.Deep.WholeRow
import Derived.Lib.Strings
import Derived.Shelf.Spec.SlicesInsert
import Derived.Lib.AppendZerosOnto
import Derived.Lib.Overlaps
import Derived.Laws.CopyRow
import Derived.Deep.RegionLaw
import Derived.StillTailTactics
import Derived.RangeFuncNested
import Derived.RangeFuncBound
import Derived.RangeFuncCalls
import Derived.RangeFuncLeaves
import Derived.Shelf.Abstract
import Derived.Shelf.RegionOpen
import Derived.OwnWalkIn
import Derived.TacticsInMore
import Derived.LoopNIn
import Derived.LoopIn
import Derived.RangeFuncBox
import Derived.Sort.CutIn
import Derived.Orders
import Derived.Tactics
import Derived.Sort.AtCall
import Derived.ProofKit
import Derived.OpenShut
import Derived.Carry
import Derived.Deep.Slices
import Derived.Deep.Fields
import Derived.JoinedCond
import Derived.ChangeMaps5
import Derived.LaidEql
import Derived.MapKept
import Derived.ChangeMaps
import Derived.Test.YtfgmhidgkemfoaaRows
import Derived.Test.YtfgmhidgkemfoaaProg
import Derived.Test.YtfgmhidgkemfoaaChecked
import Derived.Test.YtfgmhidgkemfoaaZT507
namespace Go.Proofs.Ytfgmhidgkemfoaa
open Go.RowKit
set_option linter.unusedSimpArgs false
set_option linter.unusedVariables false
def s1 (a : UInt8) : ByteArray := ⟨#[a]⟩
def livA : List KV := [⟨s1 98, s1 49⟩, ⟨s1 100, s1 50⟩]
def livB : List KV := [⟨s1 100, s1 51⟩, ⟨s1 101, s1 52⟩]
def livE : List ED := [⟨s1 98, emptyS, true⟩, ⟨s1 100, s1 51, false⟩, ⟨s1 101, s1 52, false⟩]
theorem livA_eq : insL (insL [] ⟨s1 100, s1 50⟩) ⟨s1 98, s1 49⟩ = livA := by decide
theorem livB_eq : insL (insL [] ⟨s1 101, s1 52⟩) ⟨s1 100, s1 51⟩ = livB := by decide
theorem livE_eq : diffR livA livB = livE := by rw [← diffP_eq]; decide
theorem livF : floorL livA (s1 99) = some ⟨s1 98, s1 49⟩ := by decide
theorem livG : floorL livA (s1 97) = none := by decide
theorem livR : rngL (s1 98) (s1 100) livA = [⟨s1 98, s1 49⟩] := by decide
def nineL (i : Nat) : List KV := (List.range i).foldl (fun l j => insL l ⟨keyB j, xB⟩) []
theorem nine_succ (i : Nat) : nineL (i + 1) = insL (nineL i) ⟨keyB i, xB⟩ := by unfold nineL; rw [List.range_succ, List.foldl_append]; rfl
theorem nine_len : ∀ i, i ≤ 9 → (nineL i).length = i := by decide
theorem Sl.new {W : World} {t : TypeId} (cs : List Value) (size : Nat) (hs : cs.length = size) (n : Nat) (hn : n ≤ maxLen) (xs : List Value) (hx : xs.length = n * size) (hz : 0 < size) (h0 : 0 < n) : Sl (fun _ => True) (W.alloc (.cells xs.toArray t)) (some ⟨W.heap.size, 0, none⟩) n n xs size := by
  refine ⟨hx, Nat.le_refl _, hn, by simp, fun _ => ⟨W.heap.size, 0, trivial, rfl, fun j v hv => ?_⟩⟩
  rw [Nat.zero_add, cell_of_row (W.alloc (.cells xs.toArray t)) W.heap.size j xs.toArray _ _ (World.alloc_heap_new W _)]
  simpa using hv
theorem Ps.new1 (W : World) (k v : ByteArray) : Ps (fun _ => True) (W.alloc (.cells #[.string k, .string v] 65)) (some ⟨W.heap.size, 0, none⟩) 1 1 [⟨k, v⟩] := ⟨rfl, Sl.new [.string k, .string v] 2 rfl 1 (by decide) [.string k, .string v] rfl (by decide) (by decide)⟩
theorem Es.new3 (W : World) (a b c : ED) : Es (fun _ => True) (W.alloc (.cells #[.string a.k, .string a.v, .bool a.d, .string b.k, .string b.v, .bool b.d, .string c.k, .string c.v, .bool c.d] 61)) (some ⟨W.heap.size, 0, none⟩) 3 3 [a, b, c] := ⟨rfl, Sl.new [.string a.k, .string a.v, .bool a.d] 3 rfl 3 (by decide) (ecells [a, b, c]) rfl (by decide) (by decide)⟩
end Go.Proofs.Ytfgmhidgkemfoaa
namespace Go.Proofs.Ytfgmhidgkemfoaa
open Go.RowKit
set_option linter.unusedSimpArgs false
set_option linter.unusedVariables false
attribute [local go_sem ↓] exec_loadPair exec_storePair exec_at_zeroP exec_at_succP Go.wp_at_zero Go.wp_at_succ
attribute [local go_sem] run_storePair
theorem none_len : (treeL (none : Option BT)).length ≤ 1000000 := by show ([] : List KV).length ≤ 1000000; simp
theorem s1_60 (a : UInt8) : (s1 a).size ≤ 60 := by show 1 ≤ 60; omega
theorem s1_1000 (a : UInt8) : (s1 a).size ≤ 1000 := by show 1 ≤ 1000; omega
theorem ins_one (p : KV) : (insL (treeL (none : Option BT)) p).length ≤ 1000000 := by
  have h := insL_le (treeL (none : Option BT)) p
  have e : (treeL (none : Option BT)).length = 0 := rfl
  omega
set_option maxRecDepth 100000 in
set_option maxHeartbeats 400000 in
theorem lives_any (w : World) : Calls Try.prog 19 #[] w fun e w' => e = .returned (.bool true) ∧ Below w.heap.size w w' := by
  go_enter Try.func19, Try.ntmps19
  go_upto_region 4 with (go_at_call 12; refine (new_any _).mono ?_; rintro e w1 ⟨g0, rfl, ht0, -, hb0⟩; have HT0 := Lib.hid ht0; have HB0 := Lib.hid hb0; clear ht0 hb0)
  go_upto_region 5 with (first
    | (go_at_call_has 25 (Value.pointer (some ⟨g0, 0, none⟩)); refine (put_tree HT0.out none_len (s1 100) (s1 50) (s1_60 _) (s1_1000 _)).mono ?_; rintro e w2 ⟨g1, t1, H1, rfl, ht1, hl1, -, -, hb1⟩; have HT1 := Lib.hid ht1; have HL1 := Lib.hid hl1; have HB1 := Lib.hid hb1; clear ht1 hl1 hb1)
    | (go_at_call_has 25 (Value.pointer (some ⟨g1, 0, none⟩)); refine (put_tree HT1.out (by rw [HL1.out]; exact ins_one _) (s1 98) (s1 49) (s1_60 _) (s1_1000 _)).mono ?_; rintro e w3 ⟨gA, tA, HA, rfl, htA, hlA, -, -, hb2⟩; have HTA := Lib.hid htA; have HLA := Lib.hid hlA; have HB2 := Lib.hid hb2; clear htA hlA hb2))
  have HLA2 : Hid (treeL tA = livA) := Lib.hid (by rw [HLA.out, HL1.out]; exact livA_eq)
  have HBA : Hid (Below w1.heap.size w1 w3) := Lib.hid (HB1.out.trans (HB2.out.mono HB1.out.size))
  have HT03 := Lib.hid (HT0.out.under HBA.out)
  go_upto_region 6 with (first
    | (go_at_call_has 25 (Value.pointer (some ⟨g0, 0, none⟩)); refine (put_tree HT03.out none_len (s1 101) (s1 52) (s1_60 _) (s1_1000 _)).mono ?_; rintro e w4 ⟨g3, t3, H3, rfl, ht3, hl3, -, -, hb3⟩; have HT3 := Lib.hid ht3; have HL3 := Lib.hid hl3; have HB3 := Lib.hid hb3; clear ht3 hl3 hb3)
    | (go_at_call_has 25 (Value.pointer (some ⟨g3, 0, none⟩)); refine (put_tree HT3.out (by rw [HL3.out]; exact ins_one _) (s1 100) (s1 51) (s1_60 _) (s1_1000 _)).mono ?_; rintro e w5 ⟨gB, tB, HB, rfl, htB, hlB, -, -, hb4⟩; have HTB := Lib.hid htB; have HLB := Lib.hid hlB; have HB4 := Lib.hid hb4; clear htB hlB hb4))
  have HLB2 : Hid (treeL tB = livB) := Lib.hid (by rw [HLB.out, HL3.out]; exact livB_eq)
  have HB35 : Hid (Below w3.heap.size w3 w5) := Lib.hid (HB3.out.trans (HB4.out.mono HB3.out.size))
  have HTA5 := Lib.hid (HTA.out.under HB35.out)
  have HT05 := Lib.hid (HT03.out.under HB35.out)
  have HBW : Hid (Below w.heap.size w w5) := Lib.hid (HB0.out.trans ((HBA.out.trans (HB35.out.mono HBA.out.size)).mono HB0.out.size))
  have HFC : Hid (∀ u, Below w5.heap.size w5 u → Calls Try.prog 35 #[.pointer (some ⟨gA, 0, none⟩), .string (s1 99)] u fun e u' => e = .returned (.tuple #[.agg #[.string (s1 98), .string (s1 49)], .bool true]) ∧ Below u.heap.size u u') := Lib.hid (fun u hu => by
    have h := floor_any (HTA5.out.under hu).tr HTA5.out.ok HTA5.out.so (s1 99)
    rw [HLA2.out, livF] at h
    exact h)
  have HFA : Hid (∀ u, Below w5.heap.size w5 u → Calls Try.prog 35 #[.pointer (some ⟨gA, 0, none⟩), .string (s1 97)] u fun e u' => e = .returned (.tuple #[.agg #[.string emptyS, .string emptyS], .bool false]) ∧ Below u.heap.size u u') := Lib.hid (fun u hu => by
    have h := floor_any (HTA5.out.under hu).tr HTA5.out.ok HTA5.out.so (s1 97)
    rw [HLA2.out, livG] at h
    exact h)
  clear HT0 HB0 HT1 HL1 HB1 HLA HBA HT03 HT3 HL3 HB3 HLB HB4 HTA HB2 HB35
  go_upto_region 7 with (go_at_call 35; refine (HFC.out _ (Below.refl _ _)).mono ?_; rintro e w6 ⟨rfl, hb6⟩; have HB6 := Lib.hid hb6; have p6 : PB (w6.alloc (.cells #[.string ⟨#[]⟩, .string ⟨#[]⟩] 65)) w6.heap.size := ⟨⟨⟨#[]⟩, ⟨#[]⟩⟩, heap_new rfl⟩; clear hb6)
  have hx6 : Below w6.heap.size w6 ((w6.alloc (.cells #[.string ⟨#[]⟩, .string ⟨#[]⟩] 65)).setRow w6.heap.size #[.string (s1 98), .string (s1 49)]) :=
    ((((Kept.of_below (fun _ => False) (Below.refl w6.heap.size w6)).alloc _).setRow (fun h => by omega) _).below (Nat.le_refl _) (fun _ _ h => h))
  have hp6 : ((w6.alloc (.cells #[.string ⟨#[]⟩, .string ⟨#[]⟩] 65)).setRow w6.heap.size #[.string (s1 98), .string (s1 49)]).heap[w6.heap.size]? = some (.cells #[.string (s1 98), .string (s1 49)] 65 (0, 0)) := setRow_heap _ _ _ _ _ _ (heap_new rfl)
  obtain ⟨X, hX⟩ : ∃ X, X = w6.heap.size := ⟨_, rfl⟩
  have HB6W : Hid (Below w5.heap.size w5 ((w6.alloc (.cells #[.string ⟨#[]⟩, .string ⟨#[]⟩] 65)).setRow w6.heap.size #[.string (s1 98), .string (s1 49)])) := Lib.hid (HB6.out.trans (hx6.mono HB6.out.size))
  rw [← hX] at HB6W hp6 ⊢
  obtain ⟨W6, hW6⟩ : ∃ W6, W6 = (w6.alloc (.cells #[.string ⟨#[]⟩, .string ⟨#[]⟩] 65)).setRow X #[.string (s1 98), .string (s1 49)] := ⟨_, rfl⟩
  have HP6 := Lib.hid hp6
  rw [← hW6] at HB6W HP6 ⊢
  clear hW6 hX hx6 hp6 HB6 p6 HFC
  go_upto_region 8 with (go_at_call 35; refine (HFA.out _ HB6W.out).mono ?_; rintro e w7 ⟨rfl, hb7⟩; have HB7 := Lib.hid hb7; have p7 : PB (w7.alloc (.cells #[.string ⟨#[]⟩, .string ⟨#[]⟩] 65)) w7.heap.size := ⟨⟨⟨#[]⟩, ⟨#[]⟩⟩, heap_new rfl⟩; clear hb7)
  have hx7 : Below w7.heap.size w7 ((w7.alloc (.cells #[.string ⟨#[]⟩, .string ⟨#[]⟩] 65)).setRow w7.heap.size #[.string emptyS, .string emptyS]) :=
    ((((Kept.of_below (fun _ => False) (Below.refl w7.heap.size w7)).alloc _).setRow (fun h => by omega) _).below (Nat.le_refl _) (fun _ _ h => h))
  obtain ⟨W7, hW7⟩ : ∃ W7, W7 = (w7.alloc (.cells #[.string ⟨#[]⟩, .string ⟨#[]⟩] 65)).setRow w7.heap.size #[.string emptyS, .string emptyS] := ⟨_, rfl⟩
  rw [← hW7] at hx7 ⊢
  have HB67 : Hid (Below W6.heap.size W6 W7) := Lib.hid (HB7.out.trans (hx7.mono HB7.out.size))
  have HB57 : Hid (Below w5.heap.size w5 W7) := Lib.hid (HB6W.out.trans (HB67.out.mono HB6W.out.size))
  have HP7 : Hid (W7.heap[X]? = some (.cells #[.string (s1 98), .string (s1 49)] 65 (0, 0))) := Lib.hid ((HB67.out.block _ (Array.getElem?_eq_some_iff.1 HP6.out).1).trans HP6.out)
  have HTA7 := Lib.hid (HTA5.out.under HB57.out)
  have HTB7 := Lib.hid (HTB.out.under HB57.out)
  have HT07 := Lib.hid (HT05.out.under HB57.out)
  have HBW7 : Hid (Below w.heap.size w W7) := Lib.hid (HBW.out.trans (HB57.out.mono HBW.out.size))
  clear hW7 hx7 HB7 p7 HFA HB67 HB57 HTA5 HTB HT05 HBW HB6W HP6
  have HKEY : Hid (∀ (q : Nat) (u : World), q < 4000 → Calls Try.prog 15 #[.int .i64 (q : Int)] u fun e w' => e = .returned (.string (keyB q)) ∧ Below u.heap.size u w') := Lib.hid (fun q u hq => by
    have h := key_any (q : Int) (by omega) (by omega) u
    have e : (aroundT (q : Int) 4000).toNat = q := by
      unfold aroundT
      rw [if_neg (by omega)]
      omega
    rw [e] at h
    exact h)
  go_wp2
  go_loopw [8, 9] (fun u x wr => ∃ (i g : Nat) (t : Option BT) (H : Nat), u = .pointer (some ⟨g, 0, none⟩) ∧ x = .int .i64 (i : Int) ∧ i ≤ 9 ∧ TT wr g t H ∧ treeL t = nineL i ∧ Below W7.heap.size W7 wr) (fun _ x _ => 9 - (intOf x).toNat)
  case atStart => exact ⟨0, g0, none, 0, rfl, rfl, Nat.zero_le _, HT07.out, rfl, Below.refl _ _⟩
  case round =>
    obtain ⟨i, g, t, H, rfl, rfl, hi, ht, hl, hb⟩ := hrel
    have HT := Lib.hid ht
    have HL := Lib.hid hl
    have HB := Lib.hid hb
    have HLEN : Hid ((treeL t).length = i) := Lib.hid (by rw [hl]; exact nine_len i hi)
    have HHI : Hid (H ≤ 100000) := Lib.hid (Nat.le_trans (tok_high ht.ok 2 (by rw [HLEN.out]; omega)) (by omega))
    clear ht hl hb
    by_cases hlt : i < 9
    · have hlt2 : (i : Int) < 9 := by omega
      have HPUT : Hid (∀ u, Below wr.heap.size wr u → Calls Try.prog 25 #[.pointer (some ⟨g, 0, none⟩), .string (keyB i), .string xB] u (PutT u t H ⟨keyB i, xB⟩)) := Lib.hid (fun u hu => put_tree (HT.out.under hu) (by have := HLEN.out; omega) (keyB i) xB (by rw [keyB_size]; omega) (by show 1 ≤ 1000; omega))
      have HLT := Lib.hid hlt
      by_cases h7 : 0 < i ∧ i < 7
      · have h70 : (0 : Int) < (i : Int) := by omega
        have h71 : (i : Int) < 7 := by omega
        have HH1 : Hid (H = 1) := Lib.hid (by
          have h1 := tok_high HT.out.ok 1 (by rw [HLEN.out]; omega)
          have h2 : H ≠ 0 := fun e => by
            have := (tok_zero HT.out.ok).1 e
            have h3 := HLEN.out
            rw [this] at h3
            simp at h3
            omega
          omega)
        clear hlt h7
        go_wp2_with (first
          | (go_at_call 22; refine (height_any HT.out.tr HT.out.ok HHI.out).mono ?_; rintro e w8 ⟨rfl, hb8⟩; have HB8 := Lib.hid hb8; clear hb8; rw [HH1.out])
          | (go_at_call 15; refine (HKEY.out i _ (by have := HLT.out; omega)).mono ?_; rintro e w9 ⟨rfl, hb9⟩; have HB9 := Lib.hid hb9; clear hb9)
          | (go_at_call 25; refine (HPUT.out _ (HB8.out.trans (HB9.out.mono HB8.out.size))).mono ?_; rintro e w10 ⟨g3, t3, H3, rfl, ht3, hl3, -, -, hb3⟩; have HT3 := Lib.hid ht3; have HL3 := Lib.hid hl3; have HB3 := Lib.hid hb3; clear ht3 hl3 hb3))
        go_roundw
        case rel => exact ⟨i + 1, g3, t3, H3, rfl, by go_num, by have := HLT.out; omega, HT3.out, by rw [HL3.out, HL.out, nine_succ], HB.out.trans (((HB8.out.trans (HB9.out.mono HB8.out.size)).trans (HB3.out.mono (Nat.le_trans HB8.out.size HB9.out.size))).mono HB.out.size)⟩
        case measure => (try go_num); (try (simp only [intOf])); have := HLT.out; omega
      · by_cases h0 : i = 0
        · have h70 : ¬ (0 : Int) < (i : Int) := by omega
          clear hlt h7 h0
          go_wp2_with (first
            | (go_at_call 15; refine (HKEY.out i _ (by have := HLT.out; omega)).mono ?_; rintro e w9 ⟨rfl, hb9⟩; have HB9 := Lib.hid hb9; clear hb9)
            | (go_at_call 25; refine (HPUT.out _ HB9.out).mono ?_; rintro e w10 ⟨g3, t3, H3, rfl, ht3, hl3, -, -, hb3⟩; have HT3 := Lib.hid ht3; have HL3 := Lib.hid hl3; have HB3 := Lib.hid hb3; clear ht3 hl3 hb3))
          go_roundw
          case rel => exact ⟨i + 1, g3, t3, H3, rfl, by go_num, by have := HLT.out; omega, HT3.out, by rw [HL3.out, HL.out, nine_succ], HB.out.trans ((HB9.out.trans (HB3.out.mono HB9.out.size)).mono HB.out.size)⟩
          case measure => (try go_num); (try (simp only [intOf])); have := HLT.out; omega
        · have h70 : (0 : Int) < (i : Int) := by omega
          have h71 : ¬ (i : Int) < 7 := by omega
          clear hlt h7 h0
          go_wp2_with (first
            | (go_at_call 15; refine (HKEY.out i _ (by have := HLT.out; omega)).mono ?_; rintro e w9 ⟨rfl, hb9⟩; have HB9 := Lib.hid hb9; clear hb9)
            | (go_at_call 25; refine (HPUT.out _ HB9.out).mono ?_; rintro e w10 ⟨g3, t3, H3, rfl, ht3, hl3, -, -, hb3⟩; have HT3 := Lib.hid ht3; have HL3 := Lib.hid hl3; have HB3 := Lib.hid hb3; clear ht3 hl3 hb3))
          go_roundw
          case rel => exact ⟨i + 1, g3, t3, H3, rfl, by go_num, by have := HLT.out; omega, HT3.out, by rw [HL3.out, HL.out, nine_succ], HB.out.trans ((HB9.out.trans (HB3.out.mono HB9.out.size)).mono HB.out.size)⟩
          case measure => (try go_num); (try (simp only [intOf])); have := HLT.out; omega
    · have hge : ¬ (i : Int) < 9 := by omega
      have HH2 : Hid (H = 2) := Lib.hid (by
        have h1 := tok_high HT.out.ok 2 (by rw [HLEN.out]; omega)
        have h2 : H ≠ 0 := fun e => by
          have := (tok_zero HT.out.ok).1 e
          have h3 := HLEN.out
          rw [this] at h3
          simp at h3
          omega
        have h3 : H ≠ 1 := fun e => by
          have h4 := (tok_bounds HT.out.ok h2).2
          rw [e, HLEN.out] at h4
          omega
        omega)
      have HRG : Hid (∀ u, Below wr.heap.size wr u → Calls Try.prog 29 #[.pointer (some ⟨gA, 0, none⟩), .string (s1 98), .string (s1 100)] u fun e W' => ∃ a n c, e = .returned (.slice a n c) ∧ Ps (fun _ => True) W' a n c [⟨s1 98, s1 49⟩] ∧ Below u.heap.size u W') := Lib.hid (fun u hu => by
        have h := range_any ((HTA7.out.under HB.out).under hu) (s1 98) (s1 100) (by rw [HLA2.out]; decide)
        rw [HLA2.out, livR] at h
        refine h.mono ?_
        rintro e W' ⟨v, rfl, hr, hb⟩
        obtain ⟨a, n, c, rfl, hp⟩ := Ps.row hr
        exact ⟨a, n, c, rfl, hp.dom (fun _ _ => trivial), hb⟩)
      have HP8 : Hid (wr.heap[X]? = some (.cells #[.string (s1 98), .string (s1 49)] 65 (0, 0))) := Lib.hid ((HB.out.block _ (Array.getElem?_eq_some_iff.1 HP7.out).1).trans HP7.out)
      clear hlt hi
      have HSM : Hid (∀ (u : World) (a : Option Addr) (n c : Nat), Ps (fun _ => True) u a n c [⟨s1 98, s1 49⟩] → Calls Try.prog 30 #[.slice a n c, .slice (some ⟨u.heap.size, 0, none⟩) 1 1] (u.alloc (.cells #[.string ⟨#[98]⟩, .string ⟨#[49]⟩] 65)) fun e W' => e = .returned (.bool true) ∧ Below u.heap.size u W') := Lib.hid (fun u a n c hp => by
        have hal : Below u.heap.size u (u.alloc (.cells #[.string ⟨#[98]⟩, .string ⟨#[49]⟩] 65)) := (Below.refl _ u).alloc (Nat.le_refl _) _
        have h := same_any (hp.below hal) (Ps.new1 u ⟨#[98]⟩ ⟨#[49]⟩)
        have e : decide ([(⟨s1 98, s1 49⟩ : KV)] = [⟨⟨#[98]⟩, ⟨#[49]⟩⟩]) = true := decide_eq_true rfl
        rw [e] at h
        exact h.mono (fun e W' h => ⟨h.1, hal.trans (h.2.mono hal.size)⟩))
      go_upto_region 17 with (first
        | (go_at_call 29; refine (HRG.out _ (Below.refl _ _)).mono ?_; rintro e w11 ⟨a1, n1, c1, rfl, hp1, hb1⟩; have HP1 := Lib.hid hp1; have HB1 := Lib.hid hb1; clear hp1 hb1)
        | (go_at_call 30; refine (HSM.out _ _ _ _ HP1.out).mono ?_; rintro e w12 ⟨rfl, hb12⟩; have HB12 := Lib.hid (HB1.out.trans (hb12.mono HB1.out.size)); have c1 : w12.cell? ⟨X, 1, none⟩ = some (.string ⟨#[49]⟩) := cell_of_row w12 X 1 _ _ _ ((HB12.out.block _ (Array.getElem?_eq_some_iff.1 HP8.out).1).trans HP8.out); clear hb12)
        | (go_at_call 22; refine (height_any (HT.out.under HB12.out).tr HT.out.ok HHI.out).mono ?_; rintro e w13 ⟨rfl, hb13⟩; have HB13 := Lib.hid (HB12.out.trans (hb13.mono HB12.out.size)); clear hb13; rw [HH2.out]))
      have HB713 : Hid (Below W7.heap.size W7 w13) := Lib.hid (HB.out.trans (HB13.out.mono HB.out.size))
      clear c1
      have HDF : Hid (∀ u, Below w13.heap.size w13 u → Calls Try.prog 32 #[.pointer (some ⟨gA, 0, none⟩), .pointer (some ⟨gB, 0, none⟩)] u fun e W' => ∃ a n c, e = .returned (.slice a n c) ∧ Es (fun _ => True) W' a n c livE ∧ Below u.heap.size u W') := Lib.hid (fun u hu => by
        have h := diff_any ((HTA7.out.under HB713.out).under hu) ((HTB7.out.under HB713.out).under hu) (by rw [HLA2.out]; decide) (by rw [HLB2.out]; decide)
        rw [HLA2.out, HLB2.out, livE_eq] at h
        refine h.mono ?_
        rintro e W' ⟨v, rfl, hr, hb⟩
        obtain ⟨a, n, c, rfl, hp⟩ := Es.row hr
        exact ⟨a, n, c, rfl, ⟨hp.1, hp.2.dom (fun _ _ => trivial)⟩, hb⟩)
      go_upto_region 18 with fail
      have hal : Below w13.heap.size w13 (w13.alloc (.cells #[.string ⟨#[98]⟩, .string ⟨#[]⟩, .bool true, .string ⟨#[100]⟩, .string ⟨#[51]⟩, .bool false, .string ⟨#[101]⟩, .string ⟨#[52]⟩, .bool false] 61)) := (Below.refl _ w13).alloc (Nat.le_refl _) _
      have hes : Es (fun _ => True) (w13.alloc (.cells #[.string ⟨#[98]⟩, .string ⟨#[]⟩, .bool true, .string ⟨#[100]⟩, .string ⟨#[51]⟩, .bool false, .string ⟨#[101]⟩, .string ⟨#[52]⟩, .bool false] 61)) (some ⟨w13.heap.size, 0, none⟩) 3 3 livE := Es.new3 w13 ⟨⟨#[98]⟩, ⟨#[]⟩, true⟩ ⟨⟨#[100]⟩, ⟨#[51]⟩, false⟩ ⟨⟨#[101]⟩, ⟨#[52]⟩, false⟩
      obtain ⟨w14, hw14⟩ : ∃ z, z = w13.alloc (.cells #[.string ⟨#[98]⟩, .string ⟨#[]⟩, .bool true, .string ⟨#[100]⟩, .string ⟨#[51]⟩, .bool false, .string ⟨#[101]⟩, .string ⟨#[52]⟩, .bool false] 61) := ⟨_, rfl⟩
      rw [← hw14] at hal hes ⊢
      have HAL := Lib.hid hal
      have HES := Lib.hid hes
      clear hw14 hal hes
      have HSE : Hid (∀ (u : World) (a : Option Addr) (n c : Nat), Below w14.heap.size w14 u → Es (fun _ => True) u a n c livE → Calls Try.prog 33 #[.slice a n c, .slice (some ⟨w13.heap.size, 0, none⟩) 3 3] u fun e W' => e = .returned (.bool true) ∧ Below u.heap.size u W') := Lib.hid (fun u a n c hu hp => by
        have h := sameE_any hp (HES.out.below hu)
        rw [decide_eq_true rfl] at h
        exact h)
      have HL0 : Hid (∀ u, Below w14.heap.size w14 u → Calls Try.prog 23 #[.pointer (some ⟨g0, 0, none⟩)] u fun e W' => e = .returned (.int .i64 0) ∧ u = W') := Lib.hid (fun u hu => len_any (((HT07.out.under HB713.out).under HAL.out).under hu).tr)
      have HLA : Hid (∀ u, Below w14.heap.size w14 u → Calls Try.prog 23 #[.pointer (some ⟨gA, 0, none⟩)] u fun e W' => e = .returned (.int .i64 2) ∧ u = W') := Lib.hid (fun u hu => by
        have h := len_any (((HTA7.out.under HB713.out).under HAL.out).under hu).tr
        rw [HLA2.out] at h
        exact h)
      go_wp2_with (first
        | (go_at_call 32; refine (HDF.out _ HAL.out).mono ?_; rintro e w15 ⟨a2, n2, c2, rfl, hp2, hb2⟩; have HP2 := Lib.hid hp2; have HB2 := Lib.hid hb2; clear hp2 hb2)
        | (go_at_call 33; refine (HSE.out _ _ _ _ HB2.out HP2.out).mono ?_; rintro e w16 ⟨rfl, hb16⟩; have HB16 := Lib.hid (HB2.out.trans (hb16.mono HB2.out.size)); clear hb16)
        | (go_at_call_has 23 (Value.pointer (some ⟨g0, 0, none⟩)); refine (HL0.out _ HB16.out).mono ?_; rintro e w17 ⟨rfl, rfl⟩)
        | (go_at_call_has 23 (Value.pointer (some ⟨gA, 0, none⟩)); refine (HLA.out _ HB16.out).mono ?_; rintro e w17 ⟨rfl, rfl⟩))
      go_ret
      exact ⟨rfl, HBW7.out.trans ((HB713.out.trans ((HAL.out.trans (HB16.out.mono HAL.out.size)).mono HB713.out.size)).mono HBW7.out.size)⟩
end Go.Proofs.Ytfgmhidgkemfoaa
namespace Go.Proofs.Ytfgmhidgkemfoaa
open Go.RowKit
set_option linter.unusedSimpArgs false
set_option linter.unusedVariables false
attribute [local go_sem ↓] exec_loadOp exec_at_zeroP exec_at_succP Go.wp_at_zero Go.wp_at_succ
attribute [local go_sem] run_boxOp
theorem fresh_le {w : World} {ga gb Ha Hb : Nat} {ta tb : Option BT} (ha : TT w ga ta Ha) (hb : TT w gb tb Hb) (hlen : (treeL tb).length ≤ 1000000) (X : Nat) (hX : ∀ P, tcnt P tb ≤ tcnt P ta + X) :
    Calls Try.prog 31 #[.pointer (some ⟨ga, 0, none⟩), .pointer (some ⟨gb, 0, none⟩)] w fun e w' => ∃ k : Nat, e = .returned (.int .i64 (k : Int)) ∧ k ≤ X ∧ Below w.heap.size w w' := by
  refine (fresh_any ha hb hlen).mono ?_
  rintro e w' ⟨k, rfl, ⟨P, h1, h2⟩, h3⟩
  exact ⟨k, rfl, by have := hX P; omega, h3⟩
theorem fresh_same {w : World} {g H : Nat} {t : Option BT} (h : TT w g t H) (hlen : (treeL t).length ≤ 1000000) :
    Calls Try.prog 31 #[.pointer (some ⟨g, 0, none⟩), .pointer (some ⟨g, 0, none⟩)] w fun e w' => e = .returned (.int .i64 0) ∧ Below w.heap.size w w' := by
  refine (fresh_le h h hlen 0 (fun P => Nat.le_refl _)).mono ?_
  rintro e w' ⟨k, rfl, h1, h2⟩
  obtain rfl : k = 0 := by omega
  exact ⟨rfl, h2⟩
/-- what the loop keeps -/
structure SI (w wr : World) (g0 : Nat) (t0 : Option BT) (H0 : Nat) (g : Nat) (t : Option BT) (H hi i : Nat) : Prop where
  ta : TT wr g0 t0 H0
  tt : TT wr g t H
  ln : (treeL t).length ≤ 500 + i
  i20 : i ≤ 20
  hh : H ≤ hi
  h5 : hi ≤ 5
  cn : ∀ P, tcnt P t ≤ tcnt P t0 + i * (3 * hi + 2)
  bl : Below w.heap.size w wr
theorem tok_five {t : Option BT} {H : Nat} (h : TOk t H) (hl : (treeL t).length ≤ 600) : H ≤ 5 := tok_high h 5 (by have e : 2 * 4 ^ 5 = 2048 := (by decide); rw [e]; omega)
theorem SI.next {w wr w' : World} {g0 : Nat} {t0 : Option BT} {H0 g : Nat} {t : Option BT} {H hi i : Nat} (h : SI w wr g0 t0 H0 g t H hi i) (h20 : i < 20) (hb : Below wr.heap.size wr w') {g' : Nat} {t' : Option BT} {H' : Nat} (ht : TT w' g' t' H') (hl : (treeL t').length ≤ (treeL t).length + 1) (hc : ∀ P, tcnt P t' ≤ tcnt P t + (3 * H + 2)) : SI w w' g0 t0 H0 g' t' H' (max hi H') (i + 1) := by
  have hln : (treeL t').length ≤ 500 + (i + 1) := by have := h.ln; omega
  have h5 : H' ≤ 5 := tok_five ht.ok (by omega)
  refine ⟨h.ta.under hb, ht, hln, by omega, Nat.le_max_right _ _, Nat.max_le.2 ⟨h.h5, h5⟩, fun P => ?_, h.bl.trans (hb.mono h.bl.size)⟩
  have h1 := hc P
  have h2 := h.cn P
  have h3 : 3 * hi + 2 ≤ 3 * max hi H' + 2 := by have := Nat.le_max_left hi H'; omega
  have h4 : i * (3 * hi + 2) ≤ i * (3 * max hi H' + 2) := Nat.mul_le_mul_left _ h3
  have h6 := h.hh
  rw [Nat.add_mul, Nat.one_mul]
  omega
set_option maxRecDepth 100000 in
set_option maxHeartbeats 1000000 in
theorem treeshares_any {D : Nat → Prop} {w : World} {a : Option Addr} {n c : Nat} {ms : List OpM} (nn step : Int) (h : Ops D w a n c ms) (hn1 : -9223372036854775808 ≤ nn) (hn2 : nn ≤ 9223372036854775807) (hs1 : -9223372036854775808 ≤ step) (hs2 : step ≤ 9223372036854775807) :
    Calls Try.prog 7 #[.int .i64 nn, .int .i64 step, .slice a n c] w fun e w' => e = .returned (.bool true) ∧ Below w.heap.size w w' := by
  have HA1 := Lib.hid (aroundT_any nn 501 w hn1 hn2 (by omega) (by omega))
  have HA2 := Lib.hid (aroundT_any step 3988 w hs1 hs2 (by omega) (by omega))
  have hbd1 := aroundT_bd nn 501 (by omega)
  have hbd2 := aroundT_bd step 3988 (by omega)
  obtain ⟨m, hm⟩ : ∃ m : Nat, aroundT nn 501 = (m : Int) := ⟨(aroundT nn 501).toNat, by omega⟩
  obtain ⟨q, hq⟩ : ∃ q : Nat, aroundT step 3988 = (q : Int) := ⟨(aroundT step 3988).toNat, by omega⟩
  rw [hm] at HA1 hbd1
  rw [hq] at HA2 hbd2
  have hw1 : IntKind.i64.wrap ((1 : Int) + (q : Int)) = ((q + 1 : Nat) : Int) := by rw [i64_id _ (by omega) (by omega)]; omega
  have hM : Hid (m ≤ 500) := Lib.hid (by omega)
  have hQ : Hid (q + 1 ≤ 4000) := Lib.hid (by omega)
  have HO := Lib.hid h
  have HL := Lib.hid h.1
  have HCH : Hid (∀ (u : World) (g : Nat) (t : Option BT) (H : Nat) (m : OpM), TT u g t H → (treeL t).length ≤ 100000 → OpOk m → Calls Try.prog 13 #[.pointer (some ⟨g, 0, none⟩), m.agg, .int .i64 4000] u (ChgT u t H m 4000)) := Lib.hid (fun u g t H m ht hl hm => change_any ht hl m hm 4000 (by omega) (by omega))
  have hc1 := h.2.1.2.1
  have hc2 : c ≤ 9223372036854775807 := h.2.1.2.2.1
  clear h hm hq hbd1 hbd2 hn1 hn2 hs1 hs2
  go_enter Try.func7, Try.ntmps7
  go_upto_region 2 with (first
    | (go_at_call_has 16 (Value.int IntKind.i64 501); refine HA1.out.mono ?_; rintro e w2 ⟨rfl, rfl⟩)
    | (go_at_call_has 16 (Value.int IntKind.i64 3988); refine HA2.out.mono ?_; rintro e w2 ⟨rfl, rfl⟩)
    | (go_at_call 20; refine (many_any m (q + 1) false (Nat.le_trans hM.out (by omega)) hQ.out _).mono ?_; rintro e w1 ⟨g0, t0, H0, ap, np, cp, rfl, htp, hlen, hb1⟩; have HT := Lib.hid htp.tt; have HLEN : Hid ((treeL t0).length ≤ 500) := Lib.hid (Nat.le_trans hlen hM.out); have HB1 := Lib.hid hb1; clear htp hlen hb1))
  clear HA1 HA2 hw1 hM hQ
  go_upto_region 5 with (go_at_call 31; refine (fresh_same HT.out (Nat.le_trans HLEN.out (by omega))).mono ?_; rintro e w2 ⟨rfl, hb2⟩; have HT2 := Lib.hid (HT.out.under hb2); have HB2 := Lib.hid (HB1.out.trans (hb2.mono HB1.out.size)); clear hb2)
  go_wp2_with (go_at_call 22; refine (height_any HT2.out.tr HT2.out.ok (Nat.le_trans (tok_five HT2.out.ok (Nat.le_trans HLEN.out (by omega))) (by omega))).mono ?_; rintro e w3 ⟨rfl, hb3⟩; have HS0 : Hid (SI w w3 g0 t0 H0 g0 t0 H0 H0 0) := Lib.hid ⟨HT2.out.under hb3, HT2.out.under hb3, HLEN.out, Nat.zero_le _, Nat.le_refl _, tok_five HT2.out.ok (Nat.le_trans HLEN.out (by omega)), fun P => Nat.le_add_right _ _, HB2.out.trans (hb3.mono HB2.out.size)⟩; clear hb3)
  go_loopw [10, 11, 12, 13] (fun u v x y wr => ∃ (g H hi i : Nat) (t : Option BT), u = .pointer (some ⟨g, 0, none⟩) ∧ v = .int .i64 (hi : Int) ∧ x = .int .i64 (i : Int) ∧ y = .int .i64 (i : Int) ∧ i ≤ n ∧ SI w wr g0 t0 H0 g t H hi i) (fun _ _ _ y _ => n - (intOf y).toNat)
  case atStart => exact ⟨g0, H0, H0, 0, t0, rfl, rfl, rfl, rfl, Nat.zero_le _, HS0.out⟩
  case round =>
    obtain ⟨g, H, hi, i, t, rfl, rfl, rfl, rfl, hin, hsi⟩ := hrel
    have HSI := Lib.hid hsi
    clear hsi HS0 HT HT2 HB1 HB2
    by_cases hgo : i < n ∧ i < 20
    · obtain ⟨hlt, h20⟩ := hgo
      have hlt2 : (i : Int) < (n : Int) := by omega
      have h202 : (i : Int) < 20 := by omega
      have hil : i < ms.length := by rw [HL.out]; exact hlt
      obtain ⟨b, off, -, hbs, rfl, hcell⟩ := HO.out.at (by omega)
      have hr := hcell i hil
      obtain ⟨o, ho⟩ : ∃ o, o = ms[i]'hil := ⟨_, rfl⟩
      have HOK : Hid (OpOk o) := Lib.hid (by rw [ho]; exact HO.out.2.2 _ (List.getElem_mem hil))
      rw [← ho] at hr
      obtain ⟨ob, hob⟩ : ∃ ob, ob = off + i * 3 := ⟨_, rfl⟩
      rw [← hob] at hr
      have hob2 : off + i * 3 = ob := hob.symm
      have ldo := run_loadOp (range_below hr (by rw [OpM.cells_len]; omega) HSI.out.bl)
      have HL0 : Hid ((treeL t).length ≤ 600) := Lib.hid (Nat.le_trans HSI.out.ln (by omega))
      have h5 := HSI.out.h5
      have hH5 := HSI.out.hh
      have HLTi := Lib.hid hlt
      have H20 := Lib.hid h20
      have HH5 : Hid (H ≤ 5) := Lib.hid (by omega)
      have hwi : IntKind.i64.wrap ((i : Int) + 1) = (i : Int) + 1 := i64_id _ (by omega) (by omega)
      have hw3 : IntKind.i64.wrap (3 * (H : Int)) = 3 * (H : Int) := i64_id _ (by omega) (by omega)
      have hw4 : IntKind.i64.wrap (3 * (H : Int) + 2) = 3 * (H : Int) + 2 := i64_id _ (by omega) (by omega)
      clear hcell hr ho hob hlt hil hbs h20 h5 hH5
      go_upto_region 11 with (go_at_call 13; refine (HCH.out _ _ _ _ o HSI.out.tt (Nat.le_trans HL0.out (by omega)) HOK.out).mono ?_; rintro e w5 ⟨g5, t5, H5, rfl, ht5, hl5, hc5, hb5⟩; have HT5 := Lib.hid ht5; have HL5 : Hid ((treeL t5).length ≤ (treeL t).length + 1) := Lib.hid (by rw [hl5]; exact chL_len HSI.out.tt.so o 4000); have HC5 := Lib.hid hc5; have HB5 := Lib.hid hb5; clear ht5 hl5 hb5 hc5)
      clear ldo
      have HTT := Lib.hid (HSI.out.tt.under HB5.out)
      have HL6 : Hid ((treeL t5).length ≤ 1000) := Lib.hid (by have := HL5.out; have := HL0.out; omega)
      have HF1 : Hid (∀ u, Below w5.heap.size w5 u → Calls Try.prog 31 #[.pointer (some ⟨g, 0, none⟩), .pointer (some ⟨g5, 0, none⟩)] u fun e w' => ∃ k : Nat, e = .returned (.int .i64 (k : Int)) ∧ k ≤ 3 * H + 2 ∧ Below u.heap.size u w') := Lib.hid (fun u hu => fresh_le (HTT.out.under hu) (HT5.out.under hu) (Nat.le_trans HL6.out (by omega)) _ HC5.out)
      have HF2 : Hid (∀ u, Below w5.heap.size w5 u → Calls Try.prog 31 #[.pointer (some ⟨g5, 0, none⟩), .pointer (some ⟨g5, 0, none⟩)] u fun e w' => e = .returned (.int .i64 0) ∧ Below u.heap.size u w') := Lib.hid (fun u hu => fresh_same (HT5.out.under hu) (Nat.le_trans HL6.out (by omega)))
      have HH1 : Hid (∀ u, Below w5.heap.size w5 u → Calls Try.prog 22 #[.pointer (some ⟨g, 0, none⟩)] u fun e w' => e = .returned (.int .i64 (H : Int)) ∧ Below u.heap.size u w') := Lib.hid (fun u hu => height_any (HTT.out.under hu).tr HTT.out.ok (Nat.le_trans HH5.out (by omega)))
      have HH2 : Hid (∀ u, Below w5.heap.size w5 u → Calls Try.prog 22 #[.pointer (some ⟨g5, 0, none⟩)] u fun e w' => e = .returned (.int .i64 (H5 : Int)) ∧ Below u.heap.size u w') := Lib.hid (fun u hu => height_any (HT5.out.under hu).tr HT5.out.ok (Nat.le_trans (tok_high HT5.out.ok 10 (by have := HL6.out; have e : 2 * 4 ^ 10 = 2097152 := (by decide); rw [e]; omega)) (by omega)))
      obtain ⟨hM, hhM⟩ : ∃ hM : Nat, hM = max hi H5 := ⟨_, rfl⟩
      have hmax1 : max (hi : Int) (H5 : Int) = (hM : Int) := by omega
      have hmax2 : (if (hi : Int) < (H5 : Int) then (H5 : Int) else (hi : Int)) = (hM : Int) := by split <;> omega
      have HHM := Lib.hid hhM
      clear hhM
      go_upto_region 13 with (first
        | (go_at_call_has 31 (#[Value.pointer (some ⟨g5, 0, none⟩), Value.pointer (some ⟨g5, 0, none⟩)] : Array Value); refine (HF2.out _ HB8.out).mono ?_; rintro e w9 ⟨rfl, hb9⟩; have HB9 := Lib.hid (HB8.out.trans (hb9.mono HB8.out.size)); clear hb9)
        | (go_at_call_has 31 (#[Value.pointer (some ⟨g, 0, none⟩), Value.pointer (some ⟨g5, 0, none⟩)] : Array Value); refine (HF1.out _ HB7.out).mono ?_; rintro e w8 ⟨k2, rfl, hkk, hb8⟩; have hk5 : ¬ (k2 : Int) < 0 := (by omega); have HB8 := Lib.hid (HB7.out.trans (hb8.mono HB7.out.size)); clear hkk hb8)
        | (go_at_call 22; refine (HH1.out _ HB6.out).mono ?_; rintro e w7 ⟨rfl, hb7⟩; have HB7 := Lib.hid (HB6.out.trans (hb7.mono HB6.out.size)); clear hb7)
        | (go_at_call_has 31 (#[Value.pointer (some ⟨g, 0, none⟩), Value.pointer (some ⟨g5, 0, none⟩)] : Array Value); refine (HF1.out _ (Below.refl _ w5)).mono ?_; rintro e w6 ⟨k, rfl, hk, hb6⟩; have hk1 : ¬ (3 * (H : Int) + 2) < (k : Int) := (by omega); have hk2 : decide ((3 * (H : Int) + 2) < (k : Int)) = false := decide_eq_false hk1; have HB6 := Lib.hid hb6; clear hk hb6))
      clear hk1 hk2 hk5 hw3 hw4
      go_wp2_with (go_at_call 22; refine (HH2.out _ HB9.out).mono ?_; rintro e wA ⟨rfl, hbA⟩; have HBA := Lib.hid (HB9.out.trans (hbA.mono HB9.out.size)); clear hbA)
      go_roundw
      case rel =>
        refine ⟨g5, H5, hM, i + 1, t5, rfl, by go_num, by go_num, by go_num, by have := HLTi.out; omega, ?_⟩
        rw [HHM.out]
        exact HSI.out.next H20.out (HB5.out.trans (HBA.out.mono HB5.out.size)) (HT5.out.under HBA.out) HL5.out HC5.out
      case measure => (try go_num); (try (simp only [intOf])); have := HLTi.out; omega
    · by_cases hlt : i < n
      · have hlt2 : (i : Int) < (n : Int) := by omega
        have h202 : ¬ (i : Int) < 20 := by omega
        have h203 : decide ((i : Int) < 20) = false := decide_eq_false h202
        clear hgo hin hlt
        go_upto_region 16 with fail
        clear hlt2 h202 h203
        have HL0 : Hid ((treeL t).length ≤ 1000) := Lib.hid (Nat.le_trans HSI.out.ln (by have := HSI.out.i20; omega))
        obtain ⟨X, hX⟩ : ∃ X : Nat, X = i * (3 * hi + 2) := ⟨_, rfl⟩
        have h5 := HSI.out.h5
        have h20 := HSI.out.i20
        have hX3 : X ≤ 20 * 17 := by rw [hX]; exact Nat.mul_le_mul h20 (by omega)
        have hw3 : IntKind.i64.wrap (3 * (hi : Int)) = 3 * (hi : Int) := i64_id _ (by omega) (by omega)
        have hw4 : IntKind.i64.wrap (3 * (hi : Int) + 2) = 3 * (hi : Int) + 2 := i64_id _ (by omega) (by omega)
        have hX2 : (i : Int) * (3 * (hi : Int) + 2) = (X : Int) := by rw [hX]; push_cast; rfl
        have hwx : IntKind.i64.wrap (X : Int) = (X : Int) := i64_id _ (by omega) (by omega)
        have HFE : Hid (Calls Try.prog 31 #[.pointer (some ⟨g0, 0, none⟩), .pointer (some ⟨g, 0, none⟩)] wr fun e w' => ∃ k : Nat, e = .returned (.int .i64 (k : Int)) ∧ k ≤ X ∧ Below wr.heap.size wr w') := Lib.hid (fresh_le HSI.out.ta HSI.out.tt (by have := HL0.out; omega) X (by rw [hX]; exact HSI.out.cn))
        have HBL := Lib.hid HSI.out.bl
        clear hX h5 h20 hX3 HSI HCH
        go_wp2_with (first
          | (go_at_call 31; (refine HFE.out.mono ?_; rintro e w5 ⟨k, rfl, hk, hb5⟩; have hkx : (k : Int) ≤ (X : Int)  := (by omega); have HB5 := Lib.hid hb5; clear hk hb5))
          | (go_at_call 19; refine (lives_any _).mono ?_; rintro e w6 ⟨rfl, hb6⟩))
        go_ret
        exact ⟨rfl, HBL.out.trans ((HB5.out.trans (hb6.mono HB5.out.size)).mono HBL.out.size)⟩
      · have hlt2 : ¬ (i : Int) < (n : Int) := by omega
        have hlt3 : decide ((i : Int) < (n : Int)) = false := decide_eq_false hlt2
        clear hgo hin hlt
        go_upto_region 16 with fail
        clear hlt2 hlt3
        have HL0 : Hid ((treeL t).length ≤ 1000) := Lib.hid (Nat.le_trans HSI.out.ln (by have := HSI.out.i20; omega))
        obtain ⟨X, hX⟩ : ∃ X : Nat, X = i * (3 * hi + 2) := ⟨_, rfl⟩
        have h5 := HSI.out.h5
        have h20 := HSI.out.i20
        have hX3 : X ≤ 20 * 17 := by rw [hX]; exact Nat.mul_le_mul h20 (by omega)
        have hw3 : IntKind.i64.wrap (3 * (hi : Int)) = 3 * (hi : Int) := i64_id _ (by omega) (by omega)
        have hw4 : IntKind.i64.wrap (3 * (hi : Int) + 2) = 3 * (hi : Int) + 2 := i64_id _ (by omega) (by omega)
        have hX2 : (i : Int) * (3 * (hi : Int) + 2) = (X : Int) := by rw [hX]; push_cast; rfl
        have hwx : IntKind.i64.wrap (X : Int) = (X : Int) := i64_id _ (by omega) (by omega)
        have HFE : Hid (Calls Try.prog 31 #[.pointer (some ⟨g0, 0, none⟩), .pointer (some ⟨g, 0, none⟩)] wr fun e w' => ∃ k : Nat, e = .returned (.int .i64 (k : Int)) ∧ k ≤ X ∧ Below wr.heap.size wr w') := Lib.hid (fresh_le HSI.out.ta HSI.out.tt (by have := HL0.out; omega) X (by rw [hX]; exact HSI.out.cn))
        have HBL := Lib.hid HSI.out.bl
        clear hX h5 h20 hX3 HSI HCH
        go_wp2_with (first
          | (go_at_call 31; (refine HFE.out.mono ?_; rintro e w5 ⟨k, rfl, hk, hb5⟩; have hkx : (k : Int) ≤ (X : Int)  := (by omega); have HB5 := Lib.hid hb5; clear hk hb5))
          | (go_at_call 19; refine (lives_any _).mono ?_; rintro e w6 ⟨rfl, hb6⟩))
        go_ret
        exact ⟨rfl, HBL.out.trans ((HB5.out.trans (hb6.mono HB5.out.size)).mono HBL.out.size)⟩
end Go.Proofs.Ytfgmhidgkemfoaa

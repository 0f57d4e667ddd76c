/-
  Texts OL, OM, PD, PE, one behind the other.
-/
import Derived.WalkKit
import Derived.WalkSpells
import Derived.WalkLawsBesides
import Derived.Laws.AppendOwn
import Derived.Laws.OwnMore
import Derived.Deep.AppendSrc
import Derived.Deep.MidRow
import Derived.Lib.Hide
import GoSem.Claim
import Derived.Lib.Bytealg
import Derived.Laws.Externs
import Derived.Deep.QuietTactic
import Derived.BigQuiet
import Derived.Deep.CutBlock
import Derived.OwnWalk
import Derived.Deep.DrawnRows
import Derived.Deep.CutRange
import Derived.Deep.LoopGhost
import Derived.Laws.Tables
import Derived.Laws.ResultCell
import Derived.Deep.WholeRow
import Derived.Lib.Strings
import Derived.Shelf.Spec.SlicesInsert
import Derived.Lib.AppendZerosOnto
import Derived.Lib.Overlaps
import Derived.Laws.CopyRow
import Derived.Deep.RegionLaw
import Derived.StillTailTactics
import Derived.RangeFuncNested
import Derived.RangeFuncBound
import Derived.RangeFuncCalls
import Derived.RangeFuncLeaves
import Derived.Shelf.Abstract
import Derived.Shelf.RegionOpen
import Derived.OwnWalkIn
import Derived.TacticsInMore
import Derived.LoopNIn
import Derived.LoopIn
import Derived.RangeFuncBox
import Derived.Sort.CutIn
import Derived.Orders
import Derived.Tactics
import Derived.Sort.AtCall
import Derived.ProofKit
import Derived.OpenShut
import Derived.Carry
import Derived.Deep.Slices
import Derived.Deep.Fields
import Derived.JoinedCond
import Derived.ChangeMaps5
import Derived.Test.YtfgmhidgkemfoaaRows
import Derived.Test.YtfgmhidgkemfoaaProg
import Derived.Test.YtfgmhidgkemfoaaChecked
import Derived.Test.YtfgmhidgkemfoaaZT406
namespace Go.Proofs.Ytfgmhidgkemfoaa
open Go.RowKit
set_option linter.unusedSimpArgs false
set_option linter.unusedVariables false
def s1 (a : UInt8) : ByteArray := ⟨#[a]⟩
def livA : List KV := [⟨s1 98, s1 49⟩, ⟨s1 100, s1 50⟩]
def livB : List KV := [⟨s1 100, s1 51⟩, ⟨s1 101, s1 52⟩]
def livE : List ED := [⟨s1 98, emptyS, true⟩, ⟨s1 100, s1 51, false⟩, ⟨s1 101, s1 52, false⟩]
theorem livA_eq : insL (insL [] ⟨s1 100, s1 50⟩) ⟨s1 98, s1 49⟩ = livA := by decide
theorem livB_eq : insL (insL [] ⟨s1 101, s1 52⟩) ⟨s1 100, s1 51⟩ = livB := by decide
theorem livE_eq : diffR livA livB = livE := by rw [← diffP_eq]; decide
theorem livF : floorL livA (s1 99) = some ⟨s1 98, s1 49⟩ := by decide
theorem livG : floorL livA (s1 97) = none := by decide
theorem livR : rngL (s1 98) (s1 100) livA = [⟨s1 98, s1 49⟩] := by decide
def nineL (i : Nat) : List KV := (List.range i).foldl (fun l j => insL l ⟨keyB j, xB⟩) []
theorem nine_succ (i : Nat) : nineL (i + 1) = insL (nineL i) ⟨keyB i, xB⟩ := by unfold nineL; rw [List.range_succ, List.foldl_append]; rfl
theorem nine_len : ∀ i, i ≤ 9 → (nineL i).length = i := by decide
theorem Sl.new {W : World} {t : TypeId} (cs : List Value) (size : Nat) (hs : cs.length = size) (n : Nat) (hn : n ≤ maxLen) (xs : List Value) (hx : xs.length = n * size) (hz : 0 < size) (h0 : 0 < n) : Sl (fun _ => True) (W.alloc (.cells xs.toArray t)) (some ⟨W.heap.size, 0, none⟩) n n xs size := by
  refine ⟨hx, Nat.le_refl _, hn, by simp, fun _ => ⟨W.heap.size, 0, trivial, rfl, fun j v hv => ?_⟩⟩
  rw [Nat.zero_add, cell_of_row (W.alloc (.cells xs.toArray t)) W.heap.size j xs.toArray _ _ (World.alloc_heap_new W _)]
  simpa using hv
theorem Ps.new1 (W : World) (k v : ByteArray) : Ps (fun _ => True) (W.alloc (.cells #[.string k, .string v] 65)) (some ⟨W.heap.size, 0, none⟩) 1 1 [⟨k, v⟩] := ⟨rfl, Sl.new [.string k, .string v] 2 rfl 1 (by decide) [.string k, .string v] rfl (by decide) (by decide)⟩
theorem Es.new3 (W : World) (a b c : ED) : Es (fun _ => True) (W.alloc (.cells #[.string a.k, .string a.v, .bool a.d, .string b.k, .string b.v, .bool b.d, .string c.k, .string c.v, .bool c.d] 61)) (some ⟨W.heap.size, 0, none⟩) 3 3 [a, b, c] := ⟨rfl, Sl.new [.string a.k, .string a.v, .bool a.d] 3 rfl 3 (by decide) (ecells [a, b, c]) rfl (by decide) (by decide)⟩
end Go.Proofs.Ytfgmhidgkemfoaa
namespace Go.Proofs.Ytfgmhidgkemfoaa
open Go.RowKit
set_option linter.unusedSimpArgs false
set_option linter.unusedVariables false
attribute [local go_sem ↓] exec_loadPair exec_storePair exec_at_zeroP exec_at_succP Go.wp_at_zero Go.wp_at_succ
attribute [local go_sem] run_storePair
theorem none_len : (treeL (none : Option BT)).length ≤ 1000000 := by show ([] : List KV).length ≤ 1000000; simp
theorem s1_60 (a : UInt8) : (s1 a).size ≤ 60 := by show 1 ≤ 60; omega
theorem s1_1000 (a : UInt8) : (s1 a).size ≤ 1000 := by show 1 ≤ 1000; omega
theorem ins_one (p : KV) : (insL (treeL (none : Option BT)) p).length ≤ 1000000 := by
  have h := insL_le (treeL (none : Option BT)) p
  have e : (treeL (none : Option BT)).length = 0 := rfl
  omega
set_option maxRecDepth 100000 in
set_option maxHeartbeats 400000 in
theorem lives_any (w : World) : Calls Try.prog 19 #[] w fun e w' => e = .returned (.bool true) ∧ Below w.heap.size w w' := by
  go_enter Try.func19, Try.ntmps19
  go_upto_region 4 with (go_at_call 12; refine (new_any _).mono ?_; rintro e w1 ⟨g0, rfl, ht0, -, hb0⟩; have HT0 := Lib.hid ht0; have HB0 := Lib.hid hb0; clear ht0 hb0)
  go_upto_region 5 with (first
    | (go_at_call_has 25 (Value.pointer (some ⟨g0, 0, none⟩)); refine (put_tree HT0.out none_len (s1 100) (s1 50) (s1_60 _) (s1_1000 _)).mono ?_; rintro e w2 ⟨g1, t1, H1, rfl, ht1, hl1, -, -, hb1⟩; have HT1 := Lib.hid ht1; have HL1 := Lib.hid hl1; have HB1 := Lib.hid hb1; clear ht1 hl1 hb1)
    | (go_at_call_has 25 (Value.pointer (some ⟨g1, 0, none⟩)); refine (put_tree HT1.out (by rw [HL1.out]; exact ins_one _) (s1 98) (s1 49) (s1_60 _) (s1_1000 _)).mono ?_; rintro e w3 ⟨gA, tA, HA, rfl, htA, hlA, -, -, hb2⟩; have HTA := Lib.hid htA; have HLA := Lib.hid hlA; have HB2 := Lib.hid hb2; clear htA hlA hb2))
  have HLA2 : Hid (treeL tA = livA) := Lib.hid (by rw [HLA.out, HL1.out]; exact livA_eq)
  have HBA : Hid (Below w1.heap.size w1 w3) := Lib.hid (HB1.out.trans (HB2.out.mono HB1.out.size))
  have HT03 := Lib.hid (HT0.out.under HBA.out)
  go_upto_region 6 with (first
    | (go_at_call_has 25 (Value.pointer (some ⟨g0, 0, none⟩)); refine (put_tree HT03.out none_len (s1 101) (s1 52) (s1_60 _) (s1_1000 _)).mono ?_; rintro e w4 ⟨g3, t3, H3, rfl, ht3, hl3, -, -, hb3⟩; have HT3 := Lib.hid ht3; have HL3 := Lib.hid hl3; have HB3 := Lib.hid hb3; clear ht3 hl3 hb3)
    | (go_at_call_has 25 (Value.pointer (some ⟨g3, 0, none⟩)); refine (put_tree HT3.out (by rw [HL3.out]; exact ins_one _) (s1 100) (s1 51) (s1_60 _) (s1_1000 _)).mono ?_; rintro e w5 ⟨gB, tB, HB, rfl, htB, hlB, -, -, hb4⟩; have HTB := Lib.hid htB; have HLB := Lib.hid hlB; have HB4 := Lib.hid hb4; clear htB hlB hb4))
  have HLB2 : Hid (treeL tB = livB) := Lib.hid (by rw [HLB.out, HL3.out]; exact livB_eq)
  have HB35 : Hid (Below w3.heap.size w3 w5) := Lib.hid (HB3.out.trans (HB4.out.mono HB3.out.size))
  have HTA5 := Lib.hid (HTA.out.under HB35.out)
  have HT05 := Lib.hid (HT03.out.under HB35.out)
  have HBW : Hid (Below w.heap.size w w5) := Lib.hid (HB0.out.trans ((HBA.out.trans (HB35.out.mono HBA.out.size)).mono HB0.out.size))
  have HFC : Hid (∀ u, Below w5.heap.size w5 u → Calls Try.prog 35 #[.pointer (some ⟨gA, 0, none⟩), .string (s1 99)] u fun e u' => e = .returned (.tuple #[.agg #[.string (s1 98), .string (s1 49)], .bool true]) ∧ Below u.heap.size u u') := Lib.hid (fun u hu => by
    have h := floor_any (HTA5.out.under hu).tr HTA5.out.ok HTA5.out.so (s1 99)
    rw [HLA2.out, livF] at h
    exact h)
  have HFA : Hid (∀ u, Below w5.heap.size w5 u → Calls Try.prog 35 #[.pointer (some ⟨gA, 0, none⟩), .string (s1 97)] u fun e u' => e = .returned (.tuple #[.agg #[.string emptyS, .string emptyS], .bool false]) ∧ Below u.heap.size u u') := Lib.hid (fun u hu => by
    have h := floor_any (HTA5.out.under hu).tr HTA5.out.ok HTA5.out.so (s1 97)
    rw [HLA2.out, livG] at h
    exact h)
  clear HT0 HB0 HT1 HL1 HB1 HLA HBA HT03 HT3 HL3 HB3 HLB HB4 HTA HB2 HB35
  go_upto_region 7 with (go_at_call 35; refine (HFC.out _ (Below.refl _ _)).mono ?_; rintro e w6 ⟨rfl, hb6⟩; have HB6 := Lib.hid hb6; have p6 : PB (w6.alloc (.cells #[.string ⟨#[]⟩, .string ⟨#[]⟩] 65)) w6.heap.size := ⟨⟨⟨#[]⟩, ⟨#[]⟩⟩, heap_new rfl⟩; clear hb6)
  have hx6 : Below w6.heap.size w6 ((w6.alloc (.cells #[.string ⟨#[]⟩, .string ⟨#[]⟩] 65)).setRow w6.heap.size #[.string (s1 98), .string (s1 49)]) :=
    ((((Kept.of_below (fun _ => False) (Below.refl w6.heap.size w6)).alloc _).setRow (fun h => by omega) _).below (Nat.le_refl _) (fun _ _ h => h))
  have hp6 : ((w6.alloc (.cells #[.string ⟨#[]⟩, .string ⟨#[]⟩] 65)).setRow w6.heap.size #[.string (s1 98), .string (s1 49)]).heap[w6.heap.size]? = some (.cells #[.string (s1 98), .string (s1 49)] 65 (0, 0)) := setRow_heap _ _ _ _ _ _ (heap_new rfl)
  obtain ⟨X, hX⟩ : ∃ X, X = w6.heap.size := ⟨_, rfl⟩
  have HB6W : Hid (Below w5.heap.size w5 ((w6.alloc (.cells #[.string ⟨#[]⟩, .string ⟨#[]⟩] 65)).setRow w6.heap.size #[.string (s1 98), .string (s1 49)])) := Lib.hid (HB6.out.trans (hx6.mono HB6.out.size))
  rw [← hX] at HB6W hp6 ⊢
  obtain ⟨W6, hW6⟩ : ∃ W6, W6 = (w6.alloc (.cells #[.string ⟨#[]⟩, .string ⟨#[]⟩] 65)).setRow X #[.string (s1 98), .string (s1 49)] := ⟨_, rfl⟩
  have HP6 := Lib.hid hp6
  rw [← hW6] at HB6W HP6 ⊢
  clear hW6 hX hx6 hp6 HB6 p6 HFC
  go_upto_region 8 with (go_at_call 35; refine (HFA.out _ HB6W.out).mono ?_; rintro e w7 ⟨rfl, hb7⟩; have HB7 := Lib.hid hb7; have p7 : PB (w7.alloc (.cells #[.string ⟨#[]⟩, .string ⟨#[]⟩] 65)) w7.heap.size := ⟨⟨⟨#[]⟩, ⟨#[]⟩⟩, heap_new rfl⟩; clear hb7)
  have hx7 : Below w7.heap.size w7 ((w7.alloc (.cells #[.string ⟨#[]⟩, .string ⟨#[]⟩] 65)).setRow w7.heap.size #[.string emptyS, .string emptyS]) :=
    ((((Kept.of_below (fun _ => False) (Below.refl w7.heap.size w7)).alloc _).setRow (fun h => by omega) _).below (Nat.le_refl _) (fun _ _ h => h))
  obtain ⟨W7, hW7⟩ : ∃ W7, W7 = (w7.alloc (.cells #[.string ⟨#[]⟩, .string ⟨#[]⟩] 65)).setRow w7.heap.size #[.string emptyS, .string emptyS] := ⟨_, rfl⟩
  rw [← hW7] at hx7 ⊢
  have HB67 : Hid (Below W6.heap.size W6 W7) := Lib.hid (HB7.out.trans (hx7.mono HB7.out.size))
  have HB57 : Hid (Below w5.heap.size w5 W7) := Lib.hid (HB6W.out.trans (HB67.out.mono HB6W.out.size))
  have HP7 : Hid (W7.heap[X]? = some (.cells #[.string (s1 98), .string (s1 49)] 65 (0, 0))) := Lib.hid ((HB67.out.block _ (Array.getElem?_eq_some_iff.1 HP6.out).1).trans HP6.out)
  have HTA7 := Lib.hid (HTA5.out.under HB57.out)
  have HTB7 := Lib.hid (HTB.out.under HB57.out)
  have HT07 := Lib.hid (HT05.out.under HB57.out)
  have HBW7 : Hid (Below w.heap.size w W7) := Lib.hid (HBW.out.trans (HB57.out.mono HBW.out.size))
  clear hW7 hx7 HB7 p7 HFA HB67 HB57 HTA5 HTB HT05 HBW HB6W HP6
  have HKEY : Hid (∀ (q : Nat) (u : World), q < 4000 → Calls Try.prog 15 #[.int .i64 (q : Int)] u fun e w' => e = .returned (.string (keyB q)) ∧ Below u.heap.size u w') := Lib.hid (fun q u hq => by
    have h := key_any (q : Int) (by omega) (by omega) u
    have e : (aroundT (q : Int) 4000).toNat = q := by
      unfold aroundT
      rw [if_neg (by omega)]
      omega
    rw [e] at h
    exact h)
  go_wp2
  go_loopw [8, 9] (fun u x wr => ∃ (i g : Nat) (t : Option BT) (H : Nat), u = .pointer (some ⟨g, 0, none⟩) ∧ x = .int .i64 (i : Int) ∧ i ≤ 9 ∧ TT wr g t H ∧ treeL t = nineL i ∧ Below W7.heap.size W7 wr) (fun _ x _ => 9 - (intOf x).toNat)
  case atStart => exact ⟨0, g0, none, 0, rfl, rfl, Nat.zero_le _, HT07.out, rfl, Below.refl _ _⟩
  case round =>
    obtain ⟨i, g, t, H, rfl, rfl, hi, ht, hl, hb⟩ := hrel
    have HT := Lib.hid ht
    have HL := Lib.hid hl
    have HB := Lib.hid hb
    have HLEN : Hid ((treeL t).length = i) := Lib.hid (by rw [hl]; exact nine_len i hi)
    have HHI : Hid (H ≤ 100000) := Lib.hid (Nat.le_trans (tok_high ht.ok 2 (by rw [HLEN.out]; omega)) (by omega))
    clear ht hl hb
    by_cases hlt : i < 9
    · have hlt2 : (i : Int) < 9 := by omega
      have HPUT : Hid (∀ u, Below wr.heap.size wr u → Calls Try.prog 25 #[.pointer (some ⟨g, 0, none⟩), .string (keyB i), .string xB] u (PutT u t H ⟨keyB i, xB⟩)) := Lib.hid (fun u hu => put_tree (HT.out.under hu) (by have := HLEN.out; omega) (keyB i) xB (by rw [keyB_size]; omega) (by show 1 ≤ 1000; omega))
      have HLT := Lib.hid hlt
      by_cases h7 : 0 < i ∧ i < 7
      · have h70 : (0 : Int) < (i : Int) := by omega
        have h71 : (i : Int) < 7 := by omega
        have HH1 : Hid (H = 1) := Lib.hid (by
          have h1 := tok_high HT.out.ok 1 (by rw [HLEN.out]; omega)
          have h2 : H ≠ 0 := fun e => by
            have := (tok_zero HT.out.ok).1 e
            have h3 := HLEN.out
            rw [this] at h3
            simp at h3
            omega
          omega)
        clear hlt h7
        go_wp2_with (first
          | (go_at_call 22; refine (height_any HT.out.tr HT.out.ok HHI.out).mono ?_; rintro e w8 ⟨rfl, hb8⟩; have HB8 := Lib.hid hb8; clear hb8; rw [HH1.out])
          | (go_at_call 15; refine (HKEY.out i _ (by have := HLT.out; omega)).mono ?_; rintro e w9 ⟨rfl, hb9⟩; have HB9 := Lib.hid hb9; clear hb9)
          | (go_at_call 25; refine (HPUT.out _ (HB8.out.trans (HB9.out.mono HB8.out.size))).mono ?_; rintro e w10 ⟨g3, t3, H3, rfl, ht3, hl3, -, -, hb3⟩; have HT3 := Lib.hid ht3; have HL3 := Lib.hid hl3; have HB3 := Lib.hid hb3; clear ht3 hl3 hb3))
        go_roundw
        case rel => exact ⟨i + 1, g3, t3, H3, rfl, by go_num, by have := HLT.out; omega, HT3.out, by rw [HL3.out, HL.out, nine_succ], HB.out.trans (((HB8.out.trans (HB9.out.mono HB8.out.size)).trans (HB3.out.mono (Nat.le_trans HB8.out.size HB9.out.size))).mono HB.out.size)⟩
        case measure => (try go_num); (try (simp only [intOf])); have := HLT.out; omega
      · by_cases h0 : i = 0
        · have h70 : ¬ (0 : Int) < (i : Int) := by omega
          clear hlt h7 h0
          go_wp2_with (first
            | (go_at_call 15; refine (HKEY.out i _ (by have := HLT.out; omega)).mono ?_; rintro e w9 ⟨rfl, hb9⟩; have HB9 := Lib.hid hb9; clear hb9)
            | (go_at_call 25; refine (HPUT.out _ HB9.out).mono ?_; rintro e w10 ⟨g3, t3, H3, rfl, ht3, hl3, -, -, hb3⟩; have HT3 := Lib.hid ht3; have HL3 := Lib.hid hl3; have HB3 := Lib.hid hb3; clear ht3 hl3 hb3))
          go_roundw
          case rel => exact ⟨i + 1, g3, t3, H3, rfl, by go_num, by have := HLT.out; omega, HT3.out, by rw [HL3.out, HL.out, nine_succ], HB.out.trans ((HB9.out.trans (HB3.out.mono HB9.out.size)).mono HB.out.size)⟩
          case measure => (try go_num); (try (simp only [intOf])); have := HLT.out; omega
        · have h70 : (0 : Int) < (i : Int) := by omega
          have h71 : ¬ (i : Int) < 7 := by omega
          clear hlt h7 h0
          go_wp2_with (first
            | (go_at_call 15; refine (HKEY.out i _ (by have := HLT.out; omega)).mono ?_; rintro e w9 ⟨rfl, hb9⟩; have HB9 := Lib.hid hb9; clear hb9)
            | (go_at_call 25; refine (HPUT.out _ HB9.out).mono ?_; rintro e w10 ⟨g3, t3, H3, rfl, ht3, hl3, -, -, hb3⟩; have HT3 := Lib.hid ht3; have HL3 := Lib.hid hl3; have HB3 := Lib.hid hb3; clear ht3 hl3 hb3))
          go_roundw
          case rel => exact ⟨i + 1, g3, t3, H3, rfl, by go_num, by have := HLT.out; omega, HT3.out, by rw [HL3.out, HL.out, nine_succ], HB.out.trans ((HB9.out.trans (HB3.out.mono HB9.out.size)).mono HB.out.size)⟩
          case measure => (try go_num); (try (simp only [intOf])); have := HLT.out; omega
    · have hge : ¬ (i : Int) < 9 := by omega
      have HH2 : Hid (H = 2) := Lib.hid (by
        have h1 := tok_high HT.out.ok 2 (by rw [HLEN.out]; omega)
        have h2 : H ≠ 0 := fun e => by
          have := (tok_zero HT.out.ok).1 e
          have h3 := HLEN.out
          rw [this] at h3
          simp at h3
          omega
        have h3 : H ≠ 1 := fun e => by
          have h4 := (tok_bounds HT.out.ok h2).2
          rw [e, HLEN.out] at h4
          omega
        omega)
      have HRG : Hid (∀ u, Below wr.heap.size wr u → Calls Try.prog 29 #[.pointer (some ⟨gA, 0, none⟩), .string (s1 98), .string (s1 100)] u fun e W' => ∃ a n c, e = .returned (.slice a n c) ∧ Ps (fun _ => True) W' a n c [⟨s1 98, s1 49⟩] ∧ Below u.heap.size u W') := Lib.hid (fun u hu => by
        have h := range_any ((HTA7.out.under HB.out).under hu) (s1 98) (s1 100) (by rw [HLA2.out]; decide)
        rw [HLA2.out, livR] at h
        refine h.mono ?_
        rintro e W' ⟨v, rfl, hr, hb⟩
        obtain ⟨a, n, c, rfl, hp⟩ := Ps.row hr
        exact ⟨a, n, c, rfl, hp.dom (fun _ _ => trivial), hb⟩)
      have HP8 : Hid (wr.heap[X]? = some (.cells #[.string (s1 98), .string (s1 49)] 65 (0, 0))) := Lib.hid ((HB.out.block _ (Array.getElem?_eq_some_iff.1 HP7.out).1).trans HP7.out)
      clear hlt hi
      have HSM : Hid (∀ (u : World) (a : Option Addr) (n c : Nat), Ps (fun _ => True) u a n c [⟨s1 98, s1 49⟩] → Calls Try.prog 30 #[.slice a n c, .slice (some ⟨u.heap.size, 0, none⟩) 1 1] (u.alloc (.cells #[.string ⟨#[98]⟩, .string ⟨#[49]⟩] 65)) fun e W' => e = .returned (.bool true) ∧ Below u.heap.size u W') := Lib.hid (fun u a n c hp => by
        have hal : Below u.heap.size u (u.alloc (.cells #[.string ⟨#[98]⟩, .string ⟨#[49]⟩] 65)) := (Below.refl _ u).alloc (Nat.le_refl _) _
        have h := same_any (hp.below hal) (Ps.new1 u ⟨#[98]⟩ ⟨#[49]⟩)
        have e : decide ([(⟨s1 98, s1 49⟩ : KV)] = [⟨⟨#[98]⟩, ⟨#[49]⟩⟩]) = true := decide_eq_true rfl
        rw [e] at h
        exact h.mono (fun e W' h => ⟨h.1, hal.trans (h.2.mono hal.size)⟩))
      go_upto_region 17 with (first
        | (go_at_call 29; refine (HRG.out _ (Below.refl _ _)).mono ?_; rintro e w11 ⟨a1, n1, c1, rfl, hp1, hb1⟩; have HP1 := Lib.hid hp1; have HB1 := Lib.hid hb1; clear hp1 hb1)
        | (go_at_call 30; refine (HSM.out _ _ _ _ HP1.out).mono ?_; rintro e w12 ⟨rfl, hb12⟩; have HB12 := Lib.hid (HB1.out.trans (hb12.mono HB1.out.size)); have c1 : w12.cell? ⟨X, 1, none⟩ = some (.string ⟨#[49]⟩) := cell_of_row w12 X 1 _ _ _ ((HB12.out.block _ (Array.getElem?_eq_some_iff.1 HP8.out).1).trans HP8.out); clear hb12)
        | (go_at_call 22; refine (height_any (HT.out.under HB12.out).tr HT.out.ok HHI.out).mono ?_; rintro e w13 ⟨rfl, hb13⟩; have HB13 := Lib.hid (HB12.out.trans (hb13.mono HB12.out.size)); clear hb13; rw [HH2.out]))
      have HB713 : Hid (Below W7.heap.size W7 w13) := Lib.hid (HB.out.trans (HB13.out.mono HB.out.size))
      clear c1
      have HDF : Hid (∀ u, Below w13.heap.size w13 u → Calls Try.prog 32 #[.pointer (some ⟨gA, 0, none⟩), .pointer (some ⟨gB, 0, none⟩)] u fun e W' => ∃ a n c, e = .returned (.slice a n c) ∧ Es (fun _ => True) W' a n c livE ∧ Below u.heap.size u W') := Lib.hid (fun u hu => by
        have h := diff_any ((HTA7.out.under HB713.out).under hu) ((HTB7.out.under HB713.out).under hu) (by rw [HLA2.out]; decide) (by rw [HLB2.out]; decide)
        rw [HLA2.out, HLB2.out, livE_eq] at h
        refine h.mono ?_
        rintro e W' ⟨v, rfl, hr, hb⟩
        obtain ⟨a, n, c, rfl, hp⟩ := Es.row hr
        exact ⟨a, n, c, rfl, ⟨hp.1, hp.2.dom (fun _ _ => trivial)⟩, hb⟩)
      go_upto_region 18 with fail
      have hal : Below w13.heap.size w13 (w13.alloc (.cells #[.string ⟨#[98]⟩, .string ⟨#[]⟩, .bool true, .string ⟨#[100]⟩, .string ⟨#[51]⟩, .bool false, .string ⟨#[101]⟩, .string ⟨#[52]⟩, .bool false] 61)) := (Below.refl _ w13).alloc (Nat.le_refl _) _
      have hes : Es (fun _ => True) (w13.alloc (.cells #[.string ⟨#[98]⟩, .string ⟨#[]⟩, .bool true, .string ⟨#[100]⟩, .string ⟨#[51]⟩, .bool false, .string ⟨#[101]⟩, .string ⟨#[52]⟩, .bool false] 61)) (some ⟨w13.heap.size, 0, none⟩) 3 3 livE := Es.new3 w13 ⟨⟨#[98]⟩, ⟨#[]⟩, true⟩ ⟨⟨#[100]⟩, ⟨#[51]⟩, false⟩ ⟨⟨#[101]⟩, ⟨#[52]⟩, false⟩
      obtain ⟨w14, hw14⟩ : ∃ z, z = w13.alloc (.cells #[.string ⟨#[98]⟩, .string ⟨#[]⟩, .bool true, .string ⟨#[100]⟩, .string ⟨#[51]⟩, .bool false, .string ⟨#[101]⟩, .string ⟨#[52]⟩, .bool false] 61) := ⟨_, rfl⟩
      rw [← hw14] at hal hes ⊢
      have HAL := Lib.hid hal
      have HES := Lib.hid hes
      clear hw14 hal hes
      have HSE : Hid (∀ (u : World) (a : Option Addr) (n c : Nat), Below w14.heap.size w14 u → Es (fun _ => True) u a n c livE → Calls Try.prog 33 #[.slice a n c, .slice (some ⟨w13.heap.size, 0, none⟩) 3 3] u fun e W' => e = .returned (.bool true) ∧ Below u.heap.size u W') := Lib.hid (fun u a n c hu hp => by
        have h := sameE_any hp (HES.out.below hu)
        rw [decide_eq_true rfl] at h
        exact h)
      have HL0 : Hid (∀ u, Below w14.heap.size w14 u → Calls Try.prog 23 #[.pointer (some ⟨g0, 0, none⟩)] u fun e W' => e = .returned (.int .i64 0) ∧ u = W') := Lib.hid (fun u hu => len_any (((HT07.out.under HB713.out).under HAL.out).under hu).tr)
      have HLA : Hid (∀ u, Below w14.heap.size w14 u → Calls Try.prog 23 #[.pointer (some ⟨gA, 0, none⟩)] u fun e W' => e = .returned (.int .i64 2) ∧ u = W') := Lib.hid (fun u hu => by
        have h := len_any (((HTA7.out.under HB713.out).under HAL.out).under hu).tr
        rw [HLA2.out] at h
        exact h)
      go_wp2_with (first
        | (go_at_call 32; refine (HDF.out _ HAL.out).mono ?_; rintro e w15 ⟨a2, n2, c2, rfl, hp2, hb2⟩; have HP2 := Lib.hid hp2; have HB2 := Lib.hid hb2; clear hp2 hb2)
        | (go_at_call 33; refine (HSE.out _ _ _ _ HB2.out HP2.out).mono ?_; rintro e w16 ⟨rfl, hb16⟩; have HB16 := Lib.hid (HB2.out.trans (hb16.mono HB2.out.size)); clear hb16)
        | (go_at_call_has 23 (Value.pointer (some ⟨g0, 0, none⟩)); refine (HL0.out _ HB16.out).mono ?_; rintro e w17 ⟨rfl, rfl⟩)
        | (go_at_call_has 23 (Value.pointer (some ⟨gA, 0, none⟩)); refine (HLA.out _ HB16.out).mono ?_; rintro e w17 ⟨rfl, rfl⟩))
      go_ret
      exact ⟨rfl, HBW7.out.trans ((HB713.out.trans ((HAL.out.trans (HB16.out.mono HAL.out.size)).mono HB713.out.size)).mono HBW7.out.size)⟩
end Go.Proofs.Ytfgmhidgkemfoaa
namespace Go.Proofs.Ytfgmhidgkemfoaa
open Go.RowKit
set_option linter.unusedSimpArgs false
set_option linter.unusedVariables false
/-- a tree on the way -/
structure TrR where
  g : Nat
  t : Option BT
  H : Nat
def TrR.ptr (r : TrR) : Value := .pointer (some ⟨r.g, 0, none⟩)
structure KK (w wr : World) (ka kp : Option Nat) (va vp : Value) (As : List TrR) (Vs : List (Value × List KV)) (g : Nat) (t : Option BT) (H : Nat) (i : Nat) : Prop where
  ra : Row1 wr 24 ka va As.length (As.map TrR.ptr)
  rp : Row1 wr 26 kp vp Vs.length (Vs.map Prod.fst)
  fa : ∀ j, ka = some j → w.heap.size ≤ j
  fp : ∀ j, kp = some j → w.heap.size ≤ j
  aa : ∀ r ∈ As, TT wr r.g r.t r.H ∧ (treeL r.t).length ≤ 40
  pp : ∀ y ∈ Vs, PR wr y.1 y.2
  tr : TT wr g t H
  sm : i ≤ 40
  sz : (treeL t).length ≤ i
  bl : Below w.heap.size w wr
theorem neA : (24 : TypeId) ≠ 94 ∧ (24 : TypeId) ≠ 87 ∧ (24 : TypeId) ≠ 65 := by decide
theorem neP : (26 : TypeId) ≠ 94 ∧ (26 : TypeId) ≠ 87 ∧ (26 : TypeId) ≠ 65 := by decide
theorem neAP : (24 : TypeId) ≠ 26 := by decide
section
variable {w wr w' : World} {ka kp : Option Nat} {va vp : Value} {As : List TrR} {Vs : List (Value × List KV)} {g : Nat} {t : Option BT} {H : Nat} {i : Nat}
theorem KK.under (h : KK w wr ka kp va vp As Vs g t H i) (hb : Below wr.heap.size wr w') : KK w w' ka kp va vp As Vs g t H i := by
  have hk := Kept.of_below (fun _ => False) hb
  have hS : ∀ c, c < wr.heap.size → False → RowB wr c := fun _ _ h => h.elim
  exact ⟨h.ra.rows hk hS (fun _ _ h => h), h.rp.rows hk hS (fun _ _ h => h), h.fa, h.fp, fun r hr => ⟨(h.aa r hr).1.under hb, (h.aa r hr).2⟩, fun y hy => (h.pp y hy).rows hk hS, h.tr.under hb, h.sm, h.sz, h.bl.trans (hb.mono h.bl.size)⟩
theorem KK.pushA (h : KK w wr ka kp va vp As Vs g t H i) {ka' : Option Nat} {va' : Value} (ho : Own w' 24 1 ka' va' (As.length + 1) (As.map TrR.ptr ++ [.pointer (some ⟨g, 0, none⟩)])) (hf : ∀ j, ka' = some j → ka = some j ∨ wr.heap.size ≤ j) (hk : Kept (fun j => ka = some j) wr w') (hP : ∀ PP : Value → Prop, PP (.pointer none) → (∀ u ∈ [Value.pointer (some ⟨g, 0, none⟩)], PP u) → AllC wr ka PP → AllC w' ka' PP) : KK w w' ka' kp va' vp (As ++ [⟨g, t, H⟩]) Vs g t H i := by
  have hS : ∀ c, c < wr.heap.size → ka = some c → RowB wr c := fun c _ hc => h.ra.rowB neA c hc
  have htr := h.tr.rows hk hS
  refine ⟨⟨?_, ?_⟩, h.rp.rows hk hS (fun j hj => fun e => h.ra.apart h.rp neAP j e hj), fun j hj => ?_, h.fp, fun r hr => ?_, fun y hy => (h.pp y hy).rows hk hS, htr, h.sm, h.sz, h.bl.trans (hk.below h.bl.size (fun j hj e => by have := h.fa j e; omega))⟩
  · rw [List.length_append, List.map_append]
    exact ho
  · refine hP _ (.inr (.inl rfl)) (fun u hu => ?_) (h.ra.al.mono (fun v hv => hv.rows hk hS))
    obtain ⟨v, h1, -⟩ := htr.tr
    exact .inr (.inr ⟨g, _, List.mem_singleton.1 hu, h1⟩)
  · rcases hf j hj with e | e
    · exact h.fa j e
    · exact Nat.le_trans h.bl.size e
  · rcases List.mem_append.1 hr with h1 | h1
    · exact ⟨(h.aa r h1).1.rows hk hS, (h.aa r h1).2⟩
    · rw [List.mem_singleton.1 h1]
      exact ⟨htr, Nat.le_trans h.sz h.sm⟩
theorem KK.pushP (h : KK w wr ka kp va vp As Vs g t H i) {v : Value} {L : List KV} (hv : PR wr v L) {kp' : Option Nat} {vp' : Value} (ho : Own w' 26 1 kp' vp' (Vs.length + 1) (Vs.map Prod.fst ++ [v])) (hf : ∀ j, kp' = some j → kp = some j ∨ wr.heap.size ≤ j) (hk : Kept (fun j => kp = some j) wr w') (hP : ∀ PP : Value → Prop, PP (.slice none 0 0) → (∀ u ∈ [v], PP u) → AllC wr kp PP → AllC w' kp' PP) : KK w w' ka kp' va vp' As (Vs ++ [(v, L)]) g t H i := by
  have hS : ∀ c, c < wr.heap.size → kp = some c → RowB wr c := fun c _ hc => h.rp.rowB neP c hc
  refine ⟨h.ra.rows hk hS (fun j hj => h.ra.apart h.rp neAP j hj), ⟨?_, ?_⟩, h.fa, fun j hj => ?_, fun r hr => ⟨(h.aa r hr).1.rows hk hS, (h.aa r hr).2⟩, fun y hy => ?_, h.tr.rows hk hS, h.sm, h.sz, h.bl.trans (hk.below h.bl.size (fun j hj e => by have := h.fp j e; omega))⟩
  · rw [List.length_append, List.map_append]
    exact ho
  · refine hP _ (.inl ⟨_, _, _, rfl⟩) (fun u hu => ?_) (h.rp.al.mono (fun v hv => hv.rows hk hS))
    rw [List.mem_singleton.1 hu]
    rcases hv.2 with ⟨h1, -⟩ | ⟨g, cap, cur, h1, -⟩
    · exact .inl ⟨_, _, _, h1⟩
    · exact .inl ⟨_, _, _, h1⟩
  · rcases hf j hj with e | e
    · exact h.fp j e
    · exact Nat.le_trans h.bl.size e
  · rcases List.mem_append.1 hy with h1 | h1
    · exact (h.pp y h1).rows hk hS
    · rw [List.mem_singleton.1 h1]
      exact hv.rows hk hS
theorem KK.next (h : KK w wr ka kp va vp As Vs g t H i) (hi : i < 40) (hb : Below wr.heap.size wr w') {g' : Nat} {t' : Option BT} {H' : Nat} (ht : TT w' g' t' H') (hl : (treeL t').length ≤ i + 1) : KK w w' ka kp va vp As Vs g' t' H' (i + 1) := by
  have h1 := h.under hb
  exact ⟨h1.ra, h1.rp, h1.fa, h1.fp, h1.aa, h1.pp, ht, by omega, hl, h1.bl⟩
theorem KK.start (hb : Below w.heap.size w wr) (ht : TT wr g none 0) : KK w wr none none (.slice none 0 0) (.slice none 0 0) [] [] g none 0 0 :=
  ⟨⟨Own.nil _ _ _, AllC.none _ _⟩, ⟨Own.nil _ _ _, AllC.none _ _⟩, (fun _ h => by cases h), (fun _ h => by cases h), (fun _ h => by cases h), (fun _ h => by cases h), ht, Nat.zero_le _, Nat.le_refl _, hb⟩
/-- the tree and the pairs of one step, in the second loop -/
theorem KK.at (h : KK w wr ka kp va vp As Vs g t H i) (he : As.map (fun r => treeL r.t) = Vs.map Prod.snd) (j : Nat) (hj : j < As.length) (hj2 : j < Vs.length) (hb : Below wr.heap.size wr w') :
    (∃ a c b off, va = .slice a As.length c ∧ As.length ≤ c ∧ c ≤ maxLen ∧ b < w'.heap.size ∧ a = some ⟨b, off, none⟩ ∧ w'.cell? ⟨b, off + j, none⟩ = some (.pointer (some ⟨As[j].g, 0, none⟩))) ∧
    (∃ a c b off, vp = .slice a Vs.length c ∧ Vs.length ≤ c ∧ c ≤ maxLen ∧ b < w'.heap.size ∧ a = some ⟨b, off, none⟩ ∧ w'.cell? ⟨b, off + j, none⟩ = some Vs[j].1) ∧
    TT w' As[j].g As[j].t As[j].H ∧ (treeL As[j].t).length ≤ 40 ∧ ∃ a c, Vs[j].1 = .slice a (treeL As[j].t).length c ∧ Ps (fun _ => True) w' a (treeL As[j].t).length c (treeL As[j].t) := by
  have h1 := h.under hb
  have hL : Vs[j].2 = treeL As[j].t := by
    have h2 : (As.map fun r => treeL r.t)[j]'(by simpa using hj) = treeL As[j].t := List.getElem_map ..
    have h3 : (Vs.map Prod.snd)[j]'(by simpa using hj2) = Vs[j].2 := List.getElem_map ..
    rw [← h2, ← h3]
    congr 1
    exact he.symm
  refine ⟨?_, ?_, (h1.aa _ (List.getElem_mem hj)).1, (h1.aa _ (List.getElem_mem hj)).2, ?_⟩
  · obtain ⟨a, c, hv, q1, q2, q3, -, q5⟩ := h1.ra.ow.sl
    obtain ⟨b, off, -, ha, hr⟩ := q5 (by omega)
    refine ⟨a, c, b, off, hv, q2, q3, range_lt hr (by rw [List.length_map]; omega), ha, hr j _ ?_⟩
    rw [List.getElem?_map, List.getElem?_eq_getElem hj]
    rfl
  · obtain ⟨a, c, hv, q1, q2, q3, -, q5⟩ := h1.rp.ow.sl
    obtain ⟨b, off, -, ha, hr⟩ := q5 (by omega)
    refine ⟨a, c, b, off, hv, q2, q3, range_lt hr (by rw [List.length_map]; omega), ha, hr j _ ?_⟩
    rw [List.getElem?_map, List.getElem?_eq_getElem hj2]
    rfl
  · have h4 := h1.pp _ (List.getElem_mem hj2)
    rw [hL] at h4
    obtain ⟨a, n, c, e1, e2⟩ := Ps.row h4
    obtain rfl : _ = n := e2.1
    exact ⟨a, c, e1, e2.dom (fun _ _ => trivial)⟩
theorem KK.at2 (h : KK w wr ka kp va vp As Vs g t H i) (he : As.map (fun r => treeL r.t) = Vs.map Prod.snd) {n : Nat} (hA : As.length = n) (hV : Vs.length = n) (j : Nat) (hj : j < n) (hb : Below wr.heap.size wr w') :
    ∃ gj tj Hj ba ofa bp ofp ca cp sa sl sc, va = .slice (some ⟨ba, ofa, none⟩) n ca ∧ vp = .slice (some ⟨bp, ofp, none⟩) n cp ∧ (ba < w'.heap.size ∧ w'.cell? ⟨ba, ofa + j, none⟩ = some (.pointer (some ⟨gj, 0, none⟩))) ∧ (bp < w'.heap.size ∧ w'.cell? ⟨bp, ofp + j, none⟩ = some (.slice sa sl sc)) ∧ TT w' gj tj Hj ∧ (sl = (treeL tj).length ∧ sl ≤ 40) ∧ Ps (fun _ => True) w' sa sl sc (treeL tj) := by
  obtain ⟨⟨a, c, b, off, e1, -, -, e4, rfl, e6⟩, ⟨a2, c2, b2, off2, f1, -, -, f4, rfl, f6⟩, h1, h2, sa, sc, h3, h4⟩ := h.at he j (by omega) (by omega) hb
  rw [hA] at e1
  rw [hV] at f1
  rw [h3] at f6
  exact ⟨_, _, _, b, off, b2, off2, c, c2, sa, _, sc, e1, f1, ⟨e4, e6⟩, ⟨f4, f6⟩, h1, ⟨rfl, h2⟩, h4⟩
end
end Go.Proofs.Ytfgmhidgkemfoaa
namespace Go.Proofs.Ytfgmhidgkemfoaa
open Go.RowKit
set_option linter.unusedSimpArgs false
set_option linter.unusedVariables false
attribute [local go_sem ↓] exec_loadOp exec_at_zeroP exec_at_succP Go.wp_at_zero Go.wp_at_succ
attribute [local go_sem] run_boxOp
def Dkp15 : List (Option Tmp) := [some 42, some 43, some 44, some 45, some 46, some 47, some 48, some 49, some 50, some 51, some 52, some 53, some 54, some 55, some 56, some 57, some 58, some 59, some 60, some 61, some 62, some 63, some 64, some 65]
def Lkp15 : List (List Nat) := [[], [], [0, 1], [2], [3], [], [], [5, 6], [7], [4, 8], [9], [10], [11], [11], [12, 13, 11], [14, 11], [15, 11], [11], [11], [17, 18, 11], [19, 11], [20, 11], [16, 21, 11], [11, 22]]
theorem ka_info : (Try.prog.info? 24).map (fun i => (i.zero, i.size, i.bytes)) = some (some (.pointer none), 1, 8) := by kernel_rfl
theorem kp_info : (Try.prog.info? 26).map (fun i => (i.zero, i.size, i.bytes)) = some (some (.slice none 0 0), 1, 24) := by kernel_rfl
set_option maxRecDepth 100000 in
set_option maxHeartbeats 1000000 in
theorem treekeeps_any {D : Nat → Prop} {w : World} {a : Option Addr} {n c : Nat} {ms : List OpM} (h : Ops D w a n c ms) :
    Calls Try.prog 6 #[.slice a n c] w fun e w' => e = .returned (.bool true) ∧ Below w.heap.size w w' := by
  obtain ⟨ia, iaf, az0, az1, az2⟩ := info_parts ka_info
  obtain ⟨ip, ipf, pz0, pz1, pz2⟩ := info_parts kp_info
  have HO := Lib.hid h
  have HL := Lib.hid h.1
  have HCH : Hid (∀ (u : World) (g : Nat) (t : Option BT) (H : Nat) (m : OpM), TT u g t H → (treeL t).length ≤ 100000 → OpOk m → Calls Try.prog 13 #[.pointer (some ⟨g, 0, none⟩), m.agg, .int .i64 25] u (ChgT u t H m 25)) := Lib.hid (fun u g t H m ht hl hm => change_any ht hl m hm 25 (by omega) (by omega))
  have HRG : Hid (∀ (u : World) (g : Nat) (t : Option BT) (H : Nat), TT u g t H → (treeL t).length ≤ 40 → Calls Try.prog 29 #[.pointer (some ⟨g, 0, none⟩), .string emptyS, .string emptyS] u fun e w' => ∃ a n c, e = .returned (.slice a n c) ∧ PR w' (.slice a n c) (treeL t) ∧ Below u.heap.size u w') := Lib.hid (fun u g t H ht hl => (range_any ht emptyS emptyS (by omega)).mono (by
    rintro e w' ⟨v, rfl, h1, h2⟩
    rw [rngL_emp] at h1
    obtain ⟨a, n, c, rfl, -⟩ := Ps.row h1
    exact ⟨a, n, c, rfl, PR.of h1 rfl, h2⟩))
  have hc1 := h.2.1.2.1
  have hc2 : c ≤ 9223372036854775807 := h.2.1.2.2.1
  clear h
  go_enter Try.func6, Try.ntmps6
  go_wp2_with (go_at_call 12; refine (new_any _).mono ?_; rintro e w1 ⟨g0, rfl, ht0, hg0, hb0⟩; have HK0 := Lib.hid (KK.start hb0 ht0); clear ht0 hb0 hg0)
  go_loopw [3, 4, 5, 6] (fun u va vp x wr => ∃ (i g H : Nat) (t : Option BT) (ka kp : Option Nat) (As : List TrR) (Vs : List (Value × List KV)), u = .pointer (some ⟨g, 0, none⟩) ∧ x = .int .i64 (i : Int) ∧ i ≤ n ∧ As.length = i ∧ Vs.length = i ∧ As.map (fun r => treeL r.t) = Vs.map Prod.snd ∧ KK w wr ka kp va vp As Vs g t H i) (fun _ _ _ x _ => n - (intOf x).toNat)
  case atStart => exact ⟨0, g0, 0, none, none, none, [], [], rfl, rfl, Nat.zero_le _, rfl, rfl, rfl, HK0.out⟩
  case round =>
    obtain ⟨i, g, H, t, ka, kp, As, Vs, rfl, rfl, hi, hAl, hVl, hEq, hKK⟩ := hrel
    have HKI := Lib.hid hKK
    have HAL := Lib.hid hAl
    have HVL := Lib.hid hVl
    have HEQ := Lib.hid hEq
    clear hKK HK0 hAl hVl hEq
    by_cases hgo : i < n ∧ i < 40
    · obtain ⟨hlt, h40⟩ := hgo
      have hlt2 : (i : Int) < (n : Int) := by omega
      have h402 : (i : Int) < 40 := by omega
      have hil : i < ms.length := by rw [HL.out]; exact hlt
      obtain ⟨b, off, -, hbs, rfl, hcell⟩ := HO.out.at (by omega)
      have hr := hcell i hil
      obtain ⟨o, ho⟩ : ∃ o, o = ms[i]'hil := ⟨_, rfl⟩
      have HOK : Hid (OpOk o) := Lib.hid (by rw [ho]; exact HO.out.2.2 _ (List.getElem_mem hil))
      rw [← ho] at hr
      obtain ⟨ob, hob⟩ : ∃ ob, ob = off + i * 3 := ⟨_, rfl⟩
      rw [← hob] at hr
      have hob2 : off + i * 3 = ob := hob.symm
      have HR := Lib.hid hr
      have HSZ : Hid ((treeL t).length ≤ 40) := Lib.hid (Nat.le_trans HKI.out.sz HKI.out.sm)
      have HLTi := Lib.hid hlt
      have H40 := Lib.hid h40
      have hwi : IntKind.i64.wrap ((i : Int) + 1) = (i : Int) + 1 := i64_id _ (by omega) (by omega)
      clear hcell hr ho hob hlt hil hbs h40
      go_upto_region 9 with fail
      go_upto_region 10 with (at_builtin; go_loud (refine wpList_append_all _ rfl (.tmp 21) (.tmp 23) 49 49 rfl 24 ia (.pointer none) 8 Try.underlying49 iaf az0 az1 az2 rfl ka _ As.length (As.map TrR.ptr) rfl ((HKI.out.under ((Below.refl _ wr).alloc (Nat.le_refl _) _)).ra.ow) 1 [.pointer (some ⟨g, 0, none⟩)] (Src.ofSlice _ Try.underlying49 ⟨wr.heap.size, 0, none⟩ 1 1 _ rfl ?c1 ?c2) (by unfold maxLen; have := HAL.out; have := H40.out; omega) (by have := HAL.out; have := H40.out; omega) ?_))
      case c1 => intro j u hj; match j, hj with | 0, hj => simp at hj; subst hj; simp [Addr.add]
      case c2 => intro u hu; simp at hu; subst hu; rfl
      intro ka' va' w2 ho2 hf2 hK2 hP2
      have HK2 := Lib.hid ((HKI.out.under ((Below.refl _ wr).alloc (Nat.le_refl _) (.cells #[.pointer (some ⟨g, 0, none⟩)] 24))).pushA ho2 (fun j hj => (hf2 j hj).imp id (fun e => by rw [World.size_alloc]; exact e)) hK2 (fun PP z h A => hP2 PP z (h _ (List.mem_singleton.2 rfl)) A))
      clear ho2 hf2 hK2 hP2 HKI
      go_upto_region 11 with (first
        | (go_at_call 29; refine (HRG.out _ _ _ _ HK2.out.tr HSZ.out).mono ?_; rintro e w3 ⟨a3, n3, c3, rfl, hpr, hb3⟩; have HPR := Lib.hid hpr; have HK3 := Lib.hid (HK2.out.under hb3); clear hpr hb3)
        | (at_builtin; go_loud (refine wpList_append_all _ rfl (.tmp 25) (.tmp 28) 50 50 rfl 26 ip (.slice none 0 0) 24 Try.underlying50 ipf pz0 pz1 pz2 rfl kp _ Vs.length (Vs.map Prod.fst) rfl ((HK3.out.under ((Below.refl _ w3).alloc (Nat.le_refl _) _)).rp.ow) 1 [.slice a3 n3 c3] (Src.ofSlice _ Try.underlying50 ⟨w3.heap.size, 0, none⟩ 1 1 _ rfl ?c1 ?c2) (by unfold maxLen; have := HVL.out; have := H40.out; omega) (by have := HVL.out; have := H40.out; omega) ?_)))
      case c1 => intro j u hj; match j, hj with | 0, hj => simp at hj; subst hj; simp [Addr.add]
      case c2 => intro u hu; simp at hu; subst hu; rfl
      intro kp' vp' w4 ho4 hf4 hK4 hP4
      have HK4 := Lib.hid ((HK3.out.under ((Below.refl _ w3).alloc (Nat.le_refl _) (.cells #[.slice a3 n3 c3] 26))).pushP (HPR.out.rows (Kept.of_below (fun _ => False) ((Below.refl _ w3).alloc (Nat.le_refl _) (.cells #[.slice a3 n3 c3] 26))) (fun _ _ h => h.elim)) ho4 (fun j hj => (hf4 j hj).imp id (fun e => by rw [World.size_alloc]; exact e)) hK4 (fun PP z h A => hP4 PP z (h _ (List.mem_singleton.2 rfl)) A))
      clear ho4 hf4 hK4 hP4 HK3 HK2 HPR
      go_upto_region 11 with fail
      have hr4 := range_below HR.out (by rw [OpM.cells_len]; omega) HK4.out.bl
      have ldo := run_loadOp hr4
      clear hr4
      go_wp2_with (go_at_call 13; refine (HCH.out _ _ _ _ o HK4.out.tr (Nat.le_trans HSZ.out (by omega)) HOK.out).mono ?_; rintro e w5 ⟨g5, t5, H5, rfl, ht5, hl5, -, hb5⟩; have HK5 := Lib.hid (HK4.out.next H40.out hb5 ht5 (by rw [hl5]; exact Nat.le_trans (chL_len HK4.out.tr.so o 25) (Nat.succ_le_succ HK4.out.sz))); clear ht5 hl5 hb5)
      go_roundw
      case rel => exact ⟨i + 1, g5, H5, t5, ka', kp', As ++ [⟨g, t, H⟩], Vs ++ [(.slice a3 n3 c3, treeL t)], rfl, by go_num, by have := HLTi.out; omega, by rw [List.length_append, HAL.out]; rfl, by rw [List.length_append, HVL.out]; rfl, by rw [List.map_append, List.map_append, HEQ.out]; rfl, HK5.out⟩
      case measure => (try go_num); (try (simp only [intOf])); have := HLTi.out; omega
    · by_cases hlt : i < n
      · have hlt2 : (i : Int) < (n : Int) := by omega
        have h402 : ¬ (i : Int) < 40 := by omega
        have h403 : decide ((i : Int) < 40) = false := decide_eq_false h402
        have hc3 : (n : Int) ≤ (c : Int) := by omega
        clear hgo hi hlt
        obtain ⟨wX, hwX⟩ : ∃ z, z = wr := ⟨_, rfl⟩
        subst hwX
        obtain ⟨aa, ca, hva, hsa⟩ := HKI.out.ra.ow.sl
        obtain ⟨ap, cp, hvp, hsp⟩ := HKI.out.rp.ow.sl
        rw [HAL.out] at hva
        rw [HVL.out] at hvp
        subst hva
        subst hvp
        have hca : i ≤ ca := by have := hsa.2.1; have := HAL.out; omega
        have hca2 : ca ≤ 9223372036854775807 := hsa.2.2.1
        have hcp : i ≤ cp := by have := hsp.2.1; have := HVL.out; omega
        have hcp2 : cp ≤ 9223372036854775807 := hsp.2.2.1
        have HI40 : Hid (i ≤ 40) := Lib.hid HKI.out.sm
        clear hsa hsp HCH hc1 hc2
        go_upto_region 12 with fail
        clear hlt2 h402 h403 hc3
        go_wp2
        go_loopw [7] (fun x w2 => ∃ j : Nat, x = .int .i64 (j : Int) ∧ j ≤ i ∧ Below wX.heap.size wX w2) (fun x _ => i - (intOf x).toNat)
        case atStart => exact ⟨0, rfl, Nat.zero_le _, Below.refl _ _⟩
        case round =>
          obtain ⟨j, rfl, hj, hb⟩ := hrel
          obtain ⟨q, hq⟩ : ∃ z, z = wr := ⟨_, rfl⟩
          subst hq
          have HB := Lib.hid hb
          clear hb
          by_cases hjl : j < i
          · have hlt2 : (j : Int) < (i : Int) := by omega
            obtain ⟨gj, tj, Hj, ba, ofa, bp, ofp, ca', cp', sa, sl, sc, e1, e2, hba, hbp, htj, hsl, hps⟩ := HKI.out.at2 HEQ.out HAL.out HVL.out j hjl HB.out
            simp only [Value.slice.injEq] at e1 e2
            obtain ⟨rfl, -, rfl⟩ := e1
            obtain ⟨rfl, -, rfl⟩ := e2
            have HBA := Lib.hid hba
            have HBP := Lib.hid hbp
            have HCA : Hid ((i : Int) ≤ (ca : Int)) := Lib.hid (by omega)
            have HCP : Hid ((i : Int) ≤ (cp : Int)) := Lib.hid (by omega)
            have HJ := Lib.hid hlt2
            have HSC : Hid (sl ≤ sc) := Lib.hid hps.2.2.1
            have HRNG : Hid (∀ p, Below q.heap.size q p → Calls Try.prog 29 #[.pointer (some ⟨gj, 0, none⟩), .string emptyS, .string emptyS] p fun e w' => ∃ a n c, e = .returned (.slice a n c) ∧ PR w' (.slice a n c) (treeL tj) ∧ Below p.heap.size p w') := Lib.hid (fun p hp => HRG.out p gj tj Hj (htj.under hp) (by have := hsl.2; omega))
            have HSAME : Hid (∀ p a' n' c', Below q.heap.size q p → Ps (fun _ => True) p a' n' c' (treeL tj) → Calls Try.prog 30 #[.slice a' n' c', .slice sa sl sc] p fun e w' => e = .returned (.bool true) ∧ Below p.heap.size p w') := Lib.hid (fun p a' n' c' hp h2 => by
              have h3 := same_any h2 (hps.below hp)
              rw [decide_eq_true rfl] at h3
              exact h3)
            have HLEN : Hid (∀ p, Below q.heap.size q p → Calls Try.prog 23 #[.pointer (some ⟨gj, 0, none⟩)] p fun e w' => e = .returned (.int .i64 (sl : Int)) ∧ p = w') := Lib.hid (fun p hp => by
              rw [hsl.1]
              exact len_any (htj.under hp).tr)
            have hwi : IntKind.i64.wrap ((j : Int) + 1) = (j : Int) + 1 := i64_id _ (by omega) (by have := HI40.out; omega)
            clear hba hbp htj hsl hps hjl HRG
            go_upto_region 15 with fail
            refine Roll.region_f 24 67 Dkp15 Lkp15 [(4, .slice (some ⟨ba, ofa, none⟩) i ca), (5, .slice (some ⟨bp, ofp, none⟩) i cp), (7, .int .i64 (j : Int))] (fun p => Below q.heap.size q p) (fun p p2 => Below p.heap.size p p2) [fun vv p => vv = .slice (some ⟨ba, ofa, none⟩) i ca, fun vv p => vv = .int .i64 (j : Int), fun vv p => vv = .pointer (some ⟨ba, ofa + j, none⟩), fun vv p => vv = .pointer (some ⟨gj, 0, none⟩), fun vv p => PR p vv (treeL tj), fun vv p => vv = .slice (some ⟨bp, ofp, none⟩) i cp, fun vv p => vv = .int .i64 (j : Int), fun vv p => vv = .pointer (some ⟨bp, ofp + j, none⟩), fun vv p => vv = .slice sa sl sc, fun vv p => vv = .bool true, fun vv p => vv = .bool false, fun vv p => vv = .bool false, fun vv p => vv = .slice (some ⟨ba, ofa, none⟩) i ca, fun vv p => vv = .int .i64 (j : Int), fun vv p => vv = .pointer (some ⟨ba, ofa + j, none⟩), fun vv p => vv = .pointer (some ⟨gj, 0, none⟩), fun vv p => vv = .int .i64 (sl : Int), fun vv p => vv = .slice (some ⟨bp, ofp, none⟩) i cp, fun vv p => vv = .int .i64 (j : Int), fun vv p => vv = .pointer (some ⟨bp, ofp + j, none⟩), fun vv p => vv = .slice sa sl sc, fun vv p => vv = .int .i64 (sl : Int), fun vv p => vv = .bool false, fun vv p => vv = .bool false] (by kernel_rfl) (by kernel_rfl) rfl ⟨rfl, rfl, rfl, trivial⟩ ((Below.refl _ _).drew) ?_ ?_ ?_
            · exact ⟨fun _ _ _ _ h => h, fun _ _ _ _ h => h, fun _ _ _ _ h => h, fun _ _ _ _ h => h, fun _ _ _ hs h => h.rows (Kept.of_below (fun _ => False) hs) (fun _ _ h => h.elim), fun _ _ _ _ h => h, fun _ _ _ _ h => h, fun _ _ _ _ h => h, fun _ _ _ _ h => h, fun _ _ _ _ h => h, fun _ _ _ _ h => h, fun _ _ _ _ h => h, fun _ _ _ _ h => h, fun _ _ _ _ h => h, fun _ _ _ _ h => h, fun _ _ _ _ h => h, fun _ _ _ _ h => h, fun _ _ _ _ h => h, fun _ _ _ _ h => h, fun _ _ _ _ h => h, fun _ _ _ _ h => h, fun _ _ _ _ h => h, fun _ _ _ _ h => h, fun _ _ _ _ h => h, trivial⟩
            · intro b0 hN hlv
              refine ⟨?_, ?_, ?_, ?_, ?_, ?_, ?_, ?_, ?_, ?_, ?_, ?_, ?_, ?_, ?_, ?_, ?_, ?_, ?_, ?_, ?_, ?_, ?_, ?_, trivial⟩
              · intro vs p hI hp
                have e4 : (Roll.putD Dkp15 vs [] b0).eval (.tmp 4) = .slice (some ⟨ba, ofa, none⟩) i ca := (Roll.eval_old rfl).trans (hlv.at 0 (4, .slice (some ⟨ba, ofa, none⟩) i ca) rfl)
                clear hp hlv hN
                unfold Roll.Goes
                simp only [Lkp15, List.getD_cons_zero, List.getD_cons_succ]
                generalize Roll.putD Dkp15 vs [] b0 = a1 at *
                refine Roll.goes_val (w' := p) (.slice (some ⟨ba, ofa, none⟩) i ca) rfl ?_ ⟨hI, Below.refl _ _, rfl⟩
                (have ec : ∀ x, a1.eval (.const x) = x := fun _ => rfl); (have ef : ∀ x, a1.eval (.func x) = .func (.func x) #[] #[] := fun _ => rfl); generalize a1.eval = ρ at *
                skip
                go_simp <;> (intros; first | (exfalso; omega) | rfl | omega)
              · intro vs p hI hp
                have e7 : (Roll.putD Dkp15 vs [] b0).eval (.tmp 7) = .int .i64 (j : Int) := (Roll.eval_old rfl).trans (hlv.at 2 (7, .int .i64 (j : Int)) rfl)
                clear hp hlv hN
                unfold Roll.Goes
                simp only [Lkp15, List.getD_cons_zero, List.getD_cons_succ]
                generalize Roll.putD Dkp15 vs [] b0 = a1 at *
                refine Roll.goes_val (w' := p) (.int .i64 (j : Int)) rfl ?_ ⟨hI, Below.refl _ _, rfl⟩
                (have ec : ∀ x, a1.eval (.const x) = x := fun _ => rfl); (have ef : ∀ x, a1.eval (.func x) = .func (.func x) #[] #[] := fun _ => rfl); generalize a1.eval = ρ at *
                skip
                go_simp <;> (intros; first | (exfalso; omega) | rfl | omega)
              · intro vs p hI hp
                have h0 : (vs 0) = .slice (some ⟨ba, ofa, none⟩) i ca := hp 0 (by simp [Lkp15])
                have h1 : (vs 1) = .int .i64 (j : Int) := hp 1 (by simp [Lkp15])
                have e42 : (Roll.putD Dkp15 vs [0, 1] b0).eval (.tmp 42) = .slice (some ⟨ba, ofa, none⟩) i ca := (Roll.eval_new 0 rfl (by decide) (by decide) (by omega)).trans h0
                have e43 : (Roll.putD Dkp15 vs [0, 1] b0).eval (.tmp 43) = .int .i64 (j : Int) := (Roll.eval_new 1 rfl (by decide) (by decide) (by omega)).trans h1
                clear hp hlv hN
                unfold Roll.Goes
                simp only [Lkp15, List.getD_cons_zero, List.getD_cons_succ]
                generalize Roll.putD Dkp15 vs [0, 1] b0 = a1 at *
                have f1 := HJ.out
                have f2 := HCA.out
                have f3 := HCP.out
                have f4 := HI40.out
                refine Roll.goes_val (w' := p) (.pointer (some ⟨ba, ofa + j, none⟩)) rfl ?_ ⟨hI, Below.refl _ _, rfl⟩
                (have ec : ∀ x, a1.eval (.const x) = x := fun _ => rfl); (have ef : ∀ x, a1.eval (.func x) = .func (.func x) #[] #[] := fun _ => rfl); generalize a1.eval = ρ at *
                clear h0 h1
                go_simp <;> (intros; first | (exfalso; omega) | rfl | omega)
              · intro vs p hI hp
                have h2 : (vs 2) = .pointer (some ⟨ba, ofa + j, none⟩) := hp 2 (by simp [Lkp15])
                have e44 : (Roll.putD Dkp15 vs [2] b0).eval (.tmp 44) = .pointer (some ⟨ba, ofa + j, none⟩) := (Roll.eval_new 2 rfl (by decide) (by decide) (by omega)).trans h2
                clear hp hlv hN
                unfold Roll.Goes
                simp only [Lkp15, List.getD_cons_zero, List.getD_cons_succ]
                generalize Roll.putD Dkp15 vs [2] b0 = a1 at *
                have cf : p.cell? ⟨ba, ofa + j, none⟩ = some (.pointer (some ⟨gj, 0, none⟩)) := (hI.cell (p := ⟨ba, ofa + j, none⟩) HBA.out.1).trans HBA.out.2
                refine Roll.goes_val (w' := p) (.pointer (some ⟨gj, 0, none⟩)) rfl ?_ ⟨hI, Below.refl _ _, rfl⟩
                (have ec : ∀ x, a1.eval (.const x) = x := fun _ => rfl); (have ef : ∀ x, a1.eval (.func x) = .func (.func x) #[] #[] := fun _ => rfl); generalize a1.eval = ρ at *
                clear h2
                go_simp <;> (intros; first | (exfalso; omega) | rfl | omega)
              · intro vs p hI hp
                have h3 : (vs 3) = .pointer (some ⟨gj, 0, none⟩) := hp 3 (by simp [Lkp15])
                have e45 : (Roll.putD Dkp15 vs [3] b0).eval (.tmp 45) = .pointer (some ⟨gj, 0, none⟩) := (Roll.eval_new 3 rfl (by decide) (by decide) (by omega)).trans h3
                clear hp hlv hN
                unfold Roll.Goes
                simp only [Lkp15, List.getD_cons_zero, List.getD_cons_succ]
                generalize Roll.putD Dkp15 vs [3] b0 = a1 at *
                refine Roll.goes_call 29 #[.pointer (some ⟨gj, 0, none⟩), .string ⟨#[]⟩, .string ⟨#[]⟩] p rfl (by have ec : ∀ x, a1.eval (.const x) = x := fun _ => rfl; have ef : ∀ x, a1.eval (.func x) = .func (.func x) #[] #[] := fun _ => rfl; generalize a1.eval = ρ at *; go_simp) ?_
                refine (HRNG.out p hI).mono ?_
                rintro y p2 ⟨a', n', c', rfl, hv, hb2⟩
                exact ⟨_, rfl, hI.trans (hb2.mono hI.size), hb2, hv⟩
              · intro vs p hI hp
                have e5 : (Roll.putD Dkp15 vs [] b0).eval (.tmp 5) = .slice (some ⟨bp, ofp, none⟩) i cp := (Roll.eval_old rfl).trans (hlv.at 1 (5, .slice (some ⟨bp, ofp, none⟩) i cp) rfl)
                clear hp hlv hN
                unfold Roll.Goes
                simp only [Lkp15, List.getD_cons_zero, List.getD_cons_succ]
                generalize Roll.putD Dkp15 vs [] b0 = a1 at *
                refine Roll.goes_val (w' := p) (.slice (some ⟨bp, ofp, none⟩) i cp) rfl ?_ ⟨hI, Below.refl _ _, rfl⟩
                (have ec : ∀ x, a1.eval (.const x) = x := fun _ => rfl); (have ef : ∀ x, a1.eval (.func x) = .func (.func x) #[] #[] := fun _ => rfl); generalize a1.eval = ρ at *
                skip
                go_simp <;> (intros; first | (exfalso; omega) | rfl | omega)
              · intro vs p hI hp
                have e7 : (Roll.putD Dkp15 vs [] b0).eval (.tmp 7) = .int .i64 (j : Int) := (Roll.eval_old rfl).trans (hlv.at 2 (7, .int .i64 (j : Int)) rfl)
                clear hp hlv hN
                unfold Roll.Goes
                simp only [Lkp15, List.getD_cons_zero, List.getD_cons_succ]
                generalize Roll.putD Dkp15 vs [] b0 = a1 at *
                refine Roll.goes_val (w' := p) (.int .i64 (j : Int)) rfl ?_ ⟨hI, Below.refl _ _, rfl⟩
                (have ec : ∀ x, a1.eval (.const x) = x := fun _ => rfl); (have ef : ∀ x, a1.eval (.func x) = .func (.func x) #[] #[] := fun _ => rfl); generalize a1.eval = ρ at *
                skip
                go_simp <;> (intros; first | (exfalso; omega) | rfl | omega)
              · intro vs p hI hp
                have h5 : (vs 5) = .slice (some ⟨bp, ofp, none⟩) i cp := hp 5 (by simp [Lkp15])
                have h6 : (vs 6) = .int .i64 (j : Int) := hp 6 (by simp [Lkp15])
                have e47 : (Roll.putD Dkp15 vs [5, 6] b0).eval (.tmp 47) = .slice (some ⟨bp, ofp, none⟩) i cp := (Roll.eval_new 5 rfl (by decide) (by decide) (by omega)).trans h5
                have e48 : (Roll.putD Dkp15 vs [5, 6] b0).eval (.tmp 48) = .int .i64 (j : Int) := (Roll.eval_new 6 rfl (by decide) (by decide) (by omega)).trans h6
                clear hp hlv hN
                unfold Roll.Goes
                simp only [Lkp15, List.getD_cons_zero, List.getD_cons_succ]
                generalize Roll.putD Dkp15 vs [5, 6] b0 = a1 at *
                have f1 := HJ.out
                have f2 := HCA.out
                have f3 := HCP.out
                have f4 := HI40.out
                refine Roll.goes_val (w' := p) (.pointer (some ⟨bp, ofp + j, none⟩)) rfl ?_ ⟨hI, Below.refl _ _, rfl⟩
                (have ec : ∀ x, a1.eval (.const x) = x := fun _ => rfl); (have ef : ∀ x, a1.eval (.func x) = .func (.func x) #[] #[] := fun _ => rfl); generalize a1.eval = ρ at *
                clear h5 h6
                go_simp <;> (intros; first | (exfalso; omega) | rfl | omega)
              · intro vs p hI hp
                have h7 : (vs 7) = .pointer (some ⟨bp, ofp + j, none⟩) := hp 7 (by simp [Lkp15])
                have e49 : (Roll.putD Dkp15 vs [7] b0).eval (.tmp 49) = .pointer (some ⟨bp, ofp + j, none⟩) := (Roll.eval_new 7 rfl (by decide) (by decide) (by omega)).trans h7
                clear hp hlv hN
                unfold Roll.Goes
                simp only [Lkp15, List.getD_cons_zero, List.getD_cons_succ]
                generalize Roll.putD Dkp15 vs [7] b0 = a1 at *
                have cf : p.cell? ⟨bp, ofp + j, none⟩ = some (.slice sa sl sc) := (hI.cell (p := ⟨bp, ofp + j, none⟩) HBP.out.1).trans HBP.out.2
                refine Roll.goes_val (w' := p) (.slice sa sl sc) rfl ?_ ⟨hI, Below.refl _ _, rfl⟩
                (have ec : ∀ x, a1.eval (.const x) = x := fun _ => rfl); (have ef : ∀ x, a1.eval (.func x) = .func (.func x) #[] #[] := fun _ => rfl); generalize a1.eval = ρ at *
                clear h7
                go_simp <;> (intros; first | (exfalso; omega) | rfl | omega)
              · intro vs p hI hp
                have h4 : PR p (vs 4) (treeL tj) := hp 4 (by simp [Lkp15])
                have h8 : (vs 8) = .slice sa sl sc := hp 8 (by simp [Lkp15])
                have e46 : (Roll.putD Dkp15 vs [4, 8] b0).eval (.tmp 46) = vs 4 := (Roll.eval_new 4 rfl (by decide) (by decide) (by omega))
                have e50 : (Roll.putD Dkp15 vs [4, 8] b0).eval (.tmp 50) = .slice sa sl sc := (Roll.eval_new 8 rfl (by decide) (by decide) (by omega)).trans h8
                clear hp hlv hN
                unfold Roll.Goes
                simp only [Lkp15, List.getD_cons_zero, List.getD_cons_succ]
                generalize Roll.putD Dkp15 vs [4, 8] b0 = a1 at *
                obtain ⟨a', n', c', hv4, hp4⟩ := Ps.row h4
                rw [hv4] at e46
                refine Roll.goes_call 30 #[.slice a' n' c', .slice sa sl sc] p rfl (by have ec : ∀ x, a1.eval (.const x) = x := fun _ => rfl; have ef : ∀ x, a1.eval (.func x) = .func (.func x) #[] #[] := fun _ => rfl; generalize a1.eval = ρ at *; go_simp) ?_
                refine (HSAME.out p a' n' c' hI (hp4.dom (fun _ _ => trivial))).mono ?_
                rintro y p2 ⟨rfl, hb2⟩
                exact ⟨_, rfl, hI.trans (hb2.mono hI.size), hb2, rfl⟩
              · intro vs p hI hp
                have h9 : (vs 9) = .bool true := hp 9 (by simp [Lkp15])
                have e51 : (Roll.putD Dkp15 vs [9] b0).eval (.tmp 51) = .bool true := (Roll.eval_new 9 rfl (by decide) (by decide) (by omega)).trans h9
                clear hp hlv hN
                unfold Roll.Goes
                simp only [Lkp15, List.getD_cons_zero, List.getD_cons_succ]
                generalize Roll.putD Dkp15 vs [9] b0 = a1 at *
                refine Roll.goes_val (w' := p) (.bool false) rfl ?_ ⟨hI, Below.refl _ _, rfl⟩
                (have ec : ∀ x, a1.eval (.const x) = x := fun _ => rfl); (have ef : ∀ x, a1.eval (.func x) = .func (.func x) #[] #[] := fun _ => rfl); generalize a1.eval = ρ at *
                clear h9
                go_simp <;> (intros; first | (exfalso; omega) | rfl | omega)
              · intro vs p hI hp
                have h10 : (vs 10) = .bool false := hp 10 (by simp [Lkp15])
                have e52 : (Roll.putD Dkp15 vs [10] b0).eval (.tmp 52) = .bool false := (Roll.eval_new 10 rfl (by decide) (by decide) (by omega)).trans h10
                clear hp hlv hN
                unfold Roll.Goes
                simp only [Lkp15, List.getD_cons_zero, List.getD_cons_succ]
                generalize Roll.putD Dkp15 vs [10] b0 = a1 at *
                refine Roll.goes_val (w' := p) (.bool false) rfl ?_ ⟨hI, Below.refl _ _, rfl⟩
                (have ec : ∀ x, a1.eval (.const x) = x := fun _ => rfl); (have ef : ∀ x, a1.eval (.func x) = .func (.func x) #[] #[] := fun _ => rfl); generalize a1.eval = ρ at *
                clear h10
                go_simp <;> (intros; first | (exfalso; omega) | rfl | omega)
              · intro vs p hI hp
                have h11 : (vs 11) = .bool false := hp 11 (by simp [Lkp15])
                have e4 : (Roll.putD Dkp15 vs [11] b0).eval (.tmp 4) = .slice (some ⟨ba, ofa, none⟩) i ca := (Roll.eval_old rfl).trans (hlv.at 0 (4, .slice (some ⟨ba, ofa, none⟩) i ca) rfl)
                clear hp hlv hN
                refine ⟨fun hg => ?_, fun hg => absurd h11 hg⟩
                clear hg
                unfold Roll.Goes
                simp only [Lkp15, List.getD_cons_zero, List.getD_cons_succ]
                generalize Roll.putD Dkp15 vs [11] b0 = a1 at *
                refine Roll.goes_val (w' := p) (.slice (some ⟨ba, ofa, none⟩) i ca) rfl ?_ ⟨hI, Below.refl _ _, rfl⟩
                (have ec : ∀ x, a1.eval (.const x) = x := fun _ => rfl); (have ef : ∀ x, a1.eval (.func x) = .func (.func x) #[] #[] := fun _ => rfl); generalize a1.eval = ρ at *
                clear h11
                go_simp <;> (intros; first | (exfalso; omega) | rfl | omega)
              · intro vs p hI hp
                have h11 : (vs 11) = .bool false := hp 11 (by simp [Lkp15])
                have e7 : (Roll.putD Dkp15 vs [11] b0).eval (.tmp 7) = .int .i64 (j : Int) := (Roll.eval_old rfl).trans (hlv.at 2 (7, .int .i64 (j : Int)) rfl)
                clear hp hlv hN
                refine ⟨fun hg => ?_, fun hg => absurd h11 hg⟩
                clear hg
                unfold Roll.Goes
                simp only [Lkp15, List.getD_cons_zero, List.getD_cons_succ]
                generalize Roll.putD Dkp15 vs [11] b0 = a1 at *
                refine Roll.goes_val (w' := p) (.int .i64 (j : Int)) rfl ?_ ⟨hI, Below.refl _ _, rfl⟩
                (have ec : ∀ x, a1.eval (.const x) = x := fun _ => rfl); (have ef : ∀ x, a1.eval (.func x) = .func (.func x) #[] #[] := fun _ => rfl); generalize a1.eval = ρ at *
                clear h11
                go_simp <;> (intros; first | (exfalso; omega) | rfl | omega)
              · intro vs p hI hp
                have h12 : (vs 12) = .slice (some ⟨ba, ofa, none⟩) i ca := hp 12 (by simp [Lkp15])
                have h13 : (vs 13) = .int .i64 (j : Int) := hp 13 (by simp [Lkp15])
                have h11 : (vs 11) = .bool false := hp 11 (by simp [Lkp15])
                have e54 : (Roll.putD Dkp15 vs [12, 13, 11] b0).eval (.tmp 54) = .slice (some ⟨ba, ofa, none⟩) i ca := (Roll.eval_new 12 rfl (by decide) (by decide) (by omega)).trans h12
                have e55 : (Roll.putD Dkp15 vs [12, 13, 11] b0).eval (.tmp 55) = .int .i64 (j : Int) := (Roll.eval_new 13 rfl (by decide) (by decide) (by omega)).trans h13
                clear hp hlv hN
                refine ⟨fun hg => ?_, fun hg => absurd h11 hg⟩
                clear hg
                unfold Roll.Goes
                simp only [Lkp15, List.getD_cons_zero, List.getD_cons_succ]
                generalize Roll.putD Dkp15 vs [12, 13, 11] b0 = a1 at *
                have f1 := HJ.out
                have f2 := HCA.out
                have f3 := HCP.out
                have f4 := HI40.out
                refine Roll.goes_val (w' := p) (.pointer (some ⟨ba, ofa + j, none⟩)) rfl ?_ ⟨hI, Below.refl _ _, rfl⟩
                (have ec : ∀ x, a1.eval (.const x) = x := fun _ => rfl); (have ef : ∀ x, a1.eval (.func x) = .func (.func x) #[] #[] := fun _ => rfl); generalize a1.eval = ρ at *
                clear h12 h13 h11
                go_simp <;> (intros; first | (exfalso; omega) | rfl | omega)
              · intro vs p hI hp
                have h14 : (vs 14) = .pointer (some ⟨ba, ofa + j, none⟩) := hp 14 (by simp [Lkp15])
                have h11 : (vs 11) = .bool false := hp 11 (by simp [Lkp15])
                have e56 : (Roll.putD Dkp15 vs [14, 11] b0).eval (.tmp 56) = .pointer (some ⟨ba, ofa + j, none⟩) := (Roll.eval_new 14 rfl (by decide) (by decide) (by omega)).trans h14
                clear hp hlv hN
                refine ⟨fun hg => ?_, fun hg => absurd h11 hg⟩
                clear hg
                unfold Roll.Goes
                simp only [Lkp15, List.getD_cons_zero, List.getD_cons_succ]
                generalize Roll.putD Dkp15 vs [14, 11] b0 = a1 at *
                have cf : p.cell? ⟨ba, ofa + j, none⟩ = some (.pointer (some ⟨gj, 0, none⟩)) := (hI.cell (p := ⟨ba, ofa + j, none⟩) HBA.out.1).trans HBA.out.2
                refine Roll.goes_val (w' := p) (.pointer (some ⟨gj, 0, none⟩)) rfl ?_ ⟨hI, Below.refl _ _, rfl⟩
                (have ec : ∀ x, a1.eval (.const x) = x := fun _ => rfl); (have ef : ∀ x, a1.eval (.func x) = .func (.func x) #[] #[] := fun _ => rfl); generalize a1.eval = ρ at *
                clear h14 h11
                go_simp <;> (intros; first | (exfalso; omega) | rfl | omega)
              · intro vs p hI hp
                have h15 : (vs 15) = .pointer (some ⟨gj, 0, none⟩) := hp 15 (by simp [Lkp15])
                have h11 : (vs 11) = .bool false := hp 11 (by simp [Lkp15])
                have e57 : (Roll.putD Dkp15 vs [15, 11] b0).eval (.tmp 57) = .pointer (some ⟨gj, 0, none⟩) := (Roll.eval_new 15 rfl (by decide) (by decide) (by omega)).trans h15
                clear hp hlv hN
                refine ⟨fun hg => ?_, fun hg => absurd h11 hg⟩
                clear hg
                unfold Roll.Goes
                simp only [Lkp15, List.getD_cons_zero, List.getD_cons_succ]
                generalize Roll.putD Dkp15 vs [15, 11] b0 = a1 at *
                refine Roll.goes_call 23 #[.pointer (some ⟨gj, 0, none⟩)] p rfl (by have ec : ∀ x, a1.eval (.const x) = x := fun _ => rfl; have ef : ∀ x, a1.eval (.func x) = .func (.func x) #[] #[] := fun _ => rfl; generalize a1.eval = ρ at *; go_simp) ?_
                refine (HLEN.out p hI).mono ?_
                rintro y p2 ⟨rfl, rfl⟩
                exact ⟨_, rfl, hI, Below.refl _ _, rfl⟩
              · intro vs p hI hp
                have h11 : (vs 11) = .bool false := hp 11 (by simp [Lkp15])
                have e5 : (Roll.putD Dkp15 vs [11] b0).eval (.tmp 5) = .slice (some ⟨bp, ofp, none⟩) i cp := (Roll.eval_old rfl).trans (hlv.at 1 (5, .slice (some ⟨bp, ofp, none⟩) i cp) rfl)
                clear hp hlv hN
                refine ⟨fun hg => ?_, fun hg => absurd h11 hg⟩
                clear hg
                unfold Roll.Goes
                simp only [Lkp15, List.getD_cons_zero, List.getD_cons_succ]
                generalize Roll.putD Dkp15 vs [11] b0 = a1 at *
                refine Roll.goes_val (w' := p) (.slice (some ⟨bp, ofp, none⟩) i cp) rfl ?_ ⟨hI, Below.refl _ _, rfl⟩
                (have ec : ∀ x, a1.eval (.const x) = x := fun _ => rfl); (have ef : ∀ x, a1.eval (.func x) = .func (.func x) #[] #[] := fun _ => rfl); generalize a1.eval = ρ at *
                clear h11
                go_simp <;> (intros; first | (exfalso; omega) | rfl | omega)
              · intro vs p hI hp
                have h11 : (vs 11) = .bool false := hp 11 (by simp [Lkp15])
                have e7 : (Roll.putD Dkp15 vs [11] b0).eval (.tmp 7) = .int .i64 (j : Int) := (Roll.eval_old rfl).trans (hlv.at 2 (7, .int .i64 (j : Int)) rfl)
                clear hp hlv hN
                refine ⟨fun hg => ?_, fun hg => absurd h11 hg⟩
                clear hg
                unfold Roll.Goes
                simp only [Lkp15, List.getD_cons_zero, List.getD_cons_succ]
                generalize Roll.putD Dkp15 vs [11] b0 = a1 at *
                refine Roll.goes_val (w' := p) (.int .i64 (j : Int)) rfl ?_ ⟨hI, Below.refl _ _, rfl⟩
                (have ec : ∀ x, a1.eval (.const x) = x := fun _ => rfl); (have ef : ∀ x, a1.eval (.func x) = .func (.func x) #[] #[] := fun _ => rfl); generalize a1.eval = ρ at *
                clear h11
                go_simp <;> (intros; first | (exfalso; omega) | rfl | omega)
              · intro vs p hI hp
                have h17 : (vs 17) = .slice (some ⟨bp, ofp, none⟩) i cp := hp 17 (by simp [Lkp15])
                have h18 : (vs 18) = .int .i64 (j : Int) := hp 18 (by simp [Lkp15])
                have h11 : (vs 11) = .bool false := hp 11 (by simp [Lkp15])
                have e59 : (Roll.putD Dkp15 vs [17, 18, 11] b0).eval (.tmp 59) = .slice (some ⟨bp, ofp, none⟩) i cp := (Roll.eval_new 17 rfl (by decide) (by decide) (by omega)).trans h17
                have e60 : (Roll.putD Dkp15 vs [17, 18, 11] b0).eval (.tmp 60) = .int .i64 (j : Int) := (Roll.eval_new 18 rfl (by decide) (by decide) (by omega)).trans h18
                clear hp hlv hN
                refine ⟨fun hg => ?_, fun hg => absurd h11 hg⟩
                clear hg
                unfold Roll.Goes
                simp only [Lkp15, List.getD_cons_zero, List.getD_cons_succ]
                generalize Roll.putD Dkp15 vs [17, 18, 11] b0 = a1 at *
                have f1 := HJ.out
                have f2 := HCA.out
                have f3 := HCP.out
                have f4 := HI40.out
                refine Roll.goes_val (w' := p) (.pointer (some ⟨bp, ofp + j, none⟩)) rfl ?_ ⟨hI, Below.refl _ _, rfl⟩
                (have ec : ∀ x, a1.eval (.const x) = x := fun _ => rfl); (have ef : ∀ x, a1.eval (.func x) = .func (.func x) #[] #[] := fun _ => rfl); generalize a1.eval = ρ at *
                clear h17 h18 h11
                go_simp <;> (intros; first | (exfalso; omega) | rfl | omega)
              · intro vs p hI hp
                have h19 : (vs 19) = .pointer (some ⟨bp, ofp + j, none⟩) := hp 19 (by simp [Lkp15])
                have h11 : (vs 11) = .bool false := hp 11 (by simp [Lkp15])
                have e61 : (Roll.putD Dkp15 vs [19, 11] b0).eval (.tmp 61) = .pointer (some ⟨bp, ofp + j, none⟩) := (Roll.eval_new 19 rfl (by decide) (by decide) (by omega)).trans h19
                clear hp hlv hN
                refine ⟨fun hg => ?_, fun hg => absurd h11 hg⟩
                clear hg
                unfold Roll.Goes
                simp only [Lkp15, List.getD_cons_zero, List.getD_cons_succ]
                generalize Roll.putD Dkp15 vs [19, 11] b0 = a1 at *
                have cf : p.cell? ⟨bp, ofp + j, none⟩ = some (.slice sa sl sc) := (hI.cell (p := ⟨bp, ofp + j, none⟩) HBP.out.1).trans HBP.out.2
                refine Roll.goes_val (w' := p) (.slice sa sl sc) rfl ?_ ⟨hI, Below.refl _ _, rfl⟩
                (have ec : ∀ x, a1.eval (.const x) = x := fun _ => rfl); (have ef : ∀ x, a1.eval (.func x) = .func (.func x) #[] #[] := fun _ => rfl); generalize a1.eval = ρ at *
                clear h19 h11
                go_simp <;> (intros; first | (exfalso; omega) | rfl | omega)
              · intro vs p hI hp
                have h20 : (vs 20) = .slice sa sl sc := hp 20 (by simp [Lkp15])
                have h11 : (vs 11) = .bool false := hp 11 (by simp [Lkp15])
                have e62 : (Roll.putD Dkp15 vs [20, 11] b0).eval (.tmp 62) = .slice sa sl sc := (Roll.eval_new 20 rfl (by decide) (by decide) (by omega)).trans h20
                clear hp hlv hN
                refine ⟨fun hg => ?_, fun hg => absurd h11 hg⟩
                clear hg
                unfold Roll.Goes
                simp only [Lkp15, List.getD_cons_zero, List.getD_cons_succ]
                generalize Roll.putD Dkp15 vs [20, 11] b0 = a1 at *
                refine Roll.goes_val (w' := p) (.int .i64 (sl : Int)) rfl ?_ ⟨hI, Below.refl _ _, rfl⟩
                (have ec : ∀ x, a1.eval (.const x) = x := fun _ => rfl); (have ef : ∀ x, a1.eval (.func x) = .func (.func x) #[] #[] := fun _ => rfl); generalize a1.eval = ρ at *
                clear h20 h11
                go_simp <;> (intros; first | (exfalso; omega) | rfl | omega)
              · intro vs p hI hp
                have h16 : (vs 16) = .int .i64 (sl : Int) := hp 16 (by simp [Lkp15])
                have h21 : (vs 21) = .int .i64 (sl : Int) := hp 21 (by simp [Lkp15])
                have h11 : (vs 11) = .bool false := hp 11 (by simp [Lkp15])
                have e58 : (Roll.putD Dkp15 vs [16, 21, 11] b0).eval (.tmp 58) = .int .i64 (sl : Int) := (Roll.eval_new 16 rfl (by decide) (by decide) (by omega)).trans h16
                have e63 : (Roll.putD Dkp15 vs [16, 21, 11] b0).eval (.tmp 63) = .int .i64 (sl : Int) := (Roll.eval_new 21 rfl (by decide) (by decide) (by omega)).trans h21
                clear hp hlv hN
                refine ⟨fun hg => ?_, fun hg => absurd h11 hg⟩
                clear hg
                unfold Roll.Goes
                simp only [Lkp15, List.getD_cons_zero, List.getD_cons_succ]
                generalize Roll.putD Dkp15 vs [16, 21, 11] b0 = a1 at *
                refine Roll.goes_val (w' := p) (.bool false) rfl ?_ ⟨hI, Below.refl _ _, rfl⟩
                (have ec : ∀ x, a1.eval (.const x) = x := fun _ => rfl); (have ef : ∀ x, a1.eval (.func x) = .func (.func x) #[] #[] := fun _ => rfl); generalize a1.eval = ρ at *
                clear h16 h21 h11
                go_simp <;> (intros; first | (exfalso; omega) | rfl | omega)
              · intro vs p hI hp
                have h11 : (vs 11) = .bool false := hp 11 (by simp [Lkp15])
                have h22 : (vs 22) = .bool false := hp 22 (by simp [Lkp15])
                have e53 : (Roll.putD Dkp15 vs [11, 22] b0).eval (.tmp 53) = .bool false := (Roll.eval_new 11 rfl (by decide) (by decide) (by omega)).trans h11
                have e64 : (Roll.putD Dkp15 vs [11, 22] b0).eval (.tmp 64) = .bool false := (Roll.eval_new 22 rfl (by decide) (by decide) (by omega)).trans h22
                clear hp hlv hN
                unfold Roll.Goes
                simp only [Lkp15, List.getD_cons_zero, List.getD_cons_succ]
                generalize Roll.putD Dkp15 vs [11, 22] b0 = a1 at *
                refine Roll.goes_val (w' := p) (.bool false) rfl ?_ ⟨hI, Below.refl _ _, rfl⟩
                (have ec : ∀ x, a1.eval (.const x) = x := fun _ => rfl); (have ef : ∀ x, a1.eval (.func x) = .func (.func x) #[] #[] := fun _ => rfl); generalize a1.eval = ρ at *
                clear h11 h22
                go_simp <;> (intros; first | (exfalso; omega) | rfl | omega)
            · intro vs p hI hR
              have h0 : (vs 0) = .slice (some ⟨ba, ofa, none⟩) i ca := hR 0 (by omega)
              have h1 : (vs 1) = .int .i64 (j : Int) := hR 1 (by omega)
              have h2 : (vs 2) = .pointer (some ⟨ba, ofa + j, none⟩) := hR 2 (by omega)
              have h3 : (vs 3) = .pointer (some ⟨gj, 0, none⟩) := hR 3 (by omega)
              have h4 : PR p (vs 4) (treeL tj) := hR 4 (by omega)
              have h5 : (vs 5) = .slice (some ⟨bp, ofp, none⟩) i cp := hR 5 (by omega)
              have h6 : (vs 6) = .int .i64 (j : Int) := hR 6 (by omega)
              have h7 : (vs 7) = .pointer (some ⟨bp, ofp + j, none⟩) := hR 7 (by omega)
              have h8 : (vs 8) = .slice sa sl sc := hR 8 (by omega)
              have h9 : (vs 9) = .bool true := hR 9 (by omega)
              have h10 : (vs 10) = .bool false := hR 10 (by omega)
              have h11 : (vs 11) = .bool false := hR 11 (by omega)
              have h12 : (vs 12) = .slice (some ⟨ba, ofa, none⟩) i ca := hR 12 (by omega)
              have h13 : (vs 13) = .int .i64 (j : Int) := hR 13 (by omega)
              have h14 : (vs 14) = .pointer (some ⟨ba, ofa + j, none⟩) := hR 14 (by omega)
              have h15 : (vs 15) = .pointer (some ⟨gj, 0, none⟩) := hR 15 (by omega)
              have h16 : (vs 16) = .int .i64 (sl : Int) := hR 16 (by omega)
              have h17 : (vs 17) = .slice (some ⟨bp, ofp, none⟩) i cp := hR 17 (by omega)
              have h18 : (vs 18) = .int .i64 (j : Int) := hR 18 (by omega)
              have h19 : (vs 19) = .pointer (some ⟨bp, ofp + j, none⟩) := hR 19 (by omega)
              have h20 : (vs 20) = .slice sa sl sc := hR 20 (by omega)
              have h21 : (vs 21) = .int .i64 (sl : Int) := hR 21 (by omega)
              have h22 : (vs 22) = .bool false := hR 22 (by omega)
              have h23 : (vs 23) = .bool false := hR 23 (by omega)
              clear hR
              simp only [List.range_succ, List.range_zero, List.nil_append, List.cons_append, Roll.putD, Act.put, List.getD_cons_zero, List.getD_cons_succ, List.setIfInBounds_toArray, List.set_cons_zero, List.set_cons_succ, List.drop_succ_cons, List.drop_zero, Dkp15]
              simp only [h0, h1, h2, h3, h5, h6, h7, h8, h9, h10, h11, h12, h13, h14, h15, h16, h17, h18, h19, h20, h21, h22, h23]
              clear h0 h1 h2 h3 h5 h6 h7 h8 h9 h10 h11 h12 h13 h14 h15 h16 h17 h18 h19 h20 h21 h22 h23
              clear h4
              have HBf : Hid (Below wX.heap.size wX p) := Lib.hid (HB.out.trans (hI.mono HB.out.size))
              clear hI
              apply wpList_nil
              go_step
              go_step
              go_wp2_with fail
              go_roundw
              case rel => exact ⟨j + 1, rfl, by have := HJ.out; omega, HBf.out⟩
              case measure => (try go_num); (try (simp only [intOf])); have := HJ.out; omega
          · have hlt2 : ¬ (j : Int) < (i : Int) := by omega
            have HBL : Hid (Below w.heap.size w q) := Lib.hid (HKI.out.bl.trans (HB.out.mono HKI.out.bl.size))
            clear hjl
            go_wp2_with (go_at_call 19; refine (lives_any _).mono ?_; rintro e w8 ⟨rfl, hb8⟩)
            go_ret
            exact ⟨rfl, HBL.out.trans (hb8.mono HBL.out.size)⟩
      · have hlt2 : ¬ (i : Int) < (n : Int) := by omega
        have hlt3 : decide ((i : Int) < (n : Int)) = false := decide_eq_false hlt2
        clear hgo hi hlt
        obtain ⟨wX, hwX⟩ : ∃ z, z = wr := ⟨_, rfl⟩
        subst hwX
        obtain ⟨aa, ca, hva, hsa⟩ := HKI.out.ra.ow.sl
        obtain ⟨ap, cp, hvp, hsp⟩ := HKI.out.rp.ow.sl
        rw [HAL.out] at hva
        rw [HVL.out] at hvp
        subst hva
        subst hvp
        have hca : i ≤ ca := by have := hsa.2.1; have := HAL.out; omega
        have hca2 : ca ≤ 9223372036854775807 := hsa.2.2.1
        have hcp : i ≤ cp := by have := hsp.2.1; have := HVL.out; omega
        have hcp2 : cp ≤ 9223372036854775807 := hsp.2.2.1
        have HI40 : Hid (i ≤ 40) := Lib.hid HKI.out.sm
        clear hsa hsp HCH hc1 hc2
        go_upto_region 12 with fail
        clear hlt2 hlt3
        go_wp2
        go_loopw [7] (fun x w2 => ∃ j : Nat, x = .int .i64 (j : Int) ∧ j ≤ i ∧ Below wX.heap.size wX w2) (fun x _ => i - (intOf x).toNat)
        case atStart => exact ⟨0, rfl, Nat.zero_le _, Below.refl _ _⟩
        case round =>
          obtain ⟨j, rfl, hj, hb⟩ := hrel
          obtain ⟨q, hq⟩ : ∃ z, z = wr := ⟨_, rfl⟩
          subst hq
          have HB := Lib.hid hb
          clear hb
          by_cases hjl : j < i
          · have hlt2 : (j : Int) < (i : Int) := by omega
            obtain ⟨gj, tj, Hj, ba, ofa, bp, ofp, ca', cp', sa, sl, sc, e1, e2, hba, hbp, htj, hsl, hps⟩ := HKI.out.at2 HEQ.out HAL.out HVL.out j hjl HB.out
            simp only [Value.slice.injEq] at e1 e2
            obtain ⟨rfl, -, rfl⟩ := e1
            obtain ⟨rfl, -, rfl⟩ := e2
            have HBA := Lib.hid hba
            have HBP := Lib.hid hbp
            have HCA : Hid ((i : Int) ≤ (ca : Int)) := Lib.hid (by omega)
            have HCP : Hid ((i : Int) ≤ (cp : Int)) := Lib.hid (by omega)
            have HJ := Lib.hid hlt2
            have HSC : Hid (sl ≤ sc) := Lib.hid hps.2.2.1
            have HRNG : Hid (∀ p, Below q.heap.size q p → Calls Try.prog 29 #[.pointer (some ⟨gj, 0, none⟩), .string emptyS, .string emptyS] p fun e w' => ∃ a n c, e = .returned (.slice a n c) ∧ PR w' (.slice a n c) (treeL tj) ∧ Below p.heap.size p w') := Lib.hid (fun p hp => HRG.out p gj tj Hj (htj.under hp) (by have := hsl.2; omega))
            have HSAME : Hid (∀ p a' n' c', Below q.heap.size q p → Ps (fun _ => True) p a' n' c' (treeL tj) → Calls Try.prog 30 #[.slice a' n' c', .slice sa sl sc] p fun e w' => e = .returned (.bool true) ∧ Below p.heap.size p w') := Lib.hid (fun p a' n' c' hp h2 => by
              have h3 := same_any h2 (hps.below hp)
              rw [decide_eq_true rfl] at h3
              exact h3)
            have HLEN : Hid (∀ p, Below q.heap.size q p → Calls Try.prog 23 #[.pointer (some ⟨gj, 0, none⟩)] p fun e w' => e = .returned (.int .i64 (sl : Int)) ∧ p = w') := Lib.hid (fun p hp => by
              rw [hsl.1]
              exact len_any (htj.under hp).tr)
            have hwi : IntKind.i64.wrap ((j : Int) + 1) = (j : Int) + 1 := i64_id _ (by omega) (by have := HI40.out; omega)
            clear hba hbp htj hsl hps hjl HRG
            go_upto_region 15 with fail
            refine Roll.region_f 24 67 Dkp15 Lkp15 [(4, .slice (some ⟨ba, ofa, none⟩) i ca), (5, .slice (some ⟨bp, ofp, none⟩) i cp), (7, .int .i64 (j : Int))] (fun p => Below q.heap.size q p) (fun p p2 => Below p.heap.size p p2) [fun vv p => vv = .slice (some ⟨ba, ofa, none⟩) i ca, fun vv p => vv = .int .i64 (j : Int), fun vv p => vv = .pointer (some ⟨ba, ofa + j, none⟩), fun vv p => vv = .pointer (some ⟨gj, 0, none⟩), fun vv p => PR p vv (treeL tj), fun vv p => vv = .slice (some ⟨bp, ofp, none⟩) i cp, fun vv p => vv = .int .i64 (j : Int), fun vv p => vv = .pointer (some ⟨bp, ofp + j, none⟩), fun vv p => vv = .slice sa sl sc, fun vv p => vv = .bool true, fun vv p => vv = .bool false, fun vv p => vv = .bool false, fun vv p => vv = .slice (some ⟨ba, ofa, none⟩) i ca, fun vv p => vv = .int .i64 (j : Int), fun vv p => vv = .pointer (some ⟨ba, ofa + j, none⟩), fun vv p => vv = .pointer (some ⟨gj, 0, none⟩), fun vv p => vv = .int .i64 (sl : Int), fun vv p => vv = .slice (some ⟨bp, ofp, none⟩) i cp, fun vv p => vv = .int .i64 (j : Int), fun vv p => vv = .pointer (some ⟨bp, ofp + j, none⟩), fun vv p => vv = .slice sa sl sc, fun vv p => vv = .int .i64 (sl : Int), fun vv p => vv = .bool false, fun vv p => vv = .bool false] (by kernel_rfl) (by kernel_rfl) rfl ⟨rfl, rfl, rfl, trivial⟩ ((Below.refl _ _).drew) ?_ ?_ ?_
            · exact ⟨fun _ _ _ _ h => h, fun _ _ _ _ h => h, fun _ _ _ _ h => h, fun _ _ _ _ h => h, fun _ _ _ hs h => h.rows (Kept.of_below (fun _ => False) hs) (fun _ _ h => h.elim), fun _ _ _ _ h => h, fun _ _ _ _ h => h, fun _ _ _ _ h => h, fun _ _ _ _ h => h, fun _ _ _ _ h => h, fun _ _ _ _ h => h, fun _ _ _ _ h => h, fun _ _ _ _ h => h, fun _ _ _ _ h => h, fun _ _ _ _ h => h, fun _ _ _ _ h => h, fun _ _ _ _ h => h, fun _ _ _ _ h => h, fun _ _ _ _ h => h, fun _ _ _ _ h => h, fun _ _ _ _ h => h, fun _ _ _ _ h => h, fun _ _ _ _ h => h, fun _ _ _ _ h => h, trivial⟩
            · intro b0 hN hlv
              refine ⟨?_, ?_, ?_, ?_, ?_, ?_, ?_, ?_, ?_, ?_, ?_, ?_, ?_, ?_, ?_, ?_, ?_, ?_, ?_, ?_, ?_, ?_, ?_, ?_, trivial⟩
              · intro vs p hI hp
                have e4 : (Roll.putD Dkp15 vs [] b0).eval (.tmp 4) = .slice (some ⟨ba, ofa, none⟩) i ca := (Roll.eval_old rfl).trans (hlv.at 0 (4, .slice (some ⟨ba, ofa, none⟩) i ca) rfl)
                clear hp hlv hN
                unfold Roll.Goes
                simp only [Lkp15, List.getD_cons_zero, List.getD_cons_succ]
                generalize Roll.putD Dkp15 vs [] b0 = a1 at *
                refine Roll.goes_val (w' := p) (.slice (some ⟨ba, ofa, none⟩) i ca) rfl ?_ ⟨hI, Below.refl _ _, rfl⟩
                (have ec : ∀ x, a1.eval (.const x) = x := fun _ => rfl); (have ef : ∀ x, a1.eval (.func x) = .func (.func x) #[] #[] := fun _ => rfl); generalize a1.eval = ρ at *
                skip
                go_simp <;> (intros; first | (exfalso; omega) | rfl | omega)
              · intro vs p hI hp
                have e7 : (Roll.putD Dkp15 vs [] b0).eval (.tmp 7) = .int .i64 (j : Int) := (Roll.eval_old rfl).trans (hlv.at 2 (7, .int .i64 (j : Int)) rfl)
                clear hp hlv hN
                unfold Roll.Goes
                simp only [Lkp15, List.getD_cons_zero, List.getD_cons_succ]
                generalize Roll.putD Dkp15 vs [] b0 = a1 at *
                refine Roll.goes_val (w' := p) (.int .i64 (j : Int)) rfl ?_ ⟨hI, Below.refl _ _, rfl⟩
                (have ec : ∀ x, a1.eval (.const x) = x := fun _ => rfl); (have ef : ∀ x, a1.eval (.func x) = .func (.func x) #[] #[] := fun _ => rfl); generalize a1.eval = ρ at *
                skip
                go_simp <;> (intros; first | (exfalso; omega) | rfl | omega)
              · intro vs p hI hp
                have h0 : (vs 0) = .slice (some ⟨ba, ofa, none⟩) i ca := hp 0 (by simp [Lkp15])
                have h1 : (vs 1) = .int .i64 (j : Int) := hp 1 (by simp [Lkp15])
                have e42 : (Roll.putD Dkp15 vs [0, 1] b0).eval (.tmp 42) = .slice (some ⟨ba, ofa, none⟩) i ca := (Roll.eval_new 0 rfl (by decide) (by decide) (by omega)).trans h0
                have e43 : (Roll.putD Dkp15 vs [0, 1] b0).eval (.tmp 43) = .int .i64 (j : Int) := (Roll.eval_new 1 rfl (by decide) (by decide) (by omega)).trans h1
                clear hp hlv hN
                unfold Roll.Goes
                simp only [Lkp15, List.getD_cons_zero, List.getD_cons_succ]
                generalize Roll.putD Dkp15 vs [0, 1] b0 = a1 at *
                have f1 := HJ.out
                have f2 := HCA.out
                have f3 := HCP.out
                have f4 := HI40.out
                refine Roll.goes_val (w' := p) (.pointer (some ⟨ba, ofa + j, none⟩)) rfl ?_ ⟨hI, Below.refl _ _, rfl⟩
                (have ec : ∀ x, a1.eval (.const x) = x := fun _ => rfl); (have ef : ∀ x, a1.eval (.func x) = .func (.func x) #[] #[] := fun _ => rfl); generalize a1.eval = ρ at *
                clear h0 h1
                go_simp <;> (intros; first | (exfalso; omega) | rfl | omega)
              · intro vs p hI hp
                have h2 : (vs 2) = .pointer (some ⟨ba, ofa + j, none⟩) := hp 2 (by simp [Lkp15])
                have e44 : (Roll.putD Dkp15 vs [2] b0).eval (.tmp 44) = .pointer (some ⟨ba, ofa + j, none⟩) := (Roll.eval_new 2 rfl (by decide) (by decide) (by omega)).trans h2
                clear hp hlv hN
                unfold Roll.Goes
                simp only [Lkp15, List.getD_cons_zero, List.getD_cons_succ]
                generalize Roll.putD Dkp15 vs [2] b0 = a1 at *
                have cf : p.cell? ⟨ba, ofa + j, none⟩ = some (.pointer (some ⟨gj, 0, none⟩)) := (hI.cell (p := ⟨ba, ofa + j, none⟩) HBA.out.1).trans HBA.out.2
                refine Roll.goes_val (w' := p) (.pointer (some ⟨gj, 0, none⟩)) rfl ?_ ⟨hI, Below.refl _ _, rfl⟩
                (have ec : ∀ x, a1.eval (.const x) = x := fun _ => rfl); (have ef : ∀ x, a1.eval (.func x) = .func (.func x) #[] #[] := fun _ => rfl); generalize a1.eval = ρ at *
                clear h2
                go_simp <;> (intros; first | (exfalso; omega) | rfl | omega)
              · intro vs p hI hp
                have h3 : (vs 3) = .pointer (some ⟨gj, 0, none⟩) := hp 3 (by simp [Lkp15])
                have e45 : (Roll.putD Dkp15 vs [3] b0).eval (.tmp 45) = .pointer (some ⟨gj, 0, none⟩) := (Roll.eval_new 3 rfl (by decide) (by decide) (by omega)).trans h3
                clear hp hlv hN
                unfold Roll.Goes
                simp only [Lkp15, List.getD_cons_zero, List.getD_cons_succ]
                generalize Roll.putD Dkp15 vs [3] b0 = a1 at *
                refine Roll.goes_call 29 #[.pointer (some ⟨gj, 0, none⟩), .string ⟨#[]⟩, .string ⟨#[]⟩] p rfl (by have ec : ∀ x, a1.eval (.const x) = x := fun _ => rfl; have ef : ∀ x, a1.eval (.func x) = .func (.func x) #[] #[] := fun _ => rfl; generalize a1.eval = ρ at *; go_simp) ?_
                refine (HRNG.out p hI).mono ?_
                rintro y p2 ⟨a', n', c', rfl, hv, hb2⟩
                exact ⟨_, rfl, hI.trans (hb2.mono hI.size), hb2, hv⟩
              · intro vs p hI hp
                have e5 : (Roll.putD Dkp15 vs [] b0).eval (.tmp 5) = .slice (some ⟨bp, ofp, none⟩) i cp := (Roll.eval_old rfl).trans (hlv.at 1 (5, .slice (some ⟨bp, ofp, none⟩) i cp) rfl)
                clear hp hlv hN
                unfold Roll.Goes
                simp only [Lkp15, List.getD_cons_zero, List.getD_cons_succ]
                generalize Roll.putD Dkp15 vs [] b0 = a1 at *
                refine Roll.goes_val (w' := p) (.slice (some ⟨bp, ofp, none⟩) i cp) rfl ?_ ⟨hI, Below.refl _ _, rfl⟩
                (have ec : ∀ x, a1.eval (.const x) = x := fun _ => rfl); (have ef : ∀ x, a1.eval (.func x) = .func (.func x) #[] #[] := fun _ => rfl); generalize a1.eval = ρ at *
                skip
                go_simp <;> (intros; first | (exfalso; omega) | rfl | omega)
              · intro vs p hI hp
                have e7 : (Roll.putD Dkp15 vs [] b0).eval (.tmp 7) = .int .i64 (j : Int) := (Roll.eval_old rfl).trans (hlv.at 2 (7, .int .i64 (j : Int)) rfl)
                clear hp hlv hN
                unfold Roll.Goes
                simp only [Lkp15, List.getD_cons_zero, List.getD_cons_succ]
                generalize Roll.putD Dkp15 vs [] b0 = a1 at *
                refine Roll.goes_val (w' := p) (.int .i64 (j : Int)) rfl ?_ ⟨hI, Below.refl _ _, rfl⟩
                (have ec : ∀ x, a1.eval (.const x) = x := fun _ => rfl); (have ef : ∀ x, a1.eval (.func x) = .func (.func x) #[] #[] := fun _ => rfl); generalize a1.eval = ρ at *
                skip
                go_simp <;> (intros; first | (exfalso; omega) | rfl | omega)
              · intro vs p hI hp
                have h5 : (vs 5) = .slice (some ⟨bp, ofp, none⟩) i cp := hp 5 (by simp [Lkp15])
                have h6 : (vs 6) = .int .i64 (j : Int) := hp 6 (by simp [Lkp15])
                have e47 : (Roll.putD Dkp15 vs [5, 6] b0).eval (.tmp 47) = .slice (some ⟨bp, ofp, none⟩) i cp := (Roll.eval_new 5 rfl (by decide) (by decide) (by omega)).trans h5
                have e48 : (Roll.putD Dkp15 vs [5, 6] b0).eval (.tmp 48) = .int .i64 (j : Int) := (Roll.eval_new 6 rfl (by decide) (by decide) (by omega)).trans h6
                clear hp hlv hN
                unfold Roll.Goes
                simp only [Lkp15, List.getD_cons_zero, List.getD_cons_succ]
                generalize Roll.putD Dkp15 vs [5, 6] b0 = a1 at *
                have f1 := HJ.out
                have f2 := HCA.out
                have f3 := HCP.out
                have f4 := HI40.out
                refine Roll.goes_val (w' := p) (.pointer (some ⟨bp, ofp + j, none⟩)) rfl ?_ ⟨hI, Below.refl _ _, rfl⟩
                (have ec : ∀ x, a1.eval (.const x) = x := fun _ => rfl); (have ef : ∀ x, a1.eval (.func x) = .func (.func x) #[] #[] := fun _ => rfl); generalize a1.eval = ρ at *
                clear h5 h6
                go_simp <;> (intros; first | (exfalso; omega) | rfl | omega)
              · intro vs p hI hp
                have h7 : (vs 7) = .pointer (some ⟨bp, ofp + j, none⟩) := hp 7 (by simp [Lkp15])
                have e49 : (Roll.putD Dkp15 vs [7] b0).eval (.tmp 49) = .pointer (some ⟨bp, ofp + j, none⟩) := (Roll.eval_new 7 rfl (by decide) (by decide) (by omega)).trans h7
                clear hp hlv hN
                unfold Roll.Goes
                simp only [Lkp15, List.getD_cons_zero, List.getD_cons_succ]
                generalize Roll.putD Dkp15 vs [7] b0 = a1 at *
                have cf : p.cell? ⟨bp, ofp + j, none⟩ = some (.slice sa sl sc) := (hI.cell (p := ⟨bp, ofp + j, none⟩) HBP.out.1).trans HBP.out.2
                refine Roll.goes_val (w' := p) (.slice sa sl sc) rfl ?_ ⟨hI, Below.refl _ _, rfl⟩
                (have ec : ∀ x, a1.eval (.const x) = x := fun _ => rfl); (have ef : ∀ x, a1.eval (.func x) = .func (.func x) #[] #[] := fun _ => rfl); generalize a1.eval = ρ at *
                clear h7
                go_simp <;> (intros; first | (exfalso; omega) | rfl | omega)
              · intro vs p hI hp
                have h4 : PR p (vs 4) (treeL tj) := hp 4 (by simp [Lkp15])
                have h8 : (vs 8) = .slice sa sl sc := hp 8 (by simp [Lkp15])
                have e46 : (Roll.putD Dkp15 vs [4, 8] b0).eval (.tmp 46) = vs 4 := (Roll.eval_new 4 rfl (by decide) (by decide) (by omega))
                have e50 : (Roll.putD Dkp15 vs [4, 8] b0).eval (.tmp 50) = .slice sa sl sc := (Roll.eval_new 8 rfl (by decide) (by decide) (by omega)).trans h8
                clear hp hlv hN
                unfold Roll.Goes
                simp only [Lkp15, List.getD_cons_zero, List.getD_cons_succ]
                generalize Roll.putD Dkp15 vs [4, 8] b0 = a1 at *
                obtain ⟨a', n', c', hv4, hp4⟩ := Ps.row h4
                rw [hv4] at e46
                refine Roll.goes_call 30 #[.slice a' n' c', .slice sa sl sc] p rfl (by have ec : ∀ x, a1.eval (.const x) = x := fun _ => rfl; have ef : ∀ x, a1.eval (.func x) = .func (.func x) #[] #[] := fun _ => rfl; generalize a1.eval = ρ at *; go_simp) ?_
                refine (HSAME.out p a' n' c' hI (hp4.dom (fun _ _ => trivial))).mono ?_
                rintro y p2 ⟨rfl, hb2⟩
                exact ⟨_, rfl, hI.trans (hb2.mono hI.size), hb2, rfl⟩
              · intro vs p hI hp
                have h9 : (vs 9) = .bool true := hp 9 (by simp [Lkp15])
                have e51 : (Roll.putD Dkp15 vs [9] b0).eval (.tmp 51) = .bool true := (Roll.eval_new 9 rfl (by decide) (by decide) (by omega)).trans h9
                clear hp hlv hN
                unfold Roll.Goes
                simp only [Lkp15, List.getD_cons_zero, List.getD_cons_succ]
                generalize Roll.putD Dkp15 vs [9] b0 = a1 at *
                refine Roll.goes_val (w' := p) (.bool false) rfl ?_ ⟨hI, Below.refl _ _, rfl⟩
                (have ec : ∀ x, a1.eval (.const x) = x := fun _ => rfl); (have ef : ∀ x, a1.eval (.func x) = .func (.func x) #[] #[] := fun _ => rfl); generalize a1.eval = ρ at *
                clear h9
                go_simp <;> (intros; first | (exfalso; omega) | rfl | omega)
              · intro vs p hI hp
                have h10 : (vs 10) = .bool false := hp 10 (by simp [Lkp15])
                have e52 : (Roll.putD Dkp15 vs [10] b0).eval (.tmp 52) = .bool false := (Roll.eval_new 10 rfl (by decide) (by decide) (by omega)).trans h10
                clear hp hlv hN
                unfold Roll.Goes
                simp only [Lkp15, List.getD_cons_zero, List.getD_cons_succ]
                generalize Roll.putD Dkp15 vs [10] b0 = a1 at *
                refine Roll.goes_val (w' := p) (.bool false) rfl ?_ ⟨hI, Below.refl _ _, rfl⟩
                (have ec : ∀ x, a1.eval (.const x) = x := fun _ => rfl); (have ef : ∀ x, a1.eval (.func x) = .func (.func x) #[] #[] := fun _ => rfl); generalize a1.eval = ρ at *
                clear h10
                go_simp <;> (intros; first | (exfalso; omega) | rfl | omega)
              · intro vs p hI hp
                have h11 : (vs 11) = .bool false := hp 11 (by simp [Lkp15])
                have e4 : (Roll.putD Dkp15 vs [11] b0).eval (.tmp 4) = .slice (some ⟨ba, ofa, none⟩) i ca := (Roll.eval_old rfl).trans (hlv.at 0 (4, .slice (some ⟨ba, ofa, none⟩) i ca) rfl)
                clear hp hlv hN
                refine ⟨fun hg => ?_, fun hg => absurd h11 hg⟩
                clear hg
                unfold Roll.Goes
                simp only [Lkp15, List.getD_cons_zero, List.getD_cons_succ]
                generalize Roll.putD Dkp15 vs [11] b0 = a1 at *
                refine Roll.goes_val (w' := p) (.slice (some ⟨ba, ofa, none⟩) i ca) rfl ?_ ⟨hI, Below.refl _ _, rfl⟩
                (have ec : ∀ x, a1.eval (.const x) = x := fun _ => rfl); (have ef : ∀ x, a1.eval (.func x) = .func (.func x) #[] #[] := fun _ => rfl); generalize a1.eval = ρ at *
                clear h11
                go_simp <;> (intros; first | (exfalso; omega) | rfl | omega)
              · intro vs p hI hp
                have h11 : (vs 11) = .bool false := hp 11 (by simp [Lkp15])
                have e7 : (Roll.putD Dkp15 vs [11] b0).eval (.tmp 7) = .int .i64 (j : Int) := (Roll.eval_old rfl).trans (hlv.at 2 (7, .int .i64 (j : Int)) rfl)
                clear hp hlv hN
                refine ⟨fun hg => ?_, fun hg => absurd h11 hg⟩
                clear hg
                unfold Roll.Goes
                simp only [Lkp15, List.getD_cons_zero, List.getD_cons_succ]
                generalize Roll.putD Dkp15 vs [11] b0 = a1 at *
                refine Roll.goes_val (w' := p) (.int .i64 (j : Int)) rfl ?_ ⟨hI, Below.refl _ _, rfl⟩
                (have ec : ∀ x, a1.eval (.const x) = x := fun _ => rfl); (have ef : ∀ x, a1.eval (.func x) = .func (.func x) #[] #[] := fun _ => rfl); generalize a1.eval = ρ at *
                clear h11
                go_simp <;> (intros; first | (exfalso; omega) | rfl | omega)
              · intro vs p hI hp
                have h12 : (vs 12) = .slice (some ⟨ba, ofa, none⟩) i ca := hp 12 (by simp [Lkp15])
                have h13 : (vs 13) = .int .i64 (j : Int) := hp 13 (by simp [Lkp15])
                have h11 : (vs 11) = .bool false := hp 11 (by simp [Lkp15])
                have e54 : (Roll.putD Dkp15 vs [12, 13, 11] b0).eval (.tmp 54) = .slice (some ⟨ba, ofa, none⟩) i ca := (Roll.eval_new 12 rfl (by decide) (by decide) (by omega)).trans h12
                have e55 : (Roll.putD Dkp15 vs [12, 13, 11] b0).eval (.tmp 55) = .int .i64 (j : Int) := (Roll.eval_new 13 rfl (by decide) (by decide) (by omega)).trans h13
                clear hp hlv hN
                refine ⟨fun hg => ?_, fun hg => absurd h11 hg⟩
                clear hg
                unfold Roll.Goes
                simp only [Lkp15, List.getD_cons_zero, List.getD_cons_succ]
                generalize Roll.putD Dkp15 vs [12, 13, 11] b0 = a1 at *
                have f1 := HJ.out
                have f2 := HCA.out
                have f3 := HCP.out
                have f4 := HI40.out
                refine Roll.goes_val (w' := p) (.pointer (some ⟨ba, ofa + j, none⟩)) rfl ?_ ⟨hI, Below.refl _ _, rfl⟩
                (have ec : ∀ x, a1.eval (.const x) = x := fun _ => rfl); (have ef : ∀ x, a1.eval (.func x) = .func (.func x) #[] #[] := fun _ => rfl); generalize a1.eval = ρ at *
                clear h12 h13 h11
                go_simp <;> (intros; first | (exfalso; omega) | rfl | omega)
              · intro vs p hI hp
                have h14 : (vs 14) = .pointer (some ⟨ba, ofa + j, none⟩) := hp 14 (by simp [Lkp15])
                have h11 : (vs 11) = .bool false := hp 11 (by simp [Lkp15])
                have e56 : (Roll.putD Dkp15 vs [14, 11] b0).eval (.tmp 56) = .pointer (some ⟨ba, ofa + j, none⟩) := (Roll.eval_new 14 rfl (by decide) (by decide) (by omega)).trans h14
                clear hp hlv hN
                refine ⟨fun hg => ?_, fun hg => absurd h11 hg⟩
                clear hg
                unfold Roll.Goes
                simp only [Lkp15, List.getD_cons_zero, List.getD_cons_succ]
                generalize Roll.putD Dkp15 vs [14, 11] b0 = a1 at *
                have cf : p.cell? ⟨ba, ofa + j, none⟩ = some (.pointer (some ⟨gj, 0, none⟩)) := (hI.cell (p := ⟨ba, ofa + j, none⟩) HBA.out.1).trans HBA.out.2
                refine Roll.goes_val (w' := p) (.pointer (some ⟨gj, 0, none⟩)) rfl ?_ ⟨hI, Below.refl _ _, rfl⟩
                (have ec : ∀ x, a1.eval (.const x) = x := fun _ => rfl); (have ef : ∀ x, a1.eval (.func x) = .func (.func x) #[] #[] := fun _ => rfl); generalize a1.eval = ρ at *
                clear h14 h11
                go_simp <;> (intros; first | (exfalso; omega) | rfl | omega)
              · intro vs p hI hp
                have h15 : (vs 15) = .pointer (some ⟨gj, 0, none⟩) := hp 15 (by simp [Lkp15])
                have h11 : (vs 11) = .bool false := hp 11 (by simp [Lkp15])
                have e57 : (Roll.putD Dkp15 vs [15, 11] b0).eval (.tmp 57) = .pointer (some ⟨gj, 0, none⟩) := (Roll.eval_new 15 rfl (by decide) (by decide) (by omega)).trans h15
                clear hp hlv hN
                refine ⟨fun hg => ?_, fun hg => absurd h11 hg⟩
                clear hg
                unfold Roll.Goes
                simp only [Lkp15, List.getD_cons_zero, List.getD_cons_succ]
                generalize Roll.putD Dkp15 vs [15, 11] b0 = a1 at *
                refine Roll.goes_call 23 #[.pointer (some ⟨gj, 0, none⟩)] p rfl (by have ec : ∀ x, a1.eval (.const x) = x := fun _ => rfl; have ef : ∀ x, a1.eval (.func x) = .func (.func x) #[] #[] := fun _ => rfl; generalize a1.eval = ρ at *; go_simp) ?_
                refine (HLEN.out p hI).mono ?_
                rintro y p2 ⟨rfl, rfl⟩
                exact ⟨_, rfl, hI, Below.refl _ _, rfl⟩
              · intro vs p hI hp
                have h11 : (vs 11) = .bool false := hp 11 (by simp [Lkp15])
                have e5 : (Roll.putD Dkp15 vs [11] b0).eval (.tmp 5) = .slice (some ⟨bp, ofp, none⟩) i cp := (Roll.eval_old rfl).trans (hlv.at 1 (5, .slice (some ⟨bp, ofp, none⟩) i cp) rfl)
                clear hp hlv hN
                refine ⟨fun hg => ?_, fun hg => absurd h11 hg⟩
                clear hg
                unfold Roll.Goes
                simp only [Lkp15, List.getD_cons_zero, List.getD_cons_succ]
                generalize Roll.putD Dkp15 vs [11] b0 = a1 at *
                refine Roll.goes_val (w' := p) (.slice (some ⟨bp, ofp, none⟩) i cp) rfl ?_ ⟨hI, Below.refl _ _, rfl⟩
                (have ec : ∀ x, a1.eval (.const x) = x := fun _ => rfl); (have ef : ∀ x, a1.eval (.func x) = .func (.func x) #[] #[] := fun _ => rfl); generalize a1.eval = ρ at *
                clear h11
                go_simp <;> (intros; first | (exfalso; omega) | rfl | omega)
              · intro vs p hI hp
                have h11 : (vs 11) = .bool false := hp 11 (by simp [Lkp15])
                have e7 : (Roll.putD Dkp15 vs [11] b0).eval (.tmp 7) = .int .i64 (j : Int) := (Roll.eval_old rfl).trans (hlv.at 2 (7, .int .i64 (j : Int)) rfl)
                clear hp hlv hN
                refine ⟨fun hg => ?_, fun hg => absurd h11 hg⟩
                clear hg
                unfold Roll.Goes
                simp only [Lkp15, List.getD_cons_zero, List.getD_cons_succ]
                generalize Roll.putD Dkp15 vs [11] b0 = a1 at *
                refine Roll.goes_val (w' := p) (.int .i64 (j : Int)) rfl ?_ ⟨hI, Below.refl _ _, rfl⟩
                (have ec : ∀ x, a1.eval (.const x) = x := fun _ => rfl); (have ef : ∀ x, a1.eval (.func x) = .func (.func x) #[] #[] := fun _ => rfl); generalize a1.eval = ρ at *
                clear h11
                go_simp <;> (intros; first | (exfalso; omega) | rfl | omega)
              · intro vs p hI hp
                have h17 : (vs 17) = .slice (some ⟨bp, ofp, none⟩) i cp := hp 17 (by simp [Lkp15])
                have h18 : (vs 18) = .int .i64 (j : Int) := hp 18 (by simp [Lkp15])
                have h11 : (vs 11) = .bool false := hp 11 (by simp [Lkp15])
                have e59 : (Roll.putD Dkp15 vs [17, 18, 11] b0).eval (.tmp 59) = .slice (some ⟨bp, ofp, none⟩) i cp := (Roll.eval_new 17 rfl (by decide) (by decide) (by omega)).trans h17
                have e60 : (Roll.putD Dkp15 vs [17, 18, 11] b0).eval (.tmp 60) = .int .i64 (j : Int) := (Roll.eval_new 18 rfl (by decide) (by decide) (by omega)).trans h18
                clear hp hlv hN
                refine ⟨fun hg => ?_, fun hg => absurd h11 hg⟩
                clear hg
                unfold Roll.Goes
                simp only [Lkp15, List.getD_cons_zero, List.getD_cons_succ]
                generalize Roll.putD Dkp15 vs [17, 18, 11] b0 = a1 at *
                have f1 := HJ.out
                have f2 := HCA.out
                have f3 := HCP.out
                have f4 := HI40.out
                refine Roll.goes_val (w' := p) (.pointer (some ⟨bp, ofp + j, none⟩)) rfl ?_ ⟨hI, Below.refl _ _, rfl⟩
                (have ec : ∀ x, a1.eval (.const x) = x := fun _ => rfl); (have ef : ∀ x, a1.eval (.func x) = .func (.func x) #[] #[] := fun _ => rfl); generalize a1.eval = ρ at *
                clear h17 h18 h11
                go_simp <;> (intros; first | (exfalso; omega) | rfl | omega)
              · intro vs p hI hp
                have h19 : (vs 19) = .pointer (some ⟨bp, ofp + j, none⟩) := hp 19 (by simp [Lkp15])
                have h11 : (vs 11) = .bool false := hp 11 (by simp [Lkp15])
                have e61 : (Roll.putD Dkp15 vs [19, 11] b0).eval (.tmp 61) = .pointer (some ⟨bp, ofp + j, none⟩) := (Roll.eval_new 19 rfl (by decide) (by decide) (by omega)).trans h19
                clear hp hlv hN
                refine ⟨fun hg => ?_, fun hg => absurd h11 hg⟩
                clear hg
                unfold Roll.Goes
                simp only [Lkp15, List.getD_cons_zero, List.getD_cons_succ]
                generalize Roll.putD Dkp15 vs [19, 11] b0 = a1 at *
                have cf : p.cell? ⟨bp, ofp + j, none⟩ = some (.slice sa sl sc) := (hI.cell (p := ⟨bp, ofp + j, none⟩) HBP.out.1).trans HBP.out.2
                refine Roll.goes_val (w' := p) (.slice sa sl sc) rfl ?_ ⟨hI, Below.refl _ _, rfl⟩
                (have ec : ∀ x, a1.eval (.const x) = x := fun _ => rfl); (have ef : ∀ x, a1.eval (.func x) = .func (.func x) #[] #[] := fun _ => rfl); generalize a1.eval = ρ at *
                clear h19 h11
                go_simp <;> (intros; first | (exfalso; omega) | rfl | omega)
              · intro vs p hI hp
                have h20 : (vs 20) = .slice sa sl sc := hp 20 (by simp [Lkp15])
                have h11 : (vs 11) = .bool false := hp 11 (by simp [Lkp15])
                have e62 : (Roll.putD Dkp15 vs [20, 11] b0).eval (.tmp 62) = .slice sa sl sc := (Roll.eval_new 20 rfl (by decide) (by decide) (by omega)).trans h20
                clear hp hlv hN
                refine ⟨fun hg => ?_, fun hg => absurd h11 hg⟩
                clear hg
                unfold Roll.Goes
                simp only [Lkp15, List.getD_cons_zero, List.getD_cons_succ]
                generalize Roll.putD Dkp15 vs [20, 11] b0 = a1 at *
                refine Roll.goes_val (w' := p) (.int .i64 (sl : Int)) rfl ?_ ⟨hI, Below.refl _ _, rfl⟩
                (have ec : ∀ x, a1.eval (.const x) = x := fun _ => rfl); (have ef : ∀ x, a1.eval (.func x) = .func (.func x) #[] #[] := fun _ => rfl); generalize a1.eval = ρ at *
                clear h20 h11
                go_simp <;> (intros; first | (exfalso; omega) | rfl | omega)
              · intro vs p hI hp
                have h16 : (vs 16) = .int .i64 (sl : Int) := hp 16 (by simp [Lkp15])
                have h21 : (vs 21) = .int .i64 (sl : Int) := hp 21 (by simp [Lkp15])
                have h11 : (vs 11) = .bool false := hp 11 (by simp [Lkp15])
                have e58 : (Roll.putD Dkp15 vs [16, 21, 11] b0).eval (.tmp 58) = .int .i64 (sl : Int) := (Roll.eval_new 16 rfl (by decide) (by decide) (by omega)).trans h16
                have e63 : (Roll.putD Dkp15 vs [16, 21, 11] b0).eval (.tmp 63) = .int .i64 (sl : Int) := (Roll.eval_new 21 rfl (by decide) (by decide) (by omega)).trans h21
                clear hp hlv hN
                refine ⟨fun hg => ?_, fun hg => absurd h11 hg⟩
                clear hg
                unfold Roll.Goes
                simp only [Lkp15, List.getD_cons_zero, List.getD_cons_succ]
                generalize Roll.putD Dkp15 vs [16, 21, 11] b0 = a1 at *
                refine Roll.goes_val (w' := p) (.bool false) rfl ?_ ⟨hI, Below.refl _ _, rfl⟩
                (have ec : ∀ x, a1.eval (.const x) = x := fun _ => rfl); (have ef : ∀ x, a1.eval (.func x) = .func (.func x) #[] #[] := fun _ => rfl); generalize a1.eval = ρ at *
                clear h16 h21 h11
                go_simp <;> (intros; first | (exfalso; omega) | rfl | omega)
              · intro vs p hI hp
                have h11 : (vs 11) = .bool false := hp 11 (by simp [Lkp15])
                have h22 : (vs 22) = .bool false := hp 22 (by simp [Lkp15])
                have e53 : (Roll.putD Dkp15 vs [11, 22] b0).eval (.tmp 53) = .bool false := (Roll.eval_new 11 rfl (by decide) (by decide) (by omega)).trans h11
                have e64 : (Roll.putD Dkp15 vs [11, 22] b0).eval (.tmp 64) = .bool false := (Roll.eval_new 22 rfl (by decide) (by decide) (by omega)).trans h22
                clear hp hlv hN
                unfold Roll.Goes
                simp only [Lkp15, List.getD_cons_zero, List.getD_cons_succ]
                generalize Roll.putD Dkp15 vs [11, 22] b0 = a1 at *
                refine Roll.goes_val (w' := p) (.bool false) rfl ?_ ⟨hI, Below.refl _ _, rfl⟩
                (have ec : ∀ x, a1.eval (.const x) = x := fun _ => rfl); (have ef : ∀ x, a1.eval (.func x) = .func (.func x) #[] #[] := fun _ => rfl); generalize a1.eval = ρ at *
                clear h11 h22
                go_simp <;> (intros; first | (exfalso; omega) | rfl | omega)
            · intro vs p hI hR
              have h0 : (vs 0) = .slice (some ⟨ba, ofa, none⟩) i ca := hR 0 (by omega)
              have h1 : (vs 1) = .int .i64 (j : Int) := hR 1 (by omega)
              have h2 : (vs 2) = .pointer (some ⟨ba, ofa + j, none⟩) := hR 2 (by omega)
              have h3 : (vs 3) = .pointer (some ⟨gj, 0, none⟩) := hR 3 (by omega)
              have h4 : PR p (vs 4) (treeL tj) := hR 4 (by omega)
              have h5 : (vs 5) = .slice (some ⟨bp, ofp, none⟩) i cp := hR 5 (by omega)
              have h6 : (vs 6) = .int .i64 (j : Int) := hR 6 (by omega)
              have h7 : (vs 7) = .pointer (some ⟨bp, ofp + j, none⟩) := hR 7 (by omega)
              have h8 : (vs 8) = .slice sa sl sc := hR 8 (by omega)
              have h9 : (vs 9) = .bool true := hR 9 (by omega)
              have h10 : (vs 10) = .bool false := hR 10 (by omega)
              have h11 : (vs 11) = .bool false := hR 11 (by omega)
              have h12 : (vs 12) = .slice (some ⟨ba, ofa, none⟩) i ca := hR 12 (by omega)
              have h13 : (vs 13) = .int .i64 (j : Int) := hR 13 (by omega)
              have h14 : (vs 14) = .pointer (some ⟨ba, ofa + j, none⟩) := hR 14 (by omega)
              have h15 : (vs 15) = .pointer (some ⟨gj, 0, none⟩) := hR 15 (by omega)
              have h16 : (vs 16) = .int .i64 (sl : Int) := hR 16 (by omega)
              have h17 : (vs 17) = .slice (some ⟨bp, ofp, none⟩) i cp := hR 17 (by omega)
              have h18 : (vs 18) = .int .i64 (j : Int) := hR 18 (by omega)
              have h19 : (vs 19) = .pointer (some ⟨bp, ofp + j, none⟩) := hR 19 (by omega)
              have h20 : (vs 20) = .slice sa sl sc := hR 20 (by omega)
              have h21 : (vs 21) = .int .i64 (sl : Int) := hR 21 (by omega)
              have h22 : (vs 22) = .bool false := hR 22 (by omega)
              have h23 : (vs 23) = .bool false := hR 23 (by omega)
              clear hR
              simp only [List.range_succ, List.range_zero, List.nil_append, List.cons_append, Roll.putD, Act.put, List.getD_cons_zero, List.getD_cons_succ, List.setIfInBounds_toArray, List.set_cons_zero, List.set_cons_succ, List.drop_succ_cons, List.drop_zero, Dkp15]
              simp only [h0, h1, h2, h3, h5, h6, h7, h8, h9, h10, h11, h12, h13, h14, h15, h16, h17, h18, h19, h20, h21, h22, h23]
              clear h0 h1 h2 h3 h5 h6 h7 h8 h9 h10 h11 h12 h13 h14 h15 h16 h17 h18 h19 h20 h21 h22 h23
              clear h4
              have HBf : Hid (Below wX.heap.size wX p) := Lib.hid (HB.out.trans (hI.mono HB.out.size))
              clear hI
              apply wpList_nil
              go_step
              go_step
              go_wp2_with fail
              go_roundw
              case rel => exact ⟨j + 1, rfl, by have := HJ.out; omega, HBf.out⟩
              case measure => (try go_num); (try (simp only [intOf])); have := HJ.out; omega
          · have hlt2 : ¬ (j : Int) < (i : Int) := by omega
            have HBL : Hid (Below w.heap.size w q) := Lib.hid (HKI.out.bl.trans (HB.out.mono HKI.out.bl.size))
            clear hjl
            go_wp2_with (go_at_call 19; refine (lives_any _).mono ?_; rintro e w8 ⟨rfl, hb8⟩)
            go_ret
            exact ⟨rfl, HBL.out.trans (hb8.mono HBL.out.size)⟩
end Go.Proofs.Ytfgmhidgkemfoaa

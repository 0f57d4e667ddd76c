/-
  Worlds in which several things lie apart from each other; what the disk's methods do to them.
-/
import Derived.Test.YtbnodhcgdgcebaaT2
namespace Go.Proofs.Ytbnodhcgdgcebaa
open Go.RowKit
set_option linter.unusedSimpArgs false
set_option linter.unusedVariables false
/-- a thing in memory, in some blocks -/
structure Obj where
  at' : (Nat → Prop) → World → Prop
  kept : ∀ {B S : Nat → Prop} {w w' : World}, at' B w → Kept S w w' → (∀ j, j < w.heap.size → B j → ¬ S j) → at' B w'
/-- these things lie apart from each other, in blocks that are newer than w0; nothing of w0 has changed -/
def Lv (w0 w : World) (L : List Obj) : Prop :=
  Below w0.heap.size w0 w ∧ ∃ Bs : List (Nat → Prop), Bs.length = L.length ∧ (∀ (i : Nat) (o : Obj) (B : Nat → Prop), L[i]? = some o → Bs[i]? = some B → o.at' B w ∧ ∀ j, B j → w0.heap.size ≤ j ∧ j < w.heap.size) ∧
    ∀ (i j : Nat) (A B : Nat → Prop), i ≠ j → Bs[i]? = some A → Bs[j]? = some B → ∀ x, A x → ¬ B x
theorem Lv.refl (w : World) : Lv w w [] := ⟨Below.refl _ _, [], rfl, fun _ _ _ h => (by cases h), fun _ _ _ _ _ h => (by cases h)⟩
theorem Lv.args {w0 w : World} {L : List Obj} (h : Lv w0 w L) : Below w0.heap.size w0 w := h.1
theorem Lv.size {w0 w : World} {L : List Obj} (h : Lv w0 w L) : w0.heap.size ≤ w.heap.size := h.1.size
theorem Lv.below {w0 w w' : World} {L : List Obj} (h : Lv w0 w L) (hb : Below w.heap.size w w') : Lv w0 w' L := by
  obtain ⟨h1, Bs, h2, h3, h4⟩ := h
  refine ⟨h1.trans (hb.mono h1.size), Bs, h2, fun i o B hi hB => ?_, h4⟩
  obtain ⟨e1, e2⟩ := h3 i o B hi hB
  exact ⟨o.kept e1 (Kept.of_below (fun _ => False) hb) (fun _ _ _ h => h), fun j hj => ⟨(e2 j hj).1, Nat.lt_of_lt_of_le (e2 j hj).2 hb.size⟩⟩
theorem Lv.cons {w0 w w' : World} {L : List Obj} (h : Lv w0 w L) (hb : Below w.heap.size w w') {o : Obj} {B : Nat → Prop} (ho : o.at' B w') (hB : ∀ j, B j → w.heap.size ≤ j ∧ j < w'.heap.size) : Lv w0 w' (o :: L) := by
  have hsz := h.size
  obtain ⟨k1, k2, k3, k4, k5⟩ := h
  have h' : Lv w0 w' L := Lv.below ⟨k1, k2, k3, k4, k5⟩ hb
  obtain ⟨h1, _⟩ := h'
  refine ⟨h1, B :: k2, by simp [k3], fun i o' B' hi hB' => ?_, fun i j A B' hij hA hB' x hx hx2 => ?_⟩
  · cases i with
    | zero => cases hi; cases hB'; exact ⟨ho, fun j hj => ⟨Nat.le_trans hsz (hB j hj).1, (hB j hj).2⟩⟩
    | succ i =>
      obtain ⟨e1, e2⟩ := k4 i o' B' hi hB'
      exact ⟨o'.kept e1 (Kept.of_below (fun _ => False) hb) (fun _ _ _ h => h), fun j hj => ⟨(e2 j hj).1, Nat.lt_of_lt_of_le (e2 j hj).2 hb.size⟩⟩
  · have old : ∀ (i : Nat) (C : Nat → Prop) (x : Nat), k2[i]? = some C → C x → x < w.heap.size := by
      intro i C x hC hx
      have hi : i < L.length := by rw [← k3]; exact (List.getElem?_eq_some_iff.1 hC).1
      exact ((k4 i L[i] C (List.getElem?_eq_getElem hi) hC).2 x hx).2
    cases i with
    | zero =>
      cases j with
      | zero => exact hij rfl
      | succ j => cases hA; have := old j B' x hB' hx2; have := (hB x hx).1; omega
    | succ i =>
      cases j with
      | zero => cases hB'; have := old i A x hA hx; have := (hB x hx2).1; omega
      | succ j => exact k5 i j A B' (by omega) hA hB' x hx hx2
theorem Lv.get {w0 w : World} {L : List Obj} (h : Lv w0 w L) {i : Nat} {o : Obj} (hi : L[i]? = some o) : ∃ B, o.at' B w ∧ (∀ j, B j → w0.heap.size ≤ j ∧ j < w.heap.size) ∧
    (∀ j o2, j ≠ i → L[j]? = some o2 → ∃ B2, o2.at' B2 w ∧ ∀ x, B2 x → ¬ B x) ∧
    ∀ (w' : World) (o' : Obj) (B' : Nat → Prop), o'.at' B' w' → Kept B w w' → (∀ j, B' j → B j ∨ w.heap.size ≤ j) → (∀ j, B' j → j < w'.heap.size) → Lv w0 w' (L.set i o') := by
  obtain ⟨h1, Bs, h2, h3, h4⟩ := h
  have hil : i < L.length := (List.getElem?_eq_some_iff.1 hi).1
  have hB : Bs[i]? = some Bs[i] := List.getElem?_eq_getElem (by omega)
  obtain ⟨e1, e2⟩ := h3 i o _ hi hB
  refine ⟨Bs[i], e1, e2, fun j o2 hj ho2 => ?_, fun w' o' B' ho' hk hf hs => ⟨?_, Bs.set i B', by simp [h2], fun j o2 B2 hj hB2 => ?_, fun j k A C hjk hA hC x hx hx2 => ?_⟩⟩
  · have hjl : j < L.length := (List.getElem?_eq_some_iff.1 ho2).1
    have hBj : Bs[j]? = some Bs[j] := List.getElem?_eq_getElem (by omega)
    exact ⟨_, (h3 j o2 _ ho2 hBj).1, fun x hx hx2 => h4 j i _ _ hj hBj hB x hx hx2⟩
  · refine h1.trans (hk.below h1.size (fun j hj hb => ?_))
    have := (e2 j hb).1
    omega
  · have hjl : j < L.length := by have := (List.getElem?_eq_some_iff.1 hj).1; simpa using this
    rw [List.getElem?_set] at hj hB2
    by_cases e : i = j
    · subst e
      rw [if_pos rfl, if_pos hil] at hj
      rw [if_pos rfl, if_pos (by omega)] at hB2
      cases hj; cases hB2
      refine ⟨ho', fun x hx => ⟨?_, hs x hx⟩⟩
      rcases hf x hx with hx | hx
      · exact (e2 x hx).1
      · exact Nat.le_trans h1.size hx
    · rw [if_neg e] at hj hB2
      obtain ⟨k1, k2⟩ := h3 j o2 B2 hj hB2
      exact ⟨o2.kept k1 hk (fun x _ hx hx2 => h4 j i _ _ (fun e2 => e e2.symm) hB2 hB x hx hx2), fun x hx => ⟨(k2 x hx).1, Nat.lt_of_lt_of_le (k2 x hx).2 hk.size⟩⟩
  · have old : ∀ (i : Nat) (C : Nat → Prop) (x : Nat), Bs[i]? = some C → C x → x < w.heap.size := by
      intro i C x hC hx
      have hi : i < L.length := by rw [← h2]; exact (List.getElem?_eq_some_iff.1 hC).1
      exact ((h3 i L[i] C (List.getElem?_eq_getElem hi) hC).2 x hx).2
    rw [List.getElem?_set] at hA hC
    by_cases e : i = j
    · subst e
      rw [if_pos rfl, if_pos (by omega)] at hA
      rw [if_neg hjk] at hC
      cases hA
      rcases hf x hx with hx | hx
      · exact h4 _ k _ _ hjk hB hC x hx hx2
      · have := old k C x hC hx2; omega
    · rw [if_neg e] at hA
      by_cases e2 : i = k
      · subst e2
        rw [if_pos rfl, if_pos (by omega)] at hC
        cases hC
        rcases hf x hx2 with hx2 | hx2
        · exact h4 _ j _ _ e hB hA x hx2 hx
        · have := old j A x hA hx; omega
      · rw [if_neg e2] at hC
        exact h4 j k A C hjk hA hC x hx hx2
theorem Lv.tail {w0 w : World} {o : Obj} {L : List Obj} (h : Lv w0 w (o :: L)) : Lv w0 w L := by
  obtain ⟨h1, Bs, h2, h3, h4⟩ := h
  cases Bs with
  | nil => simp at h2
  | cons B Bs => exact ⟨h1, Bs, by simpa using h2, fun i o B hi hB => h3 (i + 1) o B hi hB, fun i j A C hij hA hC => h4 (i + 1) (j + 1) A C (by omega) hA hC⟩
theorem Lv.drop {w0 w : World} : ∀ (n : Nat) {L : List Obj}, Lv w0 w L → Lv w0 w (L.drop n)
  | 0, _, h => h
  | n + 1, [], h => h
  | n + 1, o :: L, h => Lv.drop n h.tail
theorem Lv.weaken {w0 w : World} {L : List Obj} (h : Lv w0 w L) {i : Nat} {o o' : Obj} (hi : L[i]? = some o) (hw : ∀ B, o.at' B w → o'.at' B w) : Lv w0 w (L.set i o') := by
  obtain ⟨B, h1, h2, _, h3⟩ := h.get hi
  exact h3 w o' B (hw B h1) (Kept.refl _ _) (fun j hj => .inl hj) (fun j hj => (h2 j hj).2)
/-- a disk -/
def diskO (g : Nat) (d : DM) : Obj := ⟨fun B w => ∃ gd gm row N, Dk w g gd gm row N d ∧ ∀ j, Blk g gd gm row j → B j, fun {B S w w'} h hk hs => by
  obtain ⟨gd, gm, row, N, h1, h2⟩ := h
  exact ⟨gd, gm, row, N, h1.kept hk (fun j hj => hs j (h1.lt j hj) (h2 j hj)), h2⟩⟩
/-- a slice of bytes -/
def bytesO (v : Value) (l : List UInt8) : Obj := ⟨fun B w => ∃ a c, v = .slice a l.length c ∧ Bs B w a l.length c l, fun {B S w w'} h hk hs => by
  obtain ⟨a, c, h1, h2⟩ := h
  exact ⟨a, c, h1, h2.kept hk hs⟩⟩
/-- a slice of elements that say what survives -/
def tornO (v : Value) (ts : List TM) : Obj := ⟨fun B w => ∃ a c, v = .slice a ts.length c ∧ Ts B w a ts.length c ts, fun {B S w w'} h hk hs => by
  obtain ⟨a, c, h1, h2⟩ := h
  exact ⟨a, c, h1, h2.kept hk hs⟩⟩
theorem Dk.bound {w : World} {g gd gm : Nat} {row : Nat → Option Nat} {N M : Nat} {d : DM} (h : Dk w g gd gm row N d) (hM : d.Ok M) : Dk w g gd gm row M d := ⟨hM, h.self, h.map, h.dom, h.inj, h.apart⟩
section
variable {w0 w : World} {L : List Obj} {g i : Nat} {d : DM}
theorem new_lv (h : Lv w0 w L) (n : Nat) (h1 : 1 ≤ n) (h2 : n ≤ 4096) :
    Calls Try.prog 19 #[.int .i64 (n : Int)] w fun e w' => ∃ g, e = .returned (.tuple #[.pointer (some ⟨g, 0, none⟩), .int .i64 0]) ∧ Lv w0 w' (diskO g (DM.new n) :: L) := by
  refine (new_any n w h1 h2).mono ?_
  rintro e w' ⟨g, rfl, ⟨B, ⟨gd, gm, row, hd, hB, hlt⟩, hge⟩, hg, hb⟩
  exact ⟨g, rfl, h.cons hb (B := B) ⟨gd, gm, row, 0, hd, hB⟩ (fun j hj => ⟨hge j hj, hlt j hj⟩)⟩
theorem len_lv (h : Lv w0 w L) (hi : L[i]? = some (diskO g d)) :
    Calls Try.prog 20 #[.pointer (some ⟨g, 0, none⟩)] w fun e w' => e = .returned (.int .i64 (d.S.length : Int)) ∧ w = w' := by
  obtain ⟨B, ⟨gd, gm, row, N, hd, _⟩, _⟩ := h.get hi
  exact len_dk hd
theorem on_lv (h : Lv w0 w L) (hi : L[i]? = some (diskO g d)) :
    Calls Try.prog 34 #[.pointer (some ⟨g, 0, none⟩)] w fun e w' => e = .returned (.bool d.on) ∧ w = w' := by
  obtain ⟨B, ⟨gd, gm, row, N, hd, _⟩, _⟩ := h.get hi
  exact on_dk hd
theorem Lv.ok (h : Lv w0 w L) (hi : L[i]? = some (diskO g d)) : 1 ≤ d.S.length ∧ d.S.length ≤ 4096 ∧ d.fuse ≤ 9223372036854775807 ∧ ∀ s ∈ d.S, s ≠ [] ∧ ∀ b ∈ s, b.length = 64 := by
  obtain ⟨B, ⟨gd, gm, row, N, hd, _⟩, _⟩ := h.get hi
  exact ⟨hd.ok.1, hd.ok.2.1, hd.ok.2.2.1, fun s hs => ⟨(hd.ok.2.2.2 s hs).1, (hd.ok.2.2.2 s hs).2.2⟩⟩
theorem read_lv (h : Lv w0 w L) (hi : L[i]? = some (diskO g d)) (k : Nat) (hk : k < d.S.length) (ho : d.on = true) :
    Calls Try.prog 21 #[.pointer (some ⟨g, 0, none⟩), .int .i64 (k : Int)] w fun e w' => ∃ v, e = .returned (.tuple #[v, .int .i64 0]) ∧ Lv w0 w' (bytesO v (lastB d.S[k]) :: L) := by
  obtain ⟨B, ⟨gd, gm, row, N, hd, _⟩, _⟩ := h.get hi
  refine (read_ok hd k hk ho).mono ?_
  rintro e w' ⟨v, rfl, gb, rfl, hge, hbs, hb⟩
  refine ⟨_, rfl, h.cons hb (B := fun b => b = gb) ⟨_, _, rfl, hbs⟩ ?_⟩
  rintro j rfl
  refine ⟨hge, ?_⟩
  obtain ⟨hl, _, _, _, _, hp⟩ := hbs
  have h64 := (h.ok hi).2.2.2 _ (List.getElem_mem hk)
  have hl64 := h64.2 _ (lastB_mem h64.1)
  obtain ⟨b, off, rfl, _, hr⟩ := hp (by omega)
  exact range_lt hr (by rw [vals_len]; omega)
theorem read_lv_off (h : Lv w0 w L) (hi : L[i]? = some (diskO g d)) (k : Int) (hk : hasB d k = true) (ho : d.on = false) :
    Calls Try.prog 21 #[.pointer (some ⟨g, 0, none⟩), .int .i64 k] w fun e w' => e = .returned (.tuple #[.slice none 0 0, .int .i64 10]) ∧ w = w' := by
  obtain ⟨B, ⟨gd, gm, row, N, hd, _⟩, _⟩ := h.get hi
  exact read_off hd k hk ho
theorem read_lv_no (h : Lv w0 w L) (hi : L[i]? = some (diskO g d)) (k : Int) (hk : hasB d k = false) :
    Calls Try.prog 21 #[.pointer (some ⟨g, 0, none⟩), .int .i64 k] w fun e w' => e = .returned (.tuple #[.slice none 0 0, .int .i64 5]) ∧ w = w' := by
  obtain ⟨B, ⟨gd, gm, row, N, hd, _⟩, _⟩ := h.get hi
  exact read_no hd k hk
theorem write_lv_off (h : Lv w0 w L) (hi : L[i]? = some (diskO g d)) (a : Option Addr) (c : Nat) (k : Int) (hk : hasB d k = true) (ho : d.on = false) :
    Calls Try.prog 31 #[.pointer (some ⟨g, 0, none⟩), .int .i64 k, .slice a 64 c] w fun e w' => e = .returned (.int .i64 10) ∧ w = w' := by
  obtain ⟨B, ⟨gd, gm, row, N, hd, _⟩, _⟩ := h.get hi
  exact write_off hd a c k hk ho
theorem write_lv_no (h : Lv w0 w L) (hi : L[i]? = some (diskO g d)) (a : Option Addr) (c : Nat) (k : Int) (hk : hasB d k = false) :
    Calls Try.prog 31 #[.pointer (some ⟨g, 0, none⟩), .int .i64 k, .slice a 64 c] w fun e w' => e = .returned (.int .i64 5) ∧ w = w' := by
  obtain ⟨B, ⟨gd, gm, row, N, hd, _⟩, _⟩ := h.get hi
  exact write_no hd a c k hk
theorem write_lv (h : Lv w0 w L) (hi : L[i]? = some (diskO g d)) {Z : Nat → Prop} {a : Option Addr} {c : Nat} {l : List UInt8} (hB : Bs Z w a 64 c l) (k : Nat) (hk : k < d.S.length) (ho : d.on = true) (hN : d.Ok 100000) :
    Calls Try.prog 31 #[.pointer (some ⟨g, 0, none⟩), .int .i64 (k : Int), .slice a 64 c] w fun e w' => e = .returned (.int .i64 0) ∧ Lv w0 w' (L.set i (diskO g (d.write k l))) := by
  obtain ⟨B, ⟨gd, gm, row, N, hd, hBB⟩, hlt, _, hset⟩ := h.get hi
  refine (write_ok (hd.bound hN) hB k hk ho (Nat.le_refl _)).mono ?_
  rintro e w' ⟨rfl, row', hd', hk', hf⟩
  refine ⟨rfl, hset w' _ (fun j => Blk g gd gm row' j) ⟨gd, gm, row', _, hd', fun _ h => h⟩ (hk'.mono (fun j _ hj => hBB j hj)) (fun j hj => (hf j hj).imp (hBB j) id) (fun j hj => hd'.lt j hj)⟩
theorem flush_lv (h : Lv w0 w L) (hi : L[i]? = some (diskO g d)) (ho : d.on = true) :
    Calls Try.prog 30 #[.pointer (some ⟨g, 0, none⟩)] w fun e w' => e = .returned (.int .i64 0) ∧ Lv w0 w' (L.set i (diskO g d.flush)) := by
  obtain ⟨B, ⟨gd, gm, row, N, hd, hBB⟩, hlt, _, hset⟩ := h.get hi
  refine (flush_ok hd ho).mono ?_
  rintro e w' ⟨rfl, hd', hk'⟩
  refine ⟨rfl, hset w' _ (fun j => Blk g gd gm (fun _ => none) j) ⟨gd, gm, _, _, hd', fun _ h => h⟩ (hk'.mono (fun j _ hj => hBB j hj)) ?_ (fun j hj => hd'.lt j hj)⟩
  rintro j (e | e | e | ⟨_, e⟩)
  · exact .inl (hBB j (.inl e))
  · exact .inl (hBB j (.inr (.inl e)))
  · exact .inl (hBB j (.inr (.inr (.inl e))))
  · cases e
theorem flush_lv_off (h : Lv w0 w L) (hi : L[i]? = some (diskO g d)) (ho : d.on = false) :
    Calls Try.prog 30 #[.pointer (some ⟨g, 0, none⟩)] w fun e w' => e = .returned (.int .i64 10) ∧ w = w' := by
  obtain ⟨B, ⟨gd, gm, row, N, hd, hBB⟩, hlt, _, hset⟩ := h.get hi
  exact flush_off hd ho
theorem fuse_lv (h : Lv w0 w L) (hi : L[i]? = some (diskO g d)) (n : Int) (h1 : -9223372036854775808 ≤ n) (h2 : n ≤ 9223372036854775807) :
    Calls Try.prog 29 #[.pointer (some ⟨g, 0, none⟩), .int .i64 n] w fun e w' => e = .returned (.tuple #[]) ∧ Lv w0 w' (L.set i (diskO g (d.setFuse n))) := by
  obtain ⟨B, ⟨gd, gm, row, N, hd, hBB⟩, hlt, _, hset⟩ := h.get hi
  refine (fuse_dk hd n h1 h2).mono ?_
  rintro e w' ⟨rfl, hd', hk'⟩
  exact ⟨rfl, hset w' _ (fun j => Blk g gd gm row j) ⟨gd, gm, row, _, hd', fun _ h => h⟩ (hk'.mono (fun j _ hj => hBB j (.inl hj))) (fun j hj => .inl (hBB j hj)) (fun j hj => hd'.lt j hj)⟩
theorem restart_lv (h : Lv w0 w L) (hi : L[i]? = some (diskO g d)) {Z : Nat → Prop} {a : Option Addr} {n c : Nat} {ts : List TM} (hT : Ts Z w a n c ts) (hZ : (∀ x, Z x → x < w0.heap.size) ∨ ∃ j v, j ≠ i ∧ L[j]? = some (tornO v ts) ∧ v = .slice a n c) :
    Calls Try.prog 27 #[.pointer (some ⟨g, 0, none⟩), .slice a n c] w fun e w' => e = .returned (.tuple #[]) ∧ Lv w0 w' (L.set i (diskO g (d.restart ts))) := by
  obtain ⟨B, ⟨gd, gm, row, N, hd, hBB⟩, hlt, hoth, hset⟩ := h.get hi
  have key : ∃ Z', Ts Z' w a n c ts ∧ ∀ j, Z' j → ¬ Blk g gd gm row j := by
    rcases hZ with hZ | ⟨j, v, hj, hv, rfl⟩
    · exact ⟨Z, hT, fun j hz hb => by have := hZ j hz; have := (hlt j (hBB j hb)).1; omega⟩
    · obtain ⟨B2, ⟨a2, c2, e, hT2⟩, hne⟩ := hoth j _ hj hv
      have e2 := e
      injection e2 with e3 e4 e5
      subst e3 e5
      rw [hT.1] at hT2
      exact ⟨B2, hT2, fun x hx hb => hne x hx (hBB x hb)⟩
  obtain ⟨Z', hT', hsep⟩ := key
  refine (restart_dk hd hT' hsep).mono ?_
  rintro e w' ⟨rfl, hd', hk'⟩
  refine ⟨rfl, hset w' _ (fun j => Blk g gd gm (fun _ => none) j) ⟨gd, gm, _, _, hd', fun _ h => h⟩ (hk'.mono (fun j _ hj => hBB j hj)) ?_ (fun j hj => hd'.lt j hj)⟩
  rintro j (e | e | e | ⟨_, e⟩)
  · exact .inl (hBB j (.inl e))
  · exact .inl (hBB j (.inr (.inl e)))
  · exact .inl (hBB j (.inr (.inr (.inl e))))
  · cases e
theorem Ts.nil (w : World) : Ts (fun _ => False) w none 0 0 [] := ⟨rfl, Sl.empty _ _ _ _ _ (Nat.zero_le _) (fun _ => rfl), fun _ h => (by cases h)⟩
theorem restart_nil_lv (h : Lv w0 w L) (hi : L[i]? = some (diskO g d)) :
    Calls Try.prog 27 #[.pointer (some ⟨g, 0, none⟩), .slice none 0 0] w fun e w' => e = .returned (.tuple #[]) ∧ Lv w0 w' (L.set i (diskO g (d.restart []))) :=
  restart_lv h hi (Ts.nil w) (.inl (fun _ h => h.elim))
theorem clone_lv (h : Lv w0 w L) (hi : L[i]? = some (diskO g d)) (hN : d.Ok 100000) :
    Calls Try.prog 37 #[.pointer (some ⟨g, 0, none⟩)] w fun e w' => ∃ gc, e = .returned (.pointer (some ⟨gc, 0, none⟩)) ∧ Lv w0 w' (diskO gc d :: L) := by
  obtain ⟨B, ⟨gd, gm, row, N, hd, hBB⟩, hlt, _, hset⟩ := h.get hi
  refine (clone_dk (hd.bound hN) (Nat.le_refl _)).mono ?_
  rintro e w' ⟨gc, rfl, ⟨gdc, gmc, rowc, hdc, hge⟩, hb⟩
  exact ⟨gc, rfl, h.cons hb (B := Blk gc gdc gmc rowc) ⟨gdc, gmc, rowc, _, hdc, fun _ h => h⟩ (fun j hj => ⟨hge j hj, hdc.lt j hj⟩)⟩
/-- bytes of a thing -/
theorem Lv.bytes (h : Lv w0 w L) {v : Value} {l : List UInt8} (hi : L[i]? = some (bytesO v l)) : ∃ Z a c, v = .slice a l.length c ∧ Bs Z w a l.length c l := by
  obtain ⟨B, ⟨a, c, h1, h2⟩, _⟩ := h.get hi
  exact ⟨B, a, c, h1, h2⟩
end
end Go.Proofs.Ytbnodhcgdgcebaa

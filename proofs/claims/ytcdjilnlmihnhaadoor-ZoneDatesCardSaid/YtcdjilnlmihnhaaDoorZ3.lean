/-
  Loops over a zone's segments (written by gen_Z3.py).
-/
import Derived.Test.YtcdjilnlmihnhaaDoorZ2
namespace Go.Proofs.YtcdjilnlmihnhaaDoor
open Go.RowKit Go.Shelf
set_option linter.unusedSimpArgs false
set_option linter.unusedVariables false
theorem yield_any {P : Program} {l m m' : Nat} {args : Array Value} {W : World} {R : Ending → World → Prop} (h : YieldAt Fence.wide m P l args W R) : YieldAt Fence.wide m' P l args W R := by
  obtain ⟨fn, tmps, assign, body, hy, h1, h2⟩ := h
  exact ⟨fn, tmps, assign, body, hy, h1, fun c cs _ => h2 c cs (room_wide _)⟩
/-- the record of a loop -/
def recZ (fn : FuncId) (a : Act) (p : Tmp) (assign body : Code) (D : Nat) (st : LoopState) (pe : Option Code) : Loop :=
  { state := st, pending := pe, fn := fn, tmps := a.tmps, params := #[p], assign := assign, body := body, defers := D }
/-- the book-keeping of a loop in a world -/
def Keep (w : World) (r : Loop) (W : World) : Prop := W.heap[w.heap.size + 1]? = some (.loop r) ∧ W.heap[w.heap.size]? = some (.deferred (some []))
theorem Keep.lt {w W : World} {r : Loop} (h : Keep w r W) : w.heap.size + 1 < W.heap.size := (Array.getElem?_eq_some_iff.1 h.1).1
theorem Keep.put {w W : World} {r : Loop} (h : Keep w r W) (r' : Loop) : Keep w r' (W.putObj (w.heap.size + 1) (.loop r')) :=
  ⟨World.putObj_heap_same h.lt, (World.putObj_heap_other (by omega)).trans h.2⟩
theorem Keep.from {w W W' : World} {r : Loop} (h : Keep w r W) (hk : KeepsFrom w.heap.size W W') : Keep w r W' := ⟨hk.same _ _ (by omega) h.1 rfl, hk.same _ _ (Nat.le_refl _) h.2 rfl⟩
theorem Keep.stp {w W : World} {r : Loop} (h : Keep w r W) (r' : Loop) : Stp w.heap.size W (W.putObj (w.heap.size + 1) (.loop r')) := Stp.putObj _ (by omega) h.1 rfl
theorem Keep.kz {w W : World} {r : Loop} {n₀ : Nat} (h : Keep w r W) (hn : n₀ ≤ w.heap.size) (r' : Loop) : KZ n₀ W (W.putObj (w.heap.size + 1) (.loop r')) := KZ.putObj hn _ _ _ _ (by omega) h.1 rfl
/-- a loop over the segments of a zone -/
theorem range_segs {n : Nat} {g : Operand} {p : Tmp} {assign body : Code} {Q : Exit → Act → World → Prop} {a : Act} {w : World} {n₀ bz : Nat} {o : Int} {ad : Option Addr} {nn c : Nat} {L : List SM}
    (hg : a.eval g = .func (.func 31) #[] #[.pointer (some ⟨bz, 0, none⟩)])
    (hz : ZI n₀ w bz o ad nn c L) (hn₀ : n₀ ≤ w.heap.size) (I : List SgM → World → Prop) (Ix : Code → List SgM → World → Prop)
    (hI : ∀ s X Y, I s X → Stp w.heap.size X Y → I s Y) (hIx : ∀ j s X Y, Ix j s X → Stp w.heap.size X Y → Ix j s Y) (h0 : I [] w)
    (Ax : SgM → Act → World → Prop) (hAx : ∀ x a' X l r r', Ax x a' X → w.heap.size ≤ l → X.heap[l]? = some (.loop r) → Ax x a' (X.putObj l (.loop r')))
    (hassign : ∀ (l : Nat) (pre : List SgM) (x : SgM) (W : World) (K : Act → World → Prop), I pre W → w.heap.size ≤ W.heap.size → (∀ a' W', KeepsFrom w.heap.size W W' → KZ n₀ W W' → I pre W' → Ax x a' W' → K a' W') →
      assign.wpIn (Fence.wide.inRound l) (n - 1 - 1) Tryd.prog (Exit.then K (fun _ _ _ => False)) { tmps := a.tmps.setIfInBounds p (segV x), defers := [] } W)
    (hbody : ∀ (l : Nat) (pre : List SgM) (x : SgM) (a' : Act) (W : World), w.heap.size ≤ l → I pre W → Ax x a' W → pre ++ [x] <+: segL minI o L → body.wpIn (Fence.wide.inRound l) (n - 1 - 1) Tryd.prog (ownPostG w.heap.size (KZ n₀) I Ix (pre ++ [x]) W) a' W)
    (hdone : ∀ (D : Nat) (W : World), w.heap.size ≤ D → I (segL minI o L) W → W.heap[D]? = some (.deferred (some [])) → Q .normal { a with defers := { target := .collected D, args := #[] } :: a.defers } W)
    (hstop : ∀ (D : Nat) (j : Code) (pre : List SgM) (W : World), w.heap.size ≤ D → pre <+: segL minI o L → Ix j pre W → W.heap[D]? = some (.deferred (some [])) → j.wpIn Fence.wide n Tryd.prog Q { a with defers := { target := .collected D, args := #[] } :: a.defers } W) :
    (Code.rangeFunc g #[p] assign body).wpIn Fence.wide n Tryd.prog Q a w := by
  refine wpIn_rangeFunc fun fn _ => ?_
  obtain ⟨R, hR⟩ : ∃ R : LoopState → Option Code → Loop, R = recZ fn a p assign body w.heap.size := ⟨_, rfl⟩
  obtain ⟨W1, hW1⟩ : ∃ W1, W1 = (w.alloc (.deferred (some []))).alloc (.loop (R .ready none)) := ⟨_, rfl⟩
  have hb1 : Below w.heap.size w W1 := by rw [hW1]; exact ((Below.refl _ w).alloc (Nat.le_refl _) _).alloc (by simp) _
  have hk1 : Keep w (R .ready none) W1 := by
    refine ⟨?_, ?_⟩
    · rw [hW1]; have := World.alloc_heap_new (w.alloc (.deferred (some []))) (.loop (R .ready none)); rwa [World.size_alloc] at this
    · rw [hW1]; exact (Below.heap_alloc _ _ _ (by simp)).trans (World.alloc_heap_new w _)
  have hs1 : Stp w.heap.size w W1 := .below hb1
  have hz1 := hz.stp hs1 hn₀
  refine ⟨w.heap.size + 1, [{ target := .collected w.heap.size, args := #[] }], W1, { target := .fn (.func 31) #[.pointer (some ⟨bz, 0, none⟩)], args := #[.func (.yield (w.heap.size + 1)) #[] #[]] }, W1, 31,
    #[.func (.yield (w.heap.size + 1)) #[] #[], .pointer (some ⟨bz, 0, none⟩)], W1, ?_, ?_, fun _ _ => trivial, ?_, (fun h => by cases h), ?_⟩
  · rw [hW1, hR]; exact run_enterLoop_outer _ _ _ _ _
  · simp only [resolve, hg]
    simp [go_sem]
  · simp [invoke, go_sem, enters_of Tryd.func31 (by kernel_rfl) rfl]
  · refine (segs_in (n - 1) (w.heap.size + 1) n₀ w.heap.size bz o ad nn c L (fun pre W => (I pre W ∧ w.heap.size ≤ W.heap.size) ∧ Keep w (R .ready none) W) (fun pre W => ∃ j, Ix j pre W ∧ Keep w (R .done (some j)) W) W1 hz1 hn₀ hb1.size
      (fun s X Y hs hit => ⟨⟨hI s X Y hs.1.1 hit.1, Nat.le_trans hs.1.2 hit.1.size⟩, hs.2.from (hit.2.from _)⟩) ?_ ⟨⟨hI _ _ _ h0 hs1, hb1.size⟩, hk1⟩).mono ?_
    · rintro pre x W ⟨⟨hi, hsz⟩, hk⟩ hlen
      have hy := run_yield (P := Tryd.prog) (args := #[segV x]) hk.1 (by rw [hR]; rfl)
      refine yield_any (m := n - 1 - 1) ⟨_, _, _, _, hy, roundIn_of_wpIn trivial ?_⟩
      have e1 : (R .ready none).assign = assign := by rw [hR]; rfl
      have e2 : (R .ready none).body = body := by rw [hR]; rfl
      have e3 : ((R .ready none).params.zip #[segV x]).foldl (fun tmps (t, a) => tmps.setIfInBounds t a) (R .ready none).tmps = a.tmps.setIfInBounds p (segV x) := by rw [hR]; simp [recZ]
      rw [e1, e2, e3]
      refine hassign _ pre x W _ hi hsz fun a' Wa hkf hka hia hax => ?_
      have hka' := hk.from hkf
      refine ⟨_, run_beginRound hka'.1 (by rw [hR]; rfl), ?_⟩
      have hkb := hka'.put { R .ready none with state := .busy }
      refine wpIn_mono (hbody _ pre x a' _ (by omega) (hI _ _ _ hia (hka'.stp _)) (hAx _ _ _ _ _ _ hax (by omega) hka'.1) hlen) ?_
      have fin : ∀ (j : Option Code) (W3 : World), KeepsFrom w.heap.size (Wa.putObj (w.heap.size + 1) (.loop { R .ready none with state := .busy })) W3 →
          ∃ W4, (Instr.endRound (w.heap.size + 1) j).run Tryd.prog W3 = .ok (.bool j.isNone) W4 ∧ Keep w (R (if j.isNone then .ready else .done) j) W4 ∧ Stp w.heap.size W3 W4 ∧ KZ n₀ W3 W4 := fun j W3 h3 => by
        have h4 := hkb.from h3
        exact ⟨_, run_endRound j h4.1, by rw [hR] at h4 ⊢; exact h4.put _, h4.stp _, h4.kz hn₀ _⟩
      rintro e a3 W3 hp
      cases e with
      | normal =>
        obtain ⟨h1, h2, h3⟩ := hp
        obtain ⟨W4, hr, hk4, hs4, hz4⟩ := fin none W3 h1
        exact ⟨_, W4, hr, .inl ⟨rfl, ⟨⟨hI _ _ _ h3 hs4, Nat.le_of_lt (by have := hk4.lt; omega)⟩, hk4⟩, hka.trans ((hka'.kz hn₀ _).trans (h2.trans hz4))⟩⟩
      | ret =>
        obtain ⟨h1, h3⟩ := hp
        obtain ⟨W4, hr, hk4, hs4, -⟩ := fin (some .ret) W3 h1
        exact ⟨_, W4, hr, .inr ⟨rfl, _, hIx _ _ _ _ h3 hs4, hk4⟩⟩
      | exit id =>
        obtain ⟨h1, h3⟩ := hp
        obtain ⟨W4, hr, hk4, hs4, -⟩ := fin (some (.exit id)) W3 h1
        exact ⟨_, W4, hr, .inr ⟨rfl, _, hIx _ _ _ _ h3 hs4, hk4⟩⟩
      | goto t =>
        obtain ⟨h1, h3⟩ := hp
        obtain ⟨W4, hr, hk4, hs4, -⟩ := fin (some (.goto t)) W3 h1
        exact ⟨_, W4, hr, .inr ⟨rfl, _, hIx _ _ _ _ h3 hs4, hk4⟩⟩
      | panic ch => exact hp.elim
      | outgrown => exact hp.elim
    · rintro e W2 ⟨⟨v, rfl⟩, (⟨⟨hi, -⟩, hk⟩ | ⟨pre, hpre, j, hi, hk⟩)⟩
      · refine ⟨none, _, ?_, hdone w.heap.size _ (Nat.le_refl _) (hI _ _ _ hi (hk.stp _)) (hk.put { R .ready none with state := .exhausted }).2⟩
        have := run_endLoop (P := Tryd.prog) hk.1 (by rw [hR]; simp [recZ])
        rw [hR] at this ⊢
        exact this
      · refine ⟨some j, _, ?_, hstop w.heap.size j pre _ (Nat.le_refl _) hpre (hIx _ _ _ _ hi (hk.stp _)) (hk.put { R .done (some j) with state := .exhausted }).2⟩
        have := run_endLoop (P := Tryd.prog) hk.1 (by rw [hR]; simp [recZ])
        rw [hR] at this ⊢
        exact this
end Go.Proofs.YtcdjilnlmihnhaaDoor

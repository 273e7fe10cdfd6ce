/-
  Sequences whose iterators lay blocks of their own: whoever goes through one leaves those alone. No program stands in it.
-/
import Derived.Test.YtkninlahlgipoaaDoorBase
namespace Go.Proofs.YtkninlahlgipoaaDoor
open Go.RowKit

/-- The blocks from B on stand, those of E aside. -/
structure Stands (B : Nat) (E : Nat → Prop) (W W' : World) : Prop where
  size : W.heap.size ≤ W'.heap.size
  same : ∀ b, B ≤ b → b < W.heap.size → ¬ E b → W'.heap[b]? = W.heap[b]?

/-- What is said with the blocks E beyond B (cells, all of them) minds nothing that happens beyond B outside of E. -/
def Away {α : Type} (B : Nat) (J : (Nat → Prop) → List α → World → Prop) : Prop :=
  (∀ E pre A C row, J E pre A → A.grownBy C row → (∀ r, row = some r → B ≤ r ∧ ¬ E r) → J E pre C) ∧
  (∀ E pre A, J E pre A → ∀ b, E b → ∃ o : Obj, A.heap[b]? = some o ∧ o.isCells = true)

/-- An iterator's word: it goes through xs, whoever goes through it. A round leaves alone whatever lies beyond W's blocks and is none of its own (E). -/
def SeqOwn {α : Type} (n : Nat) (P : Program) (g : Nat) (lb : Array Value) (encs : α → Array Value) (n₀ : Nat) (xs : List α) (w : World) : Prop :=
  ∀ (l : Nat) (J Jx : (Nat → Prop) → List α → World → Prop) (E₀ : Nat → Prop) (W : World), Below w.heap.size w W → Away W.heap.size J → Away W.heap.size Jx →
    (∀ E pre x W1, J E pre W1 → pre.length < xs.length → YieldAt Fence.wide (n - 1) P l (encs x) W1 fun e W' =>
      Stands W.heap.size E W1 W' ∧ ∃ E' : Nat → Prop, (∀ b, E' b → E b ∨ W1.heap.size ≤ b) ∧
        ((e = .returned (.bool true) ∧ J E' (pre ++ [x]) W' ∧ KeepsIv n₀ w.heap.size W1 W') ∨ (e = .returned (.bool false) ∧ Jx E' (pre ++ [x]) W'))) →
    J E₀ [] W →
    CallsIn Fence.wide n P g (#[.func (.yield l) #[] #[]] ++ lb) W fun e W' => (∃ v, e = .returned v) ∧ ((∃ E, J E xs W') ∨ ∃ E pre, pre <+: xs ∧ Jx E pre W')

theorem Away.walks {α : Type} {B : Nat} {J : (Nat → Prop) → List α → World → Prop} (h : Away B J) : AbidesFrom B (fun pre W => ∃ E, J E pre W) := by
  rintro pre A C row ⟨E, hE⟩ hg hr
  refine ⟨E, h.1 E pre A C row hE hg fun r e => ?_⟩
  obtain ⟨h1, o, ho, hw⟩ := hr r e
  refine ⟨h1, fun hEr => ?_⟩
  obtain ⟨o', ho', hc⟩ := h.2 E pre A hE r hEr
  rw [ho] at ho'; cases ho'
  rw [Obj.not_cells_of_walk hw] at hc; cases hc

theorem SeqOwn.of_stops {α : Type} {n : Nat} {P : Program} {g : Nat} {lb : Array Value} {encs : α → Array Value} {n₀ : Nat} {xs : List α} {w : World}
    (h : SeqStopsK Fence.wide n P g lb encs (KeepsIv n₀ w.heap.size) (fun ys => ys = xs) (fun pre => pre <+: xs) xs.length w) : SeqOwn n P g lb encs n₀ xs w := by
  intro l J Jx E₀ W hW hJ hJx hY h0
  refine (h l (fun pre W => ∃ E, J E pre W) (fun pre W => ∃ E, Jx E pre W) W hW hJ.walks hJx.walks (fun pre x W1 hJ1 hlt => ?_) ⟨E₀, h0⟩).mono ?_
  · obtain ⟨E, hE⟩ := hJ1
    refine (hY E pre x W1 hE hlt).mono ?_
    rintro e W' ⟨_, E', _, (⟨h1, h2, h3⟩ | ⟨h1, h2⟩)⟩
    · exact .inl ⟨h1, ⟨E', h2⟩, h3⟩
    · exact .inr ⟨h1, E', h2⟩
  · rintro e W' ⟨hv, (⟨ys, rfl, h2⟩ | ⟨pre, h1, E, h2⟩)⟩
    · exact ⟨hv, .inl h2⟩
    · exact ⟨hv, .inr ⟨E, pre, h1, h2⟩⟩

/-- A function value that goes through xs, as IsSeqK, its iterator's own blocks let alone. -/
def IsSeq {α : Type} (P : Program) (encs : α → Array Value) (n₀ : Nat) (w : World) (v : Value) (xs : List α) : Prop :=
  ∃ g lb, v = .func (.func g) #[] lb ∧ (∀ args w, (callFunc g args).run P w = .ok (.enter g args) w) ∧ ∀ n, 3 ≤ n → SeqOwn n P g lb encs n₀ xs w

theorem IsSeqK.seq {α : Type} {P : Program} {encs : α → Array Value} {n₀ : Nat} {w : World} {v : Value} {xs : List α} (h : IsSeqK P encs n₀ w v xs) : IsSeq P encs n₀ w v xs := by
  obtain ⟨g, lb, hv, he, hs⟩ := h
  exact ⟨g, lb, hv, he, fun n hn => (hs n (by omega) : SeqStopsK _ _ _ _ _ _ _ _ _ _ _) |> SeqOwn.of_stops⟩

theorem IsSeq.below {α : Type} {P : Program} {encs : α → Array Value} {n₀ : Nat} {w w' : World} {v : Value} {xs : List α} (h : IsSeq P encs n₀ w v xs) (hb : Below w.heap.size w w') : IsSeq P encs n₀ w' v xs := by
  obtain ⟨g, lb, hv, he, hs⟩ := h
  refine ⟨g, lb, hv, he, fun n hn l J Jx E₀ W hW hJ hJx hY h0 => hs n hn l J Jx E₀ W (hb.trans (hW.mono hb.size)) hJ hJx (fun E pre x W1 hJ1 hlt => ?_) h0⟩
  refine (hY E pre x W1 hJ1 hlt).mono ?_
  rintro e W' ⟨hst, E', hE', (⟨h1, h2, h3⟩ | h4)⟩
  · exact ⟨hst, E', hE', .inl ⟨h1, h2, h3.mono hb.size⟩⟩
  · exact ⟨hst, E', hE', .inr h4⟩

/-- How the body of a round may be left. -/
def seqPost {α : Type} (B n₀ n₁ : Nat) (I : (Nat → Prop) → List α → World → Prop) (Ix : Code → (Nat → Prop) → List α → World → Prop) (E : Nat → Prop) (ys : List α) (W : World) : Exit → Act → World → Prop
  | .normal, _, W' => Stands B E W W' ∧ KeepsIv n₀ n₁ W W' ∧ ∃ E' : Nat → Prop, (∀ b, E' b → E b ∨ W.heap.size ≤ b) ∧ I E' ys W'
  | .ret, _, W' => Stands B E W W' ∧ ∃ E' : Nat → Prop, (∀ b, E' b → E b ∨ W.heap.size ≤ b) ∧ Ix .ret E' ys W'
  | .exit id, _, W' => Stands B E W W' ∧ ∃ E' : Nat → Prop, (∀ b, E' b → E b ∨ W.heap.size ≤ b) ∧ Ix (.exit id) E' ys W'
  | .goto t, _, W' => Stands B E W W' ∧ ∃ E' : Nat → Prop, (∀ b, E' b → E b ∨ W.heap.size ≤ b) ∧ Ix (.goto t) E' ys W'
  | .panic _, _, _ => False
  | .outgrown, _, _ => False

theorem Away.put {α : Type} {B : Nat} {J : (Nat → Prop) → List α → World → Prop} (h : Away B J) {E : Nat → Prop} {ys : List α} {A : World} {b : Nat} (o : Obj) (hJ : J E ys A) (hb : B ≤ b) (hE : ¬ E b) : J E ys (A.putObj b o) :=
  h.1 _ _ _ _ _ hJ (grownBy_putObj' A b o) fun r e => by cases e; exact ⟨hb, hE⟩
theorem Away.new {α : Type} {B : Nat} {J : (Nat → Prop) → List α → World → Prop} (h : Away B J) {E : Nat → Prop} {ys : List α} {A : World} (o : Obj) (hJ : J E ys A) : J E ys (A.alloc o) :=
  h.1 _ _ _ _ _ hJ (World.grownBy_alloc A o none) fun r e => by cases e
/-- What holds no cells is none of E. -/
theorem Away.none {α : Type} {B : Nat} {J : (Nat → Prop) → List α → World → Prop} (h : Away B J) {E : Nat → Prop} {ys : List α} {A : World} (hJ : J E ys A) {b : Nat} {o : Obj} (ho : A.heap[b]? = some o) (hc : o.isCells = false) : ¬ E b := fun hE => by
  obtain ⟨o', ho', hc'⟩ := h.2 _ _ _ hJ b hE
  rw [ho] at ho'; cases ho'; rw [hc] at hc'; cases hc'

/-- A loop's record and its block for deferred calls, side by side. -/
def Kept (D : Nat) (r : Loop) (W : World) : Prop := W.heap[D]? = some (.deferred (some [])) ∧ W.heap[D + 1]? = some (.loop r)
theorem Kept.lt {D : Nat} {r : Loop} {W : World} (h : Kept D r W) : D + 1 < W.heap.size := (Array.getElem?_eq_some_iff.1 h.2).1
theorem Kept.put {D : Nat} {r : Loop} {W : World} (h : Kept D r W) (r' : Loop) : Kept D r' (W.putObj (D + 1) (.loop r')) :=
  ⟨(World.putObj_heap_other (by omega)).trans h.1, World.putObj_heap_same h.lt⟩
theorem Kept.grown {D : Nat} {r : Loop} {W W' : World} {row : Option Nat} (h : Kept D r W) (hg : W.grownBy W' row) (hr : ∀ k, row = some k → D + 2 ≤ k) : Kept D r W' :=
  ⟨(hg.block D (by have := h.lt; omega) fun e => by have := hr _ e.symm; omega).trans h.1, (hg.block (D + 1) h.lt fun e => by have := hr _ e.symm; omega).trans h.2⟩
theorem Kept.stands {D : Nat} {r : Loop} {W W' : World} {E : Nat → Prop} (h : Kept D r W) (hs : Stands D E W W') (h0 : ¬ E D) (h1 : ¬ E (D + 1)) : Kept D r W' :=
  ⟨(hs.same D (Nat.le_refl _) (by have := h.lt; omega) h0).trans h.1, (hs.same (D + 1) (by omega) h.lt h1).trans h.2⟩

theorem away_kept {α : Type} {D : Nat} {I : (Nat → Prop) → List α → World → Prop} (h : Away D I) (r : Loop) : Away (D + 2) (fun E ys W => I E ys W ∧ Kept D r W) :=
  ⟨fun E ys A C row hs hg hr => ⟨h.1 E ys A C row hs.1 hg fun k e => ⟨by have := (hr k e).1; omega, (hr k e).2⟩, hs.2.grown hg fun k e => (hr k e).1⟩, fun E ys A hs => h.2 E ys A hs.1⟩
theorem away_stop {α : Type} {D : Nat} {Ix : Code → (Nat → Prop) → List α → World → Prop} (h : ∀ c, Away D (Ix c)) (r : Code → Loop) : Away (D + 2) (fun E ys W => ∃ c, Ix c E ys W ∧ Kept D (r c) W) :=
  ⟨fun E ys A C row hs hg hr => by obtain ⟨c, hs⟩ := hs; exact ⟨c, (away_kept (h c) (r c)).1 E ys A C row hs hg hr⟩, fun E ys A hs => by obtain ⟨c, hs⟩ := hs; exact (h c).2 E ys A hs.1⟩

set_option maxHeartbeats 1000000 in
/-- 'for .. := range seq { .. }' in a function of its own, over an iterator of SeqOwn. -/
theorem wpIn_rangeSeq {α : Type} {n : Nat} {P : Program} {g : Operand} {ps : Array Tmp} {assign body : Code} {Q : Exit → Act → World → Prop} {a : Act} {w : World} (hn : 1 ≤ n)
    {gf : Nat} {lb : Array Value} (hg : a.eval g = .func (.func gf) #[] lb) (he : ∀ args w, (callFunc gf args).run P w = .ok (.enter gf args) w)
    {encs : α → Array Value} {n₀ : Nat} {xs : List α} {w0 : World} (hseq : SeqOwn (n - 1) P gf lb encs n₀ xs w0) (hb0 : Below w0.heap.size w0 w) (hps : ∀ x, (encs x).size = ps.size)
    (I : (Nat → Prop) → List α → World → Prop) (Ix : Code → (Nat → Prop) → List α → World → Prop) (E₀ : Nat → Prop) (hI : Away w.heap.size I) (hIx : ∀ c, Away w.heap.size (Ix c)) (h0 : I E₀ [] w) (a₁ : α → Act)
    (hassign : ∀ (l : Nat) (x : α) (W : World) (K : Act → World → Prop), K (a₁ x) W →
      assign.wpIn (Fence.wide.inRound l) (n - 1 - 1) P (Exit.then K (fun _ _ _ => False)) { tmps := (ps.zip (encs x)).foldl (fun t (p, v) => t.setIfInBounds p v) a.tmps, defers := [] } W)
    (hbody : ∀ (l : Nat) (E : Nat → Prop) (pre : List α) (x : α) (W : World), w.heap.size ≤ W.heap.size → I E pre W → pre.length < xs.length → body.wpIn (Fence.wide.inRound l) (n - 1 - 1) P (seqPost w.heap.size n₀ w0.heap.size I Ix E (pre ++ [x]) W) (a₁ x) W)
    (hdone : ∀ (D : Nat) (E : Nat → Prop) (W : World), w.heap.size ≤ D → I E xs W → W.heap[D]? = some (.deferred (some [])) → Q .normal { a with defers := { target := .collected D, args := #[] } :: a.defers } W)
    (hstop : ∀ (D : Nat) (c : Code) (E : Nat → Prop) (pre : List α) (W : World), w.heap.size ≤ D → pre <+: xs → Ix c E pre W → W.heap[D]? = some (.deferred (some [])) → c.wpIn Fence.wide n P Q { a with defers := { target := .collected D, args := #[] } :: a.defers } W) :
    (Code.rangeFunc g ps assign body).wpIn Fence.wide n P Q a w := by
  refine wpIn_rangeFunc fun fn _ => ?_
  let mk : LoopState → Option Code → Loop := fun st pe => { state := st, pending := pe, fn, tmps := a.tmps, params := ps, assign, body, defers := w.heap.size }
  have hin : Kept w.heap.size (mk .ready none) ((w.alloc (.deferred (some []))).alloc (.loop (mk .ready none))) := by
    refine ⟨(Below.heap_alloc _ _ _ (by simp)).trans (World.alloc_heap_new w _), ?_⟩
    have := World.alloc_heap_new (w.alloc (.deferred (some []))) (.loop (mk .ready none))
    rwa [World.size_alloc] at this
  refine ⟨w.heap.size + 1, [{ target := .collected w.heap.size, args := #[] }], (w.alloc (.deferred (some []))).alloc (.loop (mk .ready none)), { target := .fn (.func gf) lb, args := #[.func (.yield (w.heap.size + 1)) #[] #[]] }, (w.alloc (.deferred (some []))).alloc (.loop (mk .ready none)), gf,
    #[.func (.yield (w.heap.size + 1)) #[] #[]] ++ lb, (w.alloc (.deferred (some []))).alloc (.loop (mk .ready none)), run_enterLoop_outer _ _ _ _ _, ?_, fun _ _ => trivial, ?_, fun _ => hn, ?_⟩
  · simp only [resolve, hg]
    simp [go_sem]
  · simp [invoke, go_sem, he, mk]
  · have hsz : ((w.alloc (.deferred (some []))).alloc (.loop (mk .ready none))).heap.size = w.heap.size + 2 := by simp
    have hJ := away_kept hI (mk .ready none)
    have hJx := away_stop hIx (fun c => mk .done (some c))
    rw [← hsz] at hJ hJx
    refine (hseq (w.heap.size + 1) _ _ E₀ _ (hb0.trans ((((Below.refl _ w).alloc (Nat.le_refl _) _).alloc (by simp) _).mono hb0.size)) hJ hJx ?_ ⟨hI.new _ (hI.new _ h0), hin⟩).mono ?_
    · rintro E pre x W ⟨hi, hk⟩ hlen
      have hnE : ¬ E w.heap.size := hI.none hi hk.1 rfl
      have hnL : ¬ E (w.heap.size + 1) := hI.none hi hk.2 rfl
      refine ⟨fn, _, assign, body, run_yield hk.2 (hps x), roundIn_of_wpIn trivial (hassign _ x W _ ⟨_, run_beginRound hk.2 rfl, ?_⟩)⟩
      have hi2 := hI.put (.loop (mk .busy none)) hi (b := w.heap.size + 1) (by omega) hnL
      refine wpIn_mono (hbody _ E pre x _ (by have := hk.lt; simp; omega) hi2 hlen) ?_
      have fin : ∀ (jump : Option Code) (W3 : World), Stands w.heap.size E (W.putObj (w.heap.size + 1) (.loop (mk .busy none))) W3 →
          (Instr.endRound (w.heap.size + 1) jump).run P W3 = .ok (.bool jump.isNone) (W3.putObj (w.heap.size + 1) (.loop (mk (if jump.isNone then .ready else .done) jump))) ∧
          Kept w.heap.size (mk (if jump.isNone then .ready else .done) jump) (W3.putObj (w.heap.size + 1) (.loop (mk (if jump.isNone then .ready else .done) jump))) ∧
          Stands ((w.alloc (.deferred (some []))).alloc (.loop (mk .ready none))).heap.size E W (W3.putObj (w.heap.size + 1) (.loop (mk (if jump.isNone then .ready else .done) jump))) := fun jump W3 hs => by
        have hk3 := (hk.put (mk .busy none)).stands hs hnE hnL
        refine ⟨run_endRound jump hk3.2, hk3.put _, ⟨by have := hs.size; simpa using this, fun b h1 h2 h3 => ?_⟩⟩
        rw [hsz] at h1
        rw [World.putObj_heap_other (by omega), hs.same b (by omega) (by simpa using h2) h3, World.putObj_heap_other (by omega)]
      have out : ∀ (E' : Nat → Prop), (∀ b, E' b → E b ∨ (W.putObj (w.heap.size + 1) (.loop (mk .busy none))).heap.size ≤ b) → (∀ b, E' b → E b ∨ W.heap.size ≤ b) ∧ ¬ E' (w.heap.size + 1) := fun E' h =>
        by
        refine ⟨fun b hb => by simpa using h b hb, fun hb => ?_⟩
        have h1 := hk.lt
        rcases h _ hb with h | h
        · exact hnL h
        · simp at h; omega
      rintro e a3 W3 hp
      cases e with
      | normal =>
        obtain ⟨hs, hkp, E', hE', hi3⟩ := hp
        obtain ⟨hr, hk4, hs4⟩ := fin none W3 hs
        obtain ⟨hE1, hE2⟩ := out E' hE'
        refine ⟨_, _, hr, hs4, E', hE1, .inl ⟨rfl, ⟨hI.put _ hi3 (by omega) hE2, hk4⟩, fun b h1 h2 => ?_⟩⟩
        have := hb0.size
        rw [World.putObj_heap_other (by omega), hkp b h1 h2, World.putObj_heap_other (by omega)]
      | ret =>
        obtain ⟨hs, E', hE', hi3⟩ := hp
        obtain ⟨hr, hk4, hs4⟩ := fin (some .ret) W3 hs
        obtain ⟨hE1, hE2⟩ := out E' hE'
        exact ⟨_, _, hr, hs4, E', hE1, .inr ⟨rfl, .ret, (hIx _).put _ hi3 (by omega) hE2, hk4⟩⟩
      | exit id =>
        obtain ⟨hs, E', hE', hi3⟩ := hp
        obtain ⟨hr, hk4, hs4⟩ := fin (some (.exit id)) W3 hs
        obtain ⟨hE1, hE2⟩ := out E' hE'
        exact ⟨_, _, hr, hs4, E', hE1, .inr ⟨rfl, .exit id, (hIx _).put _ hi3 (by omega) hE2, hk4⟩⟩
      | goto t =>
        obtain ⟨hs, E', hE', hi3⟩ := hp
        obtain ⟨hr, hk4, hs4⟩ := fin (some (.goto t)) W3 hs
        obtain ⟨hE1, hE2⟩ := out E' hE'
        exact ⟨_, _, hr, hs4, E', hE1, .inr ⟨rfl, .goto t, (hIx _).put _ hi3 (by omega) hE2, hk4⟩⟩
      | panic ch => exact hp.elim
      | outgrown => exact hp.elim
    · rintro e W2 ⟨⟨v, rfl⟩, (⟨E, hi, hk⟩ | ⟨E, pre, hp, c, hi, hk⟩)⟩
      · exact ⟨none, _, run_endLoop hk.2 (by simp [mk]), hdone _ E _ (Nat.le_refl _) (hI.put _ hi (by omega) (hI.none hi hk.2 rfl)) (hk.put _).1⟩
      · exact ⟨some c, _, run_endLoop hk.2 (by simp [mk]), hstop _ c E pre _ (Nat.le_refl _) hp ((hIx c).put _ hi (by omega) ((hIx c).none hi hk.2 rfl)) (hk.put _).1⟩

theorem yieldAt_depth {m : Nat} (m' : Nat) {P : Program} {l : Nat} {args : Array Value} {W : World} {R : Ending → World → Prop} (h : YieldAt Fence.wide m P l args W R) : YieldAt Fence.wide m' P l args W R := by
  obtain ⟨fn, tmps, assign, body, hy, h1, h2⟩ := h
  exact ⟨fn, tmps, assign, body, hy, h1, fun c cs _ => h2 c cs (fun d e => by cases e)⟩

/-- A round, as an iterator sees it that has laid the blocks Mine. -/
theorem yield_mine {α : Type} {m m' : Nat} {P : Program} {l n₀ n₁ k : Nat} {encs : α → Array Value} {J Jx : (Nat → Prop) → List α → World → Prop} {W : World} (hJ : Away W.heap.size J)
    (hY : ∀ E pre x W1, J E pre W1 → pre.length < k → YieldAt Fence.wide m P l (encs x) W1 fun e W' =>
      Stands W.heap.size E W1 W' ∧ ∃ E' : Nat → Prop, (∀ b, E' b → E b ∨ W1.heap.size ≤ b) ∧
        ((e = .returned (.bool true) ∧ J E' (pre ++ [x]) W' ∧ KeepsIv n₀ n₁ W1 W') ∨ (e = .returned (.bool false) ∧ Jx E' (pre ++ [x]) W')))
    (Mine : Nat → Prop) {E : Nat → Prop} {pre : List α} (x : α) {W1 : World} (hj : J E pre W1) (hm : ∀ b, Mine b → W.heap.size ≤ b ∧ b < W1.heap.size ∧ ¬ E b) (hlt : pre.length < k) :
    YieldAt Fence.wide m' P l (encs x) W1 fun e W' => (KeepsFrom W.heap.size W1 W' ∧ ∀ b, Mine b → W'.heap[b]? = W1.heap[b]?) ∧ ∃ E' : Nat → Prop, (∀ b, Mine b → ¬ E' b) ∧
        ((e = .returned (.bool true) ∧ J E' (pre ++ [x]) W') ∨ (e = .returned (.bool false) ∧ Jx E' (pre ++ [x]) W')) := by
  refine yieldAt_depth m' ((hY E pre x W1 hj hlt).mono ?_)
  rintro e W' ⟨hs, E', hE', h⟩
  refine ⟨⟨⟨hs.size, fun b o h1 h2 h3 => (hs.same b h1 (Array.getElem?_eq_some_iff.1 h2).1 (hJ.none hj h2 h3)).trans h2⟩, fun b hb => hs.same b (hm b hb).1 (hm b hb).2.1 (hm b hb).2.2⟩, E', fun b hb h' => ?_, ?_⟩
  · have := hm b hb
    rcases hE' b h' with h | h
    · exact this.2.2 h
    · omega
  · rcases h with ⟨h1, h2, _⟩ | h
    · exact .inl ⟨h1, h2⟩
    · exact .inr h

theorem Away.below {α : Type} {B : Nat} {J : (Nat → Prop) → List α → World → Prop} (h : Away B J) {E : Nat → Prop} {ys : List α} {A C : World} (hJ : J E ys A) (hb : Below A.heap.size A C) : J E ys C :=
  h.1 _ _ _ _ (Option.none) hJ ⟨hb.os, hb.tape, hb.output, hb.size, fun k hk _ => hb.block k hk⟩ fun r e => by cases e
theorem Away.lt {α : Type} {B : Nat} {J : (Nat → Prop) → List α → World → Prop} (h : Away B J) {E : Nat → Prop} {ys : List α} {A : World} (hJ : J E ys A) {b : Nat} (hE : E b) : b < A.heap.size := by
  obtain ⟨o, ho, _⟩ := h.2 _ _ _ hJ b hE
  exact (Array.getElem?_eq_some_iff.1 ho).1
theorem Away.ownFrom {α : Type} {B B' : Nat} {J : (Nat → Prop) → List α → World → Prop} (h : Away B J) (hB : B ≤ B') (f : List α → List α) (Mine : Nat → Prop) : OwnFrom B' (fun pre W => ∃ E, J E (f pre) W ∧ ∀ b, Mine b → ¬ E b) := by
  rintro pre A C row ⟨E, hE, hm⟩ hg hr
  refine ⟨E, h.1 E _ A C row hE hg fun r e => ?_, hm⟩
  obtain ⟨h1, o, ho, hw⟩ := hr r e
  exact ⟨by omega, h.none hE ho hw⟩

end Go.Proofs.YtkninlahlgipoaaDoor

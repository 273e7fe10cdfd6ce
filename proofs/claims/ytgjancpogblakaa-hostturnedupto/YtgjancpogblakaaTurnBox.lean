/-
  Five boxes laid at once, four of a host, one of its copy, in a region that draws its order.
-/
import Derived.Test.YtgjancpogblakaaHostMP
import Derived.Test.YtgjancpogblakaaRel7
namespace Go.Proofs.Ytgjancpogblakaa
open Go.RowKit

abbrev ptrB (g : Nat) : Value := .pointer (some ⟨g, 0, none⟩)

structure TI (h : HostT) (mv : Value) (W0 : World) (A0 : Nat → Value) (L : Nat → Prop) (A : Nat → Value) (w : World) : Prop where
  frame : ∀ t, t < 5 ∨ (10 ≤ t ∧ t < 19) ∨ 25 ≤ t → A t = A0 t
  below : Below W0.heap.size W0 w
  load : ∀ j, j < 5 → L j → A (19 + j) = hval h mv
  copy : L 5 → ∃ ev, A 24 = hval h ev ∧ w.ownsRow W0.heap.size 34 2 ev h.tags.length (pairCells h.tags)
  box : ∀ j, j < 5 → L (6 + j) → ∃ g cs, A (5 + j) = ptrB g ∧ W0.heap.size ≤ g ∧ HasBox w g 24 cs ∧ cs.size = 6 ∧ (L (11 + j) → A (if j = 4 then 24 else 19 + j) = .agg cs)
  ne : ∀ j k, j < 5 → k < 5 → j ≠ k → L (6 + j) → L (6 + k) → A (5 + j) ≠ A (5 + k)
  dep : ∀ j, j < 5 → L (11 + j) → L (6 + j) ∧ L (if j = 4 then 5 else j)

section
variable {h : HostT} {mv : Value} {W0 : World} {A0 : Nat → Value} {L L' : Nat → Prop} {A A' : Nat → Value} {w : World}

theorem TI.start (hA : ∀ t, A t = A0 t) (hL : ∀ k, ¬ L k) (hb : Below W0.heap.size W0 w) : TI h mv W0 A0 L A w :=
  ⟨fun t _ => hA t, hb, fun _ _ hl => absurd hl (hL _), fun hl => absurd hl (hL _), fun _ _ hl => absurd hl (hL _), fun _ _ _ _ _ hl => absurd hl (hL _), fun _ _ hl => absurd hl (hL _)⟩

theorem TI.load1 (H : TI h mv W0 A0 L A w) {j : Nat} (hj : j < 5) (hn : ¬ L j) (hL : ∀ k, L' k ↔ (L k ∨ k = j)) (hA : ∀ t, A' t = if t = 19 + j then hval h mv else A t) : TI h mv W0 A0 L' A' w := by
  have hl : ∀ k, k ≠ j → L' k → L k := fun k hk h => ((hL k).1 h).resolve_right hk
  refine ⟨fun t ht => ?_, H.below, fun k hk h => ?_, fun h => ?_, fun k hk h => ?_, fun k m hk hm hkm h1 h2 => ?_, fun k hk h => ?_⟩
  · rw [hA, if_neg (by omega)]; exact H.frame t ht
  · rw [hA]
    by_cases e : k = j
    · rw [if_pos (by omega)]
    · rw [if_neg (by omega)]; exact H.load k hk (hl k e h)
  · obtain ⟨ev, h1, h2⟩ := H.copy (hl 5 (by omega) h)
    exact ⟨ev, by rw [hA, if_neg (by omega)]; exact h1, h2⟩
  · obtain ⟨g, cs, h1, h2, h3, h4, h5⟩ := H.box k hk (hl _ (by omega) h)
    refine ⟨g, cs, by rw [hA, if_neg (by omega)]; exact h1, h2, h3, h4, fun h6 => ?_⟩
    have h7 := hl _ (by omega) h6
    rw [hA]
    by_cases e : k = j ∧ k ≠ 4
    · exfalso
      have h8 := (H.dep k hk h7).2
      rw [if_neg e.2, e.1] at h8
      exact hn h8
    · rw [if_neg (by split <;> omega)]
      exact h5 h7
  · rw [hA, hA, if_neg (by omega), if_neg (by omega)]
    exact H.ne k m hk hm hkm (hl _ (by omega) h1) (hl _ (by omega) h2)
  · have := H.dep k hk (hl _ (by omega) h)
    exact ⟨(hL _).2 (.inl this.1), (hL _).2 (.inl this.2)⟩

theorem TI.copy1 (H : TI h mv W0 A0 L A w) {ev : Value} {w' : World} (hn : ¬ L 5) (hL : ∀ k, L' k ↔ (L k ∨ k = 5)) (hA : ∀ t, A' t = if t = 24 then hval h ev else A t) (hb : Below w.heap.size w w')
    (ho : w'.ownsRow w.heap.size 34 2 ev h.tags.length (pairCells h.tags)) : TI h mv W0 A0 L' A' w' := by
  have hl : ∀ k, k ≠ 5 → L' k → L k := fun k hk h => ((hL k).1 h).resolve_right hk
  refine ⟨fun t ht => ?_, H.below.trans (hb.mono H.below.size), fun k hk h => ?_, fun _ => ?_, fun k hk h => ?_, fun k m hk hm hkm h1 h2 => ?_, fun k hk h => ?_⟩
  · rw [hA, if_neg (by omega)]; exact H.frame t ht
  · rw [hA, if_neg (by omega)]; exact H.load k hk (hl k (by omega) h)
  · exact ⟨ev, by rw [hA, if_pos rfl], own_from ho H.below.size⟩
  · obtain ⟨g, cs, h1, h2, h3, h4, h5⟩ := H.box k hk (hl _ (by omega) h)
    refine ⟨g, cs, by rw [hA, if_neg (by omega)]; exact h1, h2, h3.below hb, h4, fun h6 => ?_⟩
    have h7 := hl _ (by omega) h6
    rw [hA]
    by_cases e : k = 4
    · exfalso
      have h8 := (H.dep k hk h7).2
      rw [if_pos e] at h8; exact hn h8
    · have h9 := h5 h7
      rw [if_neg e] at h9 ⊢
      rw [if_neg (by omega)]
      exact h9
  · rw [hA, hA, if_neg (by omega), if_neg (by omega)]
    exact H.ne k m hk hm hkm (hl _ (by omega) h1) (hl _ (by omega) h2)
  · have := H.dep k hk (hl _ (by omega) h)
    exact ⟨(hL _).2 (.inl this.1), (hL _).2 (.inl this.2)⟩

theorem TI.alloc1 (H : TI h mv W0 A0 L A w) {j : Nat} (hj : j < 5) (hn : ¬ L (6 + j)) {cs : Array Value} (hcs : cs.size = 6) (hL : ∀ k, L' k ↔ (L k ∨ k = 6 + j)) (hA : ∀ t, A' t = if t = 5 + j then ptrB w.heap.size else A t) :
    TI h mv W0 A0 L' A' (w.alloc (.cells cs 24 (0, 0))) := by
  have hl : ∀ k, k ≠ 6 + j → L' k → L k := fun k hk h => ((hL k).1 h).resolve_right hk
  refine ⟨fun t ht => ?_, H.below.alloc H.below.size _, fun k hk h => ?_, fun h => ?_, fun k hk h => ?_, fun k m hk hm hkm h1 h2 => ?_, fun k hk h => ?_⟩
  · rw [hA, if_neg (by omega)]; exact H.frame t ht
  · rw [hA, if_neg (by omega)]; exact H.load k hk (hl k (by omega) h)
  · obtain ⟨ev, h1, h2⟩ := H.copy (hl 5 (by omega) h)
    exact ⟨ev, by rw [hA, if_neg (by omega)]; exact h1, h2.alloc _⟩
  · by_cases e : k = j
    · subst e
      refine ⟨w.heap.size, cs, by rw [hA, if_pos rfl], H.below.size, hasBox_new _ _ _, hcs, fun h6 => absurd (H.dep k hk (hl _ (by omega) h6)).1 hn⟩
    · obtain ⟨g, cs', h1, h2, h3, h4, h5⟩ := H.box k hk (hl _ (by omega) h)
      refine ⟨g, cs', by rw [hA, if_neg (by omega)]; exact h1, h2, h3.alloc _, h4, fun h6 => ?_⟩
      rw [hA, if_neg (by split <;> omega)]
      exact h5 (hl _ (by omega) h6)
  · have lt : ∀ k, k < 5 → L (6 + k) → A (5 + k) ≠ ptrB w.heap.size := fun k hk hq e => by
      obtain ⟨g, cs', h1, h2, h3, _⟩ := H.box k hk hq
      rw [h1] at e
      simp only [Value.pointer.injEq, Option.some.injEq, Addr.mk.injEq, and_true] at e
      have := h3.lt
      omega
    rw [hA, hA]
    by_cases e1 : k = j
    · rw [if_pos (by omega), if_neg (by omega)]
      exact fun e => lt m hm (hl _ (by omega) h2) e.symm
    · rw [if_neg (by omega)]
      by_cases e2 : m = j
      · rw [if_pos (by omega)]; exact lt k hk (hl _ (by omega) h1)
      · rw [if_neg (by omega)]; exact H.ne k m hk hm hkm (hl _ (by omega) h1) (hl _ (by omega) h2)
  · have := H.dep k hk (hl _ (by omega) h)
    exact ⟨(hL _).2 (.inl this.1), (hL _).2 (.inl this.2)⟩

theorem own_rowOther {w : World} {base e sz n g t : Nat} {v : Value} {xs : List Value} {cs ds : Array Value} (ho : w.ownsRow base e sz v n xs) (hg : HasBox w g t cs) (hne : t ≠ e) : (w.setRow g ds).ownsRow base e sz v n xs := by
  refine ⟨ho.1, ?_⟩
  rcases ho.2 with h | ⟨k, cap, cur, h1, h2, h3, h4⟩
  · exact .inl h
  · refine .inr ⟨k, cap, cur, h1, h2, ?_, h4⟩
    rw [setRow_other _ _ _ _ (fun e => ?_)]
    · exact h3
    · subst e
      unfold HasBox at hg
      rw [hg] at h3
      simp only [Option.some.injEq, Obj.cells.injEq] at h3
      exact hne h3.2.1

theorem TI.store1 (H : TI h mv W0 A0 L A w) {j g : Nat} (hj : j < 5) {cs : Array Value} (hcs : cs.size = 6) (hg : A (5 + j) = ptrB g) (hv : A (if j = 4 then 24 else 19 + j) = .agg cs) (h6 : L (6 + j)) (h7 : L (if j = 4 then 5 else j)) (hne : (24 : Nat) ≠ 34)
    (hL : ∀ k, L' k ↔ (L k ∨ k = 11 + j)) (hA : ∀ t, A' t = A t) : TI h mv W0 A0 L' A' (w.setRow g cs) := by
  have hl : ∀ k, k ≠ 11 + j → L' k → L k := fun k hk h => ((hL k).1 h).resolve_right hk
  obtain ⟨g', cs', b1, b2, b3, b4, _⟩ := H.box j hj h6
  have eg : g' = g := by
    rw [b1] at hg
    simp only [Value.pointer.injEq, Option.some.injEq, Addr.mk.injEq, and_true] at hg
    exact hg
  subst eg
  refine ⟨fun t ht => ?_, below_setRow H.below b2 _, fun k hk h => ?_, fun h => ?_, fun k hk h => ?_, fun k m hk hm hkm h1 h2 => ?_, fun k hk h => ?_⟩
  · rw [hA]; exact H.frame t ht
  · rw [hA]; exact H.load k hk (hl k (by omega) h)
  · obtain ⟨ev, h1, h2⟩ := H.copy (hl 5 (by omega) h)
    exact ⟨ev, by rw [hA]; exact h1, own_rowOther h2 b3 hne⟩
  · by_cases e : k = j
    · subst e
      exact ⟨g', cs, by rw [hA]; exact b1, b2, b3.row, hcs, fun _ => by rw [hA]; exact hv⟩
    · obtain ⟨gk, ck, h1, h2, h3, h4, h5⟩ := H.box k hk (hl _ (by omega) h)
      have hgk : gk ≠ g' := fun e' => by
        subst e'
        exact H.ne k j hk hj e (hl _ (by omega) h) h6 (h1.trans b1.symm)
      refine ⟨gk, ck, by rw [hA]; exact h1, h2, h3.rowOther hgk, h4, fun h8 => ?_⟩
      rw [hA]
      exact h5 (hl _ (by omega) h8)
  · rw [hA, hA]
    exact H.ne k m hk hm hkm (hl _ (by omega) h1) (hl _ (by omega) h2)
  · by_cases e : k = j
    · subst e
      exact ⟨(hL _).2 (.inl h6), (hL _).2 (.inl h7)⟩
    · have := H.dep k hk (hl _ (by omega) h)
      exact ⟨(hL _).2 (.inl this.1), (hL _).2 (.inl this.2)⟩
end

/-- The invariant, of a region's acts. -/
def TA (h : HostT) (mv : Value) (W0 : World) (a0 : Act) (listed : Array Bool) (a : Act) (w : World) : Prop :=
  a.tmps.size = a0.tmps.size ∧ a.defers = a0.defers ∧ TI h mv W0 (fun t => a0.eval (.tmp t)) (fun k => listed.getD k false = true) (fun t => a.eval (.tmp t)) w

theorem listed_set {listed : Array Bool} {i : Nat} (hn : listed.getD i true = false) (k : Nat) : (listed.setIfInBounds i true).getD k false = true ↔ (listed.getD k false = true ∨ k = i) := by
  by_cases e : k = i
  · subst e
    rw [getD_set_same hn]
    simp
  · rw [getD_set_other e]
    simp [e]
theorem eval_put_if {a : Act} {d : Nat} (hd : d < a.tmps.size) (v : Value) (t : Nat) : (a.put (some d) v).eval (.tmp t) = if t = d then v else a.eval (.tmp t) := by
  by_cases e : t = d
  · subst e; rw [if_pos rfl]; exact Act.eval_put_same _ _ _ hd
  · rw [if_neg e]; exact Act.eval_put_ne _ _ _ _ (Ne.symm e)
theorem run_obstore {P : Program} {w : World} (ρ : Operand → Value) (o : Oper) (ty : TypeId) (x y : Operand) (ho : o.op = .store ty x y) (g : Nat) (cells : Array Value) (hx : ρ x = ptrB g) (hy : ρ y = .agg cells) (t : TypeId) (old : Array Value) (hg : HasBox w g t old)
    (hi : (P.info? ty).map (·.size) = some cells.size) (hold : old.size = cells.size) (h1 : cells.all (·.oneCell') = true) : (execOp ρ o).run P w = .ok .skip (w.setRow g cells) := by
  unfold execOp
  simp only [ho, hx, hy, Instr.storeAt, Instr.sureAddr, Sem.run_bind, Sem.run_pure, Result.andThen_ok, run_storeVar_row w g t ty old cells hg hi hold h1]

end Go.Proofs.Ytgjancpogblakaa

/-
  How rows of timers, and the statement's own clock, lie in memory. No program stands in it.
-/
import Derived.Test.YtelpdmaphmfkiaaTimerPlain
import Derived.Test.YtelpdmaphmfkiaaBoxKit
namespace Go.Proofs.Ytelpdmaphmfkiaa
open Go.RowKit Go.ChangeShapes

theorem below_drews {n : Nat} {w w' : World} (h : Below n w w') (k : Nat) : Below n w (w'.drewN k) := by
  induction k with
  | zero => simpa [World.drewN] using h
  | succ k ih => exact ih.drew

def timerCells (L : List TimerT) : List Value := L.flatMap fun t => [.int .i64 t.at_, .int .i64 t.kind, .int .i64 t.id]
abbrev tval (t : TimerT) : Value := .agg #[.int .i64 t.at_, .int .i64 t.kind, .int .i64 t.id]
abbrev tcells (t : TimerT) : Array Value := #[.int .i64 t.at_, .int .i64 t.kind, .int .i64 t.id]
theorem timerCells_length (L : List TimerT) : (timerCells L).length = L.length * 3 := by
  induction L with
  | nil => rfl
  | cons k r ih => simp [timerCells] at ih ⊢; omega
theorem timerCells_append (a b : List TimerT) : timerCells (a ++ b) = timerCells a ++ timerCells b := by simp [timerCells]
theorem timerCells_at (L : List TimerT) (i : Nat) (h : i < L.length) : (timerCells L)[i * 3]? = some (.int .i64 (L.getD i noTimer).at_) ∧ (timerCells L)[i * 3 + 1]? = some (.int .i64 (L.getD i noTimer).kind) ∧ (timerCells L)[i * 3 + 2]? = some (.int .i64 (L.getD i noTimer).id) := by
  induction L generalizing i with
  | nil => simp at h
  | cons k r ih =>
    have e : timerCells (k :: r) = .int .i64 k.at_ :: .int .i64 k.kind :: .int .i64 k.id :: timerCells r := rfl
    cases i with
    | zero => exact ⟨rfl, rfl, rfl⟩
    | succ i =>
      have := ih i (by simpa using h)
      rw [e, show (i + 1) * 3 = i * 3 + 3 by omega]
      simpa using this
theorem timerCells_one (L : List TimerT) : ∀ u ∈ timerCells L, u.oneCell' = true := by
  intro u hu
  simp [timerCells] at hu
  obtain ⟨a, _, h | h | h⟩ := hu <;> subst h <;> rfl
theorem timerCells_take (L : List TimerT) (i : Nat) : timerCells (L.take i) = (timerCells L).take (i * 3) := by
  induction L generalizing i with
  | nil => simp [timerCells]
  | cons k r ih =>
    cases i with
    | zero => simp [timerCells]
    | succ i =>
      have e : timerCells (k :: r) = .int .i64 k.at_ :: .int .i64 k.kind :: .int .i64 k.id :: timerCells r := rfl
      have e2 : timerCells (k :: r.take i) = .int .i64 k.at_ :: .int .i64 k.kind :: .int .i64 k.id :: timerCells (r.take i) := rfl
      rw [List.take_succ_cons, e2, e, ih, show (i + 1) * 3 = i * 3 + 3 by omega]
      simp
theorem timerCells_drop (L : List TimerT) (i : Nat) : timerCells (L.drop i) = (timerCells L).drop (i * 3) := by
  induction L generalizing i with
  | nil => simp [timerCells]
  | cons k r ih =>
    cases i with
    | zero => simp
    | succ i =>
      have e : timerCells (k :: r) = .int .i64 k.at_ :: .int .i64 k.kind :: .int .i64 k.id :: timerCells r := rfl
      rw [List.drop_succ_cons, e, ih, show (i + 1) * 3 = i * 3 + 3 by omega]
      simp

/-- 's[:i]', 's[i:]' of a row of flat elements. -/
theorem IsRow.upto {sz : Nat} {w : World} {ao : Option Addr} {n cap : Nat} {cs : List Value} (h : IsRow sz w (.slice ao n cap) n cs) (i : Nat) (hi : i ≤ n) : IsRow sz w (.slice ao i cap) i (cs.take (i * sz)) := by
  obtain ⟨h1, ⟨h2, h3⟩, h4⟩ := h
  have h3' : n ≤ cap ∧ cap ≤ maxLen := h3
  have hm : i * sz ≤ n * sz := Nat.mul_le_mul_right _ hi
  refine ⟨by rw [List.length_take]; omega, ⟨by omega, show i ≤ cap ∧ cap ≤ maxLen by omega⟩, ?_⟩
  rcases h4 with ⟨h0, ao', cap', e, hn⟩ | ⟨hp, b, off, cap', e, hlt, hc⟩
  · simp only [Value.slice.injEq] at e
    obtain ⟨rfl, _, rfl⟩ := e
    exact .inl ⟨by omega, ao, cap, by rw [show i = 0 by omega], hn⟩
  · simp only [Value.slice.injEq] at e
    obtain ⟨rfl, _, rfl⟩ := e
    by_cases h0 : i = 0
    · subst h0
      exact .inl ⟨rfl, _, _, rfl, fun e => by cases e⟩
    · exact .inr ⟨by omega, b, off, cap, rfl, hlt, fun j hj => by rw [hc j (by omega), List.getElem?_take, if_pos hj]⟩
theorem IsRow.from {sz : Nat} {w : World} {ao : Option Addr} {n cap : Nat} {cs : List Value} (h : IsRow sz w (.slice ao n cap) n cs) (i : Nat) (hi : i ≤ n) :
    IsRow sz w (.slice (if cap = i then ao else Option.map (fun x => x.add (i * sz)) ao) (n - i) (cap - i)) (n - i) (cs.drop (i * sz)) := by
  obtain ⟨h1, ⟨h2, h3⟩, h4⟩ := h
  have h3' : n ≤ cap ∧ cap ≤ maxLen := h3
  refine ⟨by rw [List.length_drop, h1, Nat.sub_mul], ⟨by omega, show n - i ≤ cap - i ∧ cap - i ≤ maxLen by omega⟩, ?_⟩
  rcases h4 with ⟨h0, ao', cap', e, hn⟩ | ⟨hp, b, off, cap', e, hlt, hc⟩
  · simp only [Value.slice.injEq] at e
    obtain ⟨rfl, _, rfl⟩ := e
    refine .inl ⟨by omega, _, _, by rw [show n - i = 0 by omega], fun e => ?_⟩
    have hi0 : i = 0 := by omega
    subst hi0
    split at e
    · have := hn e; omega
    · cases ao with
      | none => have := hn rfl; omega
      | some x => simp at e
  · simp only [Value.slice.injEq] at e
    obtain ⟨rfl, _, rfl⟩ := e
    by_cases hin : n - i = 0
    · refine .inl ⟨hin, _, _, by rw [hin], fun e => ?_⟩
      split at e <;> simp at e
    · have hci : ¬ cap = i := by omega
      rw [if_neg hci]
      have hadd : (⟨b, off, none⟩ : Addr).add (i * sz) = ⟨b, off + i * sz, none⟩ := by unfold Addr.add; split <;> simp_all
      refine .inr ⟨by omega, b, off + i * sz, cap - i, by simp [hadd], hlt, fun j hj => ?_⟩
      rw [List.getElem?_drop, Nat.add_assoc]
      refine hc (i * sz + j) ?_
      have : (n - i) * sz = n * sz - i * sz := Nat.sub_mul _ _ _
      omega

/-- A slice value that holds timers. -/
structure IsTimers (w : World) (v : Value) (L : List TimerT) : Prop where
  ok : ∀ t ∈ L, inT t
  row : IsRow 3 w v L.length (timerCells L)
theorem IsTimers.below {w w' : World} {v : Value} {L : List TimerT} (h : IsTimers w v L) (hb : Below w.heap.size w w') : IsTimers w' v L := ⟨h.ok, h.row.below hb⟩
theorem IsTimers.shaped {w : World} {v : Value} {L : List TimerT} (h : IsTimers w v L) : ∃ ao cap, v = .slice ao L.length cap := h.row.shaped
theorem IsTimers.at {w : World} {ao : Option Addr} {n cap : Nat} {L : List TimerT} (h : IsTimers w (.slice ao n cap) L) (i : Nat) (hi : i < L.length) :
    ∃ b off, ao = some ⟨b, off, none⟩ ∧ b < w.heap.size ∧ w.cell? ⟨b, off + i * 3, none⟩ = some (.int .i64 (L.getD i noTimer).at_) ∧ w.cell? ⟨b, off + i * 3 + 1, none⟩ = some (.int .i64 (L.getD i noTimer).kind) ∧ w.cell? ⟨b, off + i * 3 + 2, none⟩ = some (.int .i64 (L.getD i noTimer).id) := by
  rcases h.row.2.2 with ⟨h0, _⟩ | ⟨_, b, off, c, e, hlt, hc⟩
  · omega
  · simp only [Value.slice.injEq] at e
    obtain ⟨a0, a1, a2⟩ := timerCells_at L i hi
    refine ⟨b, off, e.1, hlt, ?_, ?_, ?_⟩
    · rw [hc (i * 3) (by omega), a0]
    · rw [Nat.add_assoc, hc (i * 3 + 1) (by omega), a1]
    · rw [Nat.add_assoc, hc (i * 3 + 2) (by omega), a2]
theorem isTimers_nil (w : World) : IsTimers w nilW [] := ⟨by simp, rfl, ⟨by unfold maxLen; simp, by unfold roomy maxLen; omega⟩, .inl ⟨rfl, _, _, rfl, fun _ => rfl⟩⟩
theorem isTimers_own {w : World} {base e n : Nat} {v : Value} {L : List TimerT} (h : w.ownsRow base e 3 v n (timerCells L)) (hn : n = L.length) (hk : ∀ t ∈ L, inT t) : IsTimers w v L := by
  subst hn; exact ⟨hk, isRow_own h⟩
theorem IsTimers.upto {w : World} {ao : Option Addr} {cap : Nat} {L : List TimerT} (h : IsTimers w (.slice ao L.length cap) L) (i : Nat) (hi : i ≤ L.length) : IsTimers w (.slice ao i cap) (L.take i) := by
  have hl : (L.take i).length = i := by rw [List.length_take]; omega
  refine ⟨fun t ht => h.ok t (List.mem_of_mem_take ht), ?_⟩
  rw [hl, timerCells_take]
  exact IsRow.upto h.row i hi
theorem IsTimers.from {w : World} {ao : Option Addr} {cap : Nat} {L : List TimerT} (h : IsTimers w (.slice ao L.length cap) L) (i : Nat) (hi : i ≤ L.length) : IsTimers w (.slice (if cap = i then ao else Option.map (fun x => x.add (i * 3)) ao) (L.length - i) (cap - i)) (L.drop i) := by
  have hl : (L.drop i).length = L.length - i := by simp
  refine ⟨fun t ht => h.ok t (List.mem_of_mem_drop ht), ?_⟩
  rw [hl, timerCells_drop]
  exact IsRow.from h.row i hi
/-- What is owned stands, if its block stands. -/
theorem own_stands {w w' : World} {base e sz n : Nat} {v : Value} {cs : List Value} (h : w.ownsRow base e sz v n cs) (hb : ∀ k, v.ownBlock = some k → w'.heap[k]? = w.heap[k]?) : w'.ownsRow base e sz v n cs := by
  refine ⟨h.1, ?_⟩
  rcases h.2 with h | ⟨g, cap, cur, rfl, h2, h3, h4⟩
  · exact .inl h
  · exact .inr ⟨g, cap, cur, rfl, h2, (hb g rfl).trans h3, h4⟩

/-- The statement's own clock: a block that holds the time and a row of the call's own. -/
structure RClock (w : World) (base B tC tT : Nat) (v : Value) (now : Int) (L : List TimerT) : Prop where
  ge : base ≤ B
  box : HasBox w B tC #[.int .i64 now, v]
  row : w.ownsRow base tT 3 v L.length (timerCells L)
  ne : v.ownBlock ≠ some B
  ok : ∀ t ∈ L, inT t
  now_ : 0 ≤ now ∧ now ≤ top62
theorem RClock.timers {w : World} {base B tC tT : Nat} {v : Value} {now : Int} {L : List TimerT} (h : RClock w base B tC tT v now L) : IsTimers w v L := isTimers_own h.row rfl h.ok
theorem RClock.stands {w w' : World} {base B tC tT : Nat} {v : Value} {now : Int} {L : List TimerT} (h : RClock w base B tC tT v now L) (hB : w'.heap[B]? = w.heap[B]?) (hb : ∀ k, v.ownBlock = some k → w'.heap[k]? = w.heap[k]?) : RClock w' base B tC tT v now L :=
  ⟨h.ge, hB.trans h.box, own_stands h.row hb, h.ne, h.ok, h.now_⟩
theorem RClock.below {w w' : World} {base B tC tT : Nat} {v : Value} {now : Int} {L : List TimerT} (h : RClock w base B tC tT v now L) (hb : Below w.heap.size w w') : RClock w' base B tC tT v now L :=
  h.stands (hb.block B h.box.lt) fun k hk => hb.block k (h.row.lt k hk).2

/-- What turns but one block. -/
theorem below_of_grown {w0 w w' : World} {base : Nat} {o : Option Nat} (h : Below base w0 w) (hg : w.grownBy w' o) (hb : base ≤ w.heap.size) (ho : ∀ k, o = some k → base ≤ k) : Below base w0 w' := h.grown hg hb ho

end Go.Proofs.Ytelpdmaphmfkiaa

/-
  Lemmas of our own that no program stands in: how a slice of numbers lies in memory, what is owned, a region that draws its order over worlds that are alike below a block.
-/
import Derived.Test.YthmfmeibjpgokaaPlain
import Derived.WalkKit
import Derived.WalkSpells
import Derived.BigQuiet
import Derived.OpenShut
import Derived.ChangeOld
import Derived.SizedLaws
import Derived.Laws.AppendOwnNone
namespace Go.Proofs.Ythmfmeibjpgokaa
open Go.RowKit Go.ChangeShapes

theorem ret_int {k : IntKind} {a b : Int} (h : a = b) : Ending.returned (.int k a) = .returned (.int k b) := by rw [h]

theorem ret_ib {k : IntKind} {a b : Int} (h : a = b) (c : Bool) : Ending.returned (.tuple #[.int k a, .bool c]) = .returned (.tuple #[.int k b, .bool c]) := by rw [h]
theorem bcell {W w1 : World} (hb : Below W.heap.size W w1) : (∀ b o, b < W.heap.size → w1.cell? ⟨b, o, none⟩ = W.cell? ⟨b, o, none⟩) ∧ (∀ b o, b < W.heap.size → w1.frozen? ⟨b, o, none⟩ = W.frozen? ⟨b, o, none⟩) :=
  ⟨fun b o h => hb.cell (p := ⟨b, o, none⟩) h, fun b o h => hb.frozen (p := ⟨b, o, none⟩) h⟩

theorem ret_tup (a b : Int) (c d : Bool) (h : a = b) (h2 : c = d) : Ending.returned (.tuple #[.int .i64 a, .bool c]) = .returned (.tuple #[.int .i64 b, .bool d]) := by rw [h, h2]

/-- A slice value that holds the numbers zs. -/
def IsInts (w : World) (v : Value) (zs : List Int) : Prop :=
  (∀ n ∈ zs, -9223372036854775808 ≤ n ∧ n ≤ 9223372036854775807) ∧ zs.length ≤ 9223372036854775807 ∧
  ((zs = [] ∧ ∃ ao cap, v = .slice ao 0 cap ∧ (ao = none → cap = 0)) ∨ (zs ≠ [] ∧ ∃ b off cap, v = .slice (some ⟨b, off, none⟩) zs.length cap ∧ b < w.heap.size ∧ ∀ i, i < zs.length → w.cell? ⟨b, off + i, none⟩ = some (.int .i64 (zs.getD i 0))))

theorem IsInts.below {w w' : World} {v : Value} {zs : List Int} (h : IsInts w v zs) (hb : Below w.heap.size w w') : IsInts w' v zs := by
  obtain ⟨h1, h2, h3⟩ := h
  refine ⟨h1, h2, ?_⟩
  rcases h3 with h3 | ⟨h3, b, off, cap, rfl, hlt, hc⟩
  · exact .inl h3
  · exact .inr ⟨h3, b, off, cap, rfl, Nat.lt_of_lt_of_le hlt hb.size, fun i hi => (hb.cell (p := ⟨b, off + i, none⟩) hlt).trans (hc i hi)⟩

theorem getD_bd {zs : List Int} (h : ∀ n ∈ zs, -9223372036854775808 ≤ n ∧ n ≤ 9223372036854775807) (k : Nat) (hk : k < zs.length) : -9223372036854775808 ≤ zs.getD k 0 ∧ zs.getD k 0 ≤ 9223372036854775807 := by
  rw [getD_get _ _ hk]
  exact h _ (List.getElem_mem hk)

theorem ret_bool {a b : Bool} (h : a = b) : Ending.returned (.bool a) = .returned (.bool b) := by rw [h]

/-- Block B, not frozen, holds the n numbers f 0, f 1, .. -/
def Own (w : World) (B n : Nat) (f : Nat → Int) : Prop :=
  B < w.heap.size ∧ (∀ i, i < n → w.cell? ⟨B, i, none⟩ = some (.int .i64 (f i))) ∧ ∀ i, w.frozen? ⟨B, i, none⟩ = false

theorem Own.congr {w : World} {B n : Nat} {f g : Nat → Int} (h : Own w B n f) (e : ∀ i, i < n → f i = g i) : Own w B n g :=
  ⟨h.1, fun i hi => by rw [h.2.1 i hi, e i hi], h.2.2⟩

theorem Own.set {w : World} {B n : Nat} {f : Nat → Int} (h : Own w B n f) (k : Nat) (hk : k < n) (x : Int) :
    Own (w.setCell ⟨B, k, none⟩ (.int .i64 x)) B n (fun i => if i = k then x else f i) := by
  refine ⟨by simpa [World.setCell] using h.1, fun i hi => ?_, fun i => ?_⟩
  · by_cases e : i = k
    · subst e
      show _ = some (Value.int .i64 (if i = i then x else f i))
      rw [if_pos rfl]
      exact World.cell?_setCell_same _ _ _ (h.2.1 i hi)
    · show _ = some (Value.int .i64 (if i = k then x else f i))
      rw [if_neg e, World.cell?_setCell_other _ _ _ _ (fun h => e (congrArg Addr.off h).symm)]
      exact h.2.1 i hi
  · simp [h.2.2 i]

theorem Own.below {w w' : World} {B n : Nat} {f : Nat → Int} (h : Own w B n f) (hb : Below w.heap.size w w') : Own w' B n f :=
  ⟨Nat.lt_of_lt_of_le h.1 hb.size, fun i hi => (hb.cell (p := ⟨B, i, none⟩) h.1).trans (h.2.1 i hi), fun i => (hb.frozen (p := ⟨B, i, none⟩) h.1).trans (h.2.2 i)⟩

theorem Own.isInts {w : World} {B n : Nat} {f : Nat → Int} (h : Own w B n f) (h0 : 0 < n) (hn : n ≤ 1000000) (hf : ∀ i, i < n → 0 ≤ f i ∧ f i ≤ 1000001) :
    IsInts w (.slice (some ⟨B, 0, none⟩) n n) ((List.range n).map f) := by
  refine ⟨?_, by simp; omega, .inr ⟨?_, B, 0, n, by simp, h.1, ?_⟩⟩
  · intro x hx
    simp only [List.mem_map, List.mem_range] at hx
    obtain ⟨i, hi, rfl⟩ := hx
    have := hf i hi
    omega
  · intro e
    have := congrArg List.length e
    simp at this
    omega
  · intro i hi
    have hi' : i < n := by simpa using hi
    rw [Nat.zero_add, h.2.1 i hi']
    simp [hi']

theorem Own.made {w' : World} {base e n : Nat} {B : Nat} (h : w'.ownsRow base e 1 (.slice (some ⟨B, 0, none⟩) n n) n (madeCells #[Value.int IntKind.i64 0] n).toList) (hB : B < w'.heap.size) :
    Own w' B n (fun _ => 0) := by
  refine ⟨hB, fun i hi => ?_, fun i => h.frozenAt i⟩
  rw [h.cellAt i (by omega), toList_madeCells_one]
  simp [hi]

/-- A slice that the call has just laid down. -/
theorem IsInts.fresh (w : World) (zs : List Int) (t cap : Nat) (h : ∀ n ∈ zs, -9223372036854775808 ≤ n ∧ n ≤ 9223372036854775807) (hl : zs.length ≤ 9223372036854775807) (hne : zs ≠ []) :
    IsInts (w.alloc (.cells (zs.map (Value.int .i64)).toArray t)) (.slice (some ⟨w.heap.size, 0, none⟩) zs.length cap) zs := by
  refine ⟨h, hl, .inr ⟨hne, w.heap.size, 0, cap, rfl, by simp, fun i hi => ?_⟩⟩
  rw [Nat.zero_add, World.cell?_alloc_at _ _ _ _ rfl]
  simp [hi]

theorem wf_i64 {n : Int} (h : (Lit.int .i64 n).wf = true) : -9223372036854775808 ≤ n ∧ n ≤ 9223372036854775807 := bounds_i64 h

theorem isInts_nil (w : World) : IsInts w (.slice none 0 0) [] := ⟨by simp, by simp, .inl ⟨rfl, _, _, rfl, fun _ => rfl⟩⟩

theorem isInts_row {w : World} {x : Addr} {len cap : Nat} {zs : List Int} (hl : len ≤ cap) (hm : cap ≤ maxLen) (hz : zs.length = cap)
    (hcell : ∀ i, i < zs.length → w.cell? (x.add i) = some (.int .i64 (zs.getD i 0))) (hwz : ∀ n ∈ zs, (Lit.int .i64 n).wf = true) : IsInts w (.slice (some x) len cap) (zs.take len) := by
  have e : (zs.take len).length = len := by simp; omega
  unfold maxLen at hm
  refine ⟨fun n hn => wf_i64 (hwz n (List.mem_of_mem_take hn)), by omega, ?_⟩
  by_cases h0 : len = 0
  · subst h0
    exact .inl ⟨by simp, _, _, rfl, fun h => by cases h⟩
  · obtain ⟨b, off, spot⟩ := x
    have hc := hcell 0 (by omega)
    have hspot : spot = none := by simpa [Addr.add] using World.cell?_spot hc
    subst hspot
    refine .inr ⟨fun h => by rw [h] at e; simp at e; omega, b, off, cap, by rw [e], ?_, fun i hi => ?_⟩
    · have hc0 : w.cell? ⟨b, off, none⟩ = some (.int .i64 (zs.getD 0 0)) := by simpa [Addr.add] using hc
      exact World.block_lt_of_cell? _ _ hc0
    · have h1 := hcell i (by omega)
      have h2 : (zs.take len).getD i 0 = zs.getD i 0 := by
        rw [getD_get _ _ hi, getD_get _ _ (by omega)]; simp
      rw [h2, ← h1]
      by_cases e0 : i = 0
      · subst e0; simp [Addr.add]
      · simp [Addr.add, e0]

/-- A world that is as w0 was below block B. -/
structure WB (B : Nat) (w0 : World) where
  w : World
  h : Below B w0 w

/-- A region that draws its order, and whose operations yield one value each in whatever world that is as w0 was below block B: one walk, in the order of the text. -/
theorem wp_region_below {P : Program} {id : Nat} {Q : Exit → Act → World → Prop} {a : Act} {w : World} {l : List Oper} (B : Nat) (w0 : World) (hm : P.follows .mixedOrders = true) (hB : Region.lexB .any l.toArray = true)
    (hb : Below B w0 w) (h : wpQuiet P l.toArray (fun w' => ∃ s : WB B w0, w' = s.w) (fun a' => ∀ w', (∃ s : WB B w0, w' = s.w) → Q .normal a' w') l a) : (Code.region id l.toArray true).wp P Q a w :=
  wp_region_quiet (C := fun w' => ∃ s : WB B w0, w' = s.w) hm hB ⟨⟨_, hb.drew⟩, rfl⟩ (by simpa using h)

/-- A callee that makes memory and turns none. -/
theorem calls_below {P : Program} {f : FuncId} {args : Array Value} {B : Nat} {w0 : World} {s : WB B w0} {v : Value} (hB : B ≤ w0.heap.size)
    (h : Calls P f args s.w fun e w' => e = .returned v ∧ Below s.w.heap.size s.w w') : Calls P f args s.w fun e w'' => e = .returned v ∧ ∃ s' : WB B w0, w'' = s'.w :=
  h.mono fun _ _ ⟨he, hb⟩ => ⟨he, ⟨_, s.h.trans (hb.mono (Nat.le_trans hB s.h.size))⟩, rfl⟩
/-- A callee that leaves the world as it is. -/
theorem calls_same {P : Program} {f : FuncId} {args : Array Value} {B : Nat} {w0 : World} {s : WB B w0} {v : Value}
    (h : Calls P f args s.w fun e w' => e = .returned v ∧ w' = s.w) : Calls P f args s.w fun e w'' => e = .returned v ∧ ∃ s' : WB B w0, w'' = s'.w :=
  h.mono fun _ _ ⟨he, hb⟩ => ⟨he, s, hb⟩

theorem IsInts.shape {w : World} {v : Value} {zs : List Int} (h : IsInts w v zs) : ∃ ao cap, v = .slice ao zs.length cap := by
  rcases h.2.2 with ⟨rfl, ao, cap, rfl, _⟩ | ⟨_, b, off, cap, rfl, _⟩
  · exact ⟨ao, cap, rfl⟩
  · exact ⟨_, cap, rfl⟩

/-- What the call owns, as a slice of numbers. -/
theorem isInts_own {w : World} {base e n : Nat} {v : Value} {zs : List Int} (h : w.ownsRow base e 1 v n (zs.map (Value.int .i64))) (hn : n = zs.length) (hl : zs.length ≤ 9223372036854775807)
    (hz : ∀ x ∈ zs, -9223372036854775808 ≤ x ∧ x ≤ 9223372036854775807) : IsInts w v zs := by
  subst hn
  refine ⟨hz, hl, ?_⟩
  have ho := h
  rcases h.2 with ⟨rfl, h0⟩ | ⟨g, cap, cur, rfl, _, hg, _⟩
  · exact .inl ⟨List.eq_nil_of_length_eq_zero h0, _, _, rfl, fun _ => rfl⟩
  · by_cases e0 : zs = []
    · subst e0
      exact .inl ⟨rfl, _, _, rfl, fun h => by cases h⟩
    · refine .inr ⟨e0, g, 0, cap, rfl, (Array.getElem?_eq_some_iff.1 hg).1, fun i hi => ?_⟩
      rw [Nat.zero_add, ho.cellAt i (by omega)]
      simp [hi]

/-- 'T[]{}', laid down by the call. -/
theorem own_lit0 (w : World) (e : TypeId) : (w.alloc (.cells #[] e)).ownsRow w.heap.size e 1 (.slice (some ⟨w.heap.size, 0, none⟩) 0 0) 0 [] :=
  ⟨rfl, .inr ⟨w.heap.size, 0, #[], rfl, Nat.le_refl _, by show (w.heap.push _)[w.heap.size]? = _; simp, Nat.le_refl _, by decide, rfl, rfl⟩⟩

theorem own_base {w : World} {base e size n : Nat} {v : Value} {xs : List Value} (h : w.ownsRow base e size v n xs) : ∀ k, v.ownBlock = some k → base ≤ k := by
  intro k hk
  rcases h.2 with ⟨rfl, _⟩ | ⟨g, cap, cur, rfl, hb, _⟩
  · simp [Value.ownBlock] at hk
  · simp [Value.ownBlock] at hk; omega

/-- 'append(s, x...)' onto what the call owns, x a slice of numbers, nil or empty or not. -/
theorem wpList_append_ints {P : Program} {w : World} {ops : Array Oper} {rest : List Oper} {o : Oper} {a : Act} {Q : Exit → Act → World → Prop} (hgd : o.guard = none) (s x : Operand) (t : TypeId)
    (ho : o.op = .call { callee := .builtin .append, args := #[s, x], argTypes := #[t, t] })
    (base : Nat) (e : TypeId) (i : TypeInfo) (ht : P.underlying t = some (.slice e)) (hi : P.info? e = some i) (hz : i.zero = some (.int .i64 0)) (hsize : i.size = 1) (hby : i.bytes = 8)
    (v : Value) (ys : List Int) (hs : a.eval s = v) (hown : w.ownsRow base e 1 v ys.length (ys.map (Value.int .i64)))
    (X : Value) (zs : List Int) (hx : a.eval x = X) (hX : IsInts w X zs) (hb : (ys.length + zs.length) * 8 ≤ 140737488355328) (hbase : base ≤ w.heap.size)
    (h : ∀ v' w', w'.ownsRow base e 1 v' (ys ++ zs).length ((ys ++ zs).map (Value.int .i64)) → w.grownBy w' v.ownBlock → wpList P ops Q rest (a.put o.dst v') w') : wpList P ops Q (o :: rest) a w := by
  rcases hX.2.2 with ⟨rfl, ao, cap, rfl, hn⟩ | ⟨_, b, off, cap, rfl, _, hc⟩
  · cases ao with
    | none =>
      have := hn rfl
      subst this
      exact wpList_append_own_none hgd s x t ho base e i 1 ht hi v ys.length _ hs hown hx (h v w (by simpa using hown) ⟨rfl, rfl, rfl, Nat.le_refl _, fun _ _ _ => rfl⟩)
    | some ad =>
      refine wpList_append_own w hgd s x t ho base e i _ 1 8 ht hi hz hsize hby rfl (by decide) v ys.length _ hs hown ad 0 cap [] hx rfl (by simp) (by simp) (by unfold maxLen; omega) (by simpa using hb) hbase ?_
      intro v' w' h1 h2 _
      exact h v' w' (by simpa using h1) h2
  · refine wpList_append_own w hgd s x t ho base e i _ 1 8 ht hi hz hsize hby rfl (by decide) v ys.length _ hs hown ⟨b, off, none⟩ zs.length cap (zs.map (Value.int .i64)) hx (by simp) ?_ ?_ (by unfold maxLen; omega) hb hbase ?_
    · intro j u hu
      rw [List.getElem?_map] at hu
      cases hj : zs[j]? with
      | none => rw [hj] at hu; simp at hu
      | some y =>
        rw [hj] at hu
        simp at hu
        subst hu
        obtain ⟨hlt, he⟩ := List.getElem?_eq_some_iff.1 hj
        have h1 := hc j hlt
        rw [getD_get _ _ hlt, he] at h1
        by_cases e0 : j = 0
        · subst e0; simpa [Addr.add] using h1
        · simpa [Addr.add, e0] using h1
    · intro u hu
      simp at hu
      obtain ⟨y, _, rfl⟩ := hu
      rfl
    · intro v' w' h1 h2 _
      exact h v' w' (by simpa using h1) h2

end Go.Proofs.Ythmfmeibjpgokaa

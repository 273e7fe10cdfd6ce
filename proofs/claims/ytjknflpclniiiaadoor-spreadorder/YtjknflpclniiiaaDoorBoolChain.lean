/-
  Rows of yeses and noes that the call makes: 'make', and 'append(append(append([]bool{}, l...), true), l...)' in a region that draws its order.
-/
import Derived.Test.YtjknflpclniiiaaDoorRowCut
import Derived.Test.YtjknflpclniiiaaDoorBase
import Derived.Test.YtjknflpclniiiaaDoorRels
import Derived.Deep.OwnRows
namespace Go.Proofs.YtjknflpclniiiaaDoor
open Go.RowKit

theorem infoBool : (Tryd.prog.info? 4).map (fun i => (i.zero, i.size, i.bytes)) = some (some (.bool false), 1, 1) := by kernel_rfl
theorem made_bools (n : Nat) : madeCells #[Value.bool false] n = (List.replicate n (Value.bool false)).toArray := by
  apply Array.ext
  · rw [size_madeCells]; simp
  · intro i h1 h2
    simp [madeCells, Nat.mod_one]
/-- A block that holds yeses and noes, as a row. -/
theorem bools_box {w : World} {g t : Nat} {l : List Bool} (h : HasBox w g t (l.map Value.bool).toArray) (hl : l.length ≤ 1000000) : IsBools w (.slice (some ⟨g, 0, none⟩) l.length l.length) l := by
  unfold IsBools
  refine ⟨by simp, ⟨by unfold maxLen; omega, by show _ ≤ _ ∧ _ ≤ _; unfold maxLen; omega⟩, ?_⟩
  by_cases e : l.length = 0
  · exact .inl ⟨e, _, _, by rw [e], fun hn => by cases hn⟩
  · refine .inr ⟨by omega, g, 0, _, rfl, h.lt, fun j hj => ?_⟩
    rw [Nat.zero_add, h.cell j]
    simp
/-- The first k of n set. -/
def setB (k n : Nat) : List Bool := List.replicate k true ++ List.replicate (n - k) false
theorem setB_start (n : Nat) : setB 0 n = List.replicate n false := rfl
theorem setB_end (n : Nat) : setB n n = List.replicate n true := by unfold setB; rw [Nat.sub_self]; simp
theorem setB_length {k n : Nat} (h : k ≤ n) : (setB k n).length = n := by unfold setB; simp; omega
theorem setB_at {k n : Nat} (h : k < n) : ((setB k n).map Value.bool).toArray[k]? = some (.bool false) := by
  unfold setB
  simp [List.getElem?_append, List.getElem?_replicate]
  omega
theorem setB_set {k n : Nat} (h : k < n) : ((setB k n).map Value.bool).toArray.setIfInBounds k (.bool true) = ((setB (k + 1) n).map Value.bool).toArray := by
  rw [List.setIfInBounds_toArray]
  congr 1
  refine List.ext_getElem? fun i => ?_
  rw [List.getElem?_set]
  unfold setB
  simp only [List.getElem?_map, List.getElem?_append, List.getElem?_replicate, List.length_map, List.length_append, List.length_replicate]
  by_cases e : k = i
  · subst e
    rw [if_pos rfl, if_pos (show k < k + (n - k) by omega), if_pos (show k < k + 1 by omega)]
    simp
  · rw [if_neg e]
    by_cases h1 : i < k
    · simp only [h1, if_true, show i < k + 1 by omega]
    · simp only [h1, if_false, show ¬ i < k + 1 by omega]
      by_cases h2 : i < n
      · simp only [show i - k < n - k by omega, show i - (k + 1) < n - (k + 1) by omega, if_true]
      · simp only [show ¬ i - k < n - k by omega, show ¬ i - (k + 1) < n - (k + 1) by omega, if_false]

theorem own_block {w : World} {base e sz n : Nat} {v : Value} {xs : List Value} (h : w.ownsRow base e sz v n xs) (q : Nat) (hq : v.ownBlock = some q) : base ≤ q := by
  rcases h.2 with ⟨rfl, _⟩ | ⟨g, cap, cur, rfl, hb, _⟩
  · cases hq
  · simp only [Value.ownBlock, Option.some.injEq] at hq
    omega

/-- 'append(s, x...)' onto what the call owns: the operation's run. -/
theorem run_oappend {P : Program} {w : World} (ρ : Operand → Value) (o : Oper) (s x : Operand) (t : TypeId)
    (ho : o.op = .call { callee := .builtin .append, args := #[s, x], argTypes := #[t, t] })
    (base : Nat) (e : TypeId) (i : TypeInfo) (z : Value) (sz bytes : Nat) (ht : P.underlying t = some (.slice e)) (hi : P.info? e = some i) (hz : i.zero = some z)
    (hsize : i.size = sz) (hby : i.bytes = bytes) (hzs : z.cells.size = sz) (hsz : 0 < sz)
    (v : Value) (n : Nat) (xs : List Value) (hs : ρ s = v) (hown : w.ownsRow base e sz v n xs)
    (X : Value) (m : Nat) (cs : List Value) (hx : ρ x = X) (hX : IsRow sz w X m cs) (h1 : ∀ u ∈ cs, u.oneCell' = true) (h63 : n + m ≤ maxLen) (hbytes : (n + m) * bytes ≤ 140737488355328) (hbase : base ≤ w.heap.size) :
    ∃ v' w', (execOp ρ o).run P w = .ok (.value v') w' ∧ w'.ownsRow base e sz v' (n + m) (xs ++ cs) ∧ w.grownBy w' v.ownBlock ∧ (v'.ownBlock = v.ownBlock ∨ v'.ownBlock = some w.heap.size) := by
  obtain ⟨v', w', hr, h2, h3, h5⟩ := run_append_row (P := P) (w := w) base t o.type e i z sz bytes ht hi hz hsize hby hzs hsz v n xs hown X m cs hX h1 h63 hbytes hbase
  refine ⟨v', w', ?_, h2, h3, h5⟩
  unfold execOp
  simp only [ho, resolve, invoke, builtin, Sem.run_bind, Sem.run_pure, Result.andThen_ok, List.map_toArray, List.map_cons, List.map_nil, hs, hx, hr]

/-- The same, as a told region's step asks it. -/
theorem rel_oappend {P : Program} {w : World} {K : Value → World → Prop} (ρ : Operand → Value) (o : Oper) (s x : Operand) (t : TypeId)
    (ho : o.op = .call { callee := .builtin .append, args := #[s, x], argTypes := #[t, t] })
    (base : Nat) (e : TypeId) (i : TypeInfo) (z : Value) (sz bytes : Nat) (ht : P.underlying t = some (.slice e)) (hi : P.info? e = some i) (hz : i.zero = some z)
    (hsize : i.size = sz) (hby : i.bytes = bytes) (hzs : z.cells.size = sz) (hsz : 0 < sz)
    (v : Value) (n : Nat) (xs : List Value) (hs : ρ s = v) (hown : w.ownsRow base e sz v n xs)
    (X : Value) (m : Nat) (cs : List Value) (hx : ρ x = X) (hX : IsRow sz w X m cs) (h1 : ∀ u ∈ cs, u.oneCell' = true) (h63 : n + m ≤ maxLen) (hbytes : (n + m) * bytes ≤ 140737488355328) (hbase : base ≤ w.heap.size)
    (h : ∀ v' w', w'.ownsRow base e sz v' (n + m) (xs ++ cs) → w.grownBy w' v.ownBlock → K v' w') : relUpon P K ((execOp ρ o).run P w) := by
  obtain ⟨v', w', hr, h2, h3, _⟩ := run_oappend (P := P) (w := w) ρ o s x t ho base e i z sz bytes ht hi hz hsize hby hzs hsz v n xs hs hown X m cs hx hX h1 h63 hbytes hbase
  rw [hr]
  exact h v' w' h2 h3

/-- How far the chain has come: the empty row (1), l onto it (3), the row of one yes (4), that onto it (5), l again (7). -/
structure Ch (W0 : World) (l : List Bool) (b1 b3 b4 b5 b7 : Bool) (v1 v3 v4 v5 v7 : Value) (w : World) : Prop where
  below : Below W0.heap.size W0 w
  dep : (b7 = true → b5 = true) ∧ (b5 = true → b3 = true ∧ b4 = true) ∧ (b3 = true → b1 = true)
  one : b1 = true → b3 = false → ∃ g, v1 = .slice (some ⟨g, 0, none⟩) 0 0 ∧ W0.heap.size ≤ g ∧ HasBox w g 4 #[]
  tru : b4 = true → b5 = false → ∃ g, v4 = .slice (some ⟨g, 0, none⟩) 1 1 ∧ W0.heap.size ≤ g ∧ HasBox w g 4 #[.bool true]
  thr : b3 = true → b5 = false → w.ownsRow W0.heap.size 4 1 v3 l.length (l.map Value.bool)
  fiv : b5 = true → b7 = false → w.ownsRow W0.heap.size 4 1 v5 (l.length + 1) ((l ++ [true]).map Value.bool)
  sev : b7 = true → IsBools w v7 ((l ++ [true]) ++ l)

section
variable {W0 : World} {l : List Bool} {b1 b3 b4 b5 b7 : Bool} {v1 v3 v4 v5 v7 : Value} {w w' : World}
theorem Ch.start (h : Below W0.heap.size W0 w) : Ch W0 l false false false false false v1 v3 v4 v5 v7 w :=
  ⟨h, ⟨nofun, nofun, nofun⟩, nofun, nofun, nofun, nofun, nofun⟩
theorem Ch.over (h : Ch W0 l b1 b3 b4 b5 b7 v1 v3 v4 v5 v7 w) (hb : Below w.heap.size w w') : Ch W0 l b1 b3 b4 b5 b7 v1 v3 v4 v5 v7 w' where
  below := h.below.trans (hb.mono h.below.size)
  dep := h.dep
  one := fun h1 h2 => let ⟨g, e1, e2, e3⟩ := h.one h1 h2; ⟨g, e1, e2, e3.below hb⟩
  tru := fun h1 h2 => let ⟨g, e1, e2, e3⟩ := h.tru h1 h2; ⟨g, e1, e2, e3.below hb⟩
  thr := fun h1 h2 => own_on (h.thr h1 h2) fun g _ hg => hb.block g hg
  fiv := fun h1 h2 => own_on (h.fiv h1 h2) fun g _ hg => hb.block g hg
  sev := fun h1 => (h.sev h1).below hb
theorem Ch.make1 (h : Ch W0 l b1 b3 b4 b5 b7 v1 v3 v4 v5 v7 w) : Ch W0 l true b3 b4 b5 b7 (.slice (some ⟨w.heap.size, 0, none⟩) 0 0) v3 v4 v5 v7 (w.alloc (.cells #[] 4)) := by
  have hb : Below w.heap.size w (w.alloc (.cells #[] 4)) := (Below.refl _ _).alloc (Nat.le_refl _) _
  have H := h.over hb
  exact ⟨H.below, ⟨H.dep.1, H.dep.2.1, fun _ => rfl⟩, fun _ _ => ⟨_, rfl, h.below.size, hasBox_new w _ _⟩, H.tru, H.thr, H.fiv, H.sev⟩
theorem Ch.make4 (h : Ch W0 l b1 b3 b4 b5 b7 v1 v3 v4 v5 v7 w) : Ch W0 l b1 b3 true b5 b7 v1 v3 (.slice (some ⟨w.heap.size, 0, none⟩) 1 1) v5 v7 (w.alloc (.cells #[.bool true] 4)) := by
  have hb : Below w.heap.size w (w.alloc (.cells #[.bool true] 4)) := (Below.refl _ _).alloc (Nat.le_refl _) _
  have H := h.over hb
  exact ⟨H.below, ⟨H.dep.1, fun q => ⟨(H.dep.2.1 q).1, rfl⟩, H.dep.2.2⟩, H.one, fun _ _ => ⟨_, rfl, h.below.size, hasBox_new w _ _⟩, H.thr, H.fiv, H.sev⟩
/-- What the empty row is: owned. -/
theorem Ch.own1 (h : Ch W0 l b1 b3 b4 b5 b7 v1 v3 v4 v5 v7 w) (h1 : b1 = true) (h3 : b3 = false) : w.ownsRow W0.heap.size 4 1 v1 0 [] := by
  obtain ⟨g, rfl, e2, e3⟩ := h.one h1 h3
  exact ⟨rfl, .inr ⟨g, 0, #[], rfl, e2, e3, Nat.le_refl _, by decide, rfl, rfl⟩⟩
theorem Ch.app3 (h : Ch W0 l b1 b3 b4 b5 b7 v1 v3 v4 v5 v7 w) (h1 : b1 = true) (h3 : b3 = false) {u : Value} (ho : w'.ownsRow W0.heap.size 4 1 u l.length (l.map Value.bool)) (hg : w.grownBy w' v1.ownBlock) : Ch W0 l b1 true b4 b5 b7 v1 u v4 v5 v7 w' := by
  have h5 : b5 = false := by cases q : b5; rfl; rw [(h.dep.2.1 q).1] at h3; exact h3
  have h7 : b7 = false := by cases q : b7; rfl; rw [h.dep.1 q] at h5; exact h5
  refine ⟨h.below.grown hg h.below.size (own_block (h.own1 h1 h3)), ⟨h.dep.1, fun q => (by rw [h5] at q; cases q), fun _ => h1⟩, nofun, fun q4 q5 => ?_, fun _ _ => ho, fun q => (by rw [h5] at q; cases q), fun q => (by rw [h7] at q; cases q)⟩
  obtain ⟨g, e1, e2, e3⟩ := h.tru q4 q5
  obtain ⟨g1, f1, f2, f3⟩ := h.one h1 h3
  refine ⟨g, e1, e2, e3.grown hg fun hq => ?_⟩
  rw [f1] at hq
  simp only [Value.ownBlock, Option.some.injEq] at hq
  subst hq
  unfold HasBox at e3 f3
  rw [e3] at f3
  simp at f3
theorem Ch.app5 (h : Ch W0 l b1 b3 b4 b5 b7 v1 v3 v4 v5 v7 w) (h3 : b3 = true) (h4 : b4 = true) (h5 : b5 = false) {u : Value} (ho : w'.ownsRow W0.heap.size 4 1 u (l.length + 1) ((l ++ [true]).map Value.bool)) (hg : w.grownBy w' v3.ownBlock) : Ch W0 l b1 b3 b4 true b7 v1 v3 v4 u v7 w' := by
  have h7 : b7 = false := by cases q : b7; rfl; rw [h.dep.1 q] at h5; exact h5
  exact ⟨h.below.grown hg h.below.size (own_block (h.thr h3 h5)), ⟨fun _ => rfl, fun _ => ⟨h3, h4⟩, h.dep.2.2⟩, fun _ q => (by rw [h3] at q; cases q), nofun, nofun, fun _ _ => ho, fun q => (by rw [h7] at q; cases q)⟩
theorem Ch.app7 (h : Ch W0 l b1 b3 b4 b5 b7 v1 v3 v4 v5 v7 w) (h5 : b5 = true) (h7 : b7 = false) {u : Value} (ho : w'.ownsRow W0.heap.size 4 1 u (l.length + 1 + l.length) (((l ++ [true]) ++ l).map Value.bool)) (hg : w.grownBy w' v5.ownBlock) : Ch W0 l b1 b3 b4 b5 true v1 v3 v4 v5 u w' := by
  obtain ⟨h3, _⟩ := h.dep.2.1 h5
  exact ⟨h.below.grown hg h.below.size (own_block (h.fiv h5 h7)), ⟨fun _ => h5, h.dep.2⟩, fun _ q => (by rw [h3] at q; cases q), fun _ q => (by rw [h5] at q; cases q), fun _ q => (by rw [h5] at q; cases q), nofun, fun _ => own_bools ho (by simp; omega)⟩
theorem Ch.row4 (h : Ch W0 l b1 b3 b4 b5 b7 v1 v3 v4 v5 v7 w) (h4 : b4 = true) (h5 : b5 = false) : IsRow 1 w v4 1 [.bool true] := by
  obtain ⟨g, rfl, e2, e3⟩ := h.tru h4 h5
  exact bools_box (l := [true]) e3 (by decide)
end

end Go.Proofs.YtjknflpclniiiaaDoor

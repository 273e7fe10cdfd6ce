/-
  Function values that go through a list ('iter.Seq'). No program stands in it.
-/
import Derived.Test.YthmfmeibjpgokaaRowKit
import Derived.RangeFuncNested
import Derived.RangeFuncBound
import Derived.RangeFuncCalls
import Derived.RangeFuncLeaves
import Derived.RangeFuncBox
import Derived.Shelf.Abstract
import Derived.Shelf.RegionOpen
import Derived.OwnWalkIn
import Derived.TacticsInMore
import Derived.LoopNIn
import Derived.LoopIn
namespace Go.Proofs.Ythmfmeibjpgokaa
open Go.RowKit

/-- The blocks from n₀ to n₁ stand. -/
def KeepsIv (n₀ n₁ : Nat) (W W' : World) : Prop := ∀ b, n₀ ≤ b → b < n₁ → W'.heap[b]? = W.heap[b]?
theorem keepsIv_refl (n₀ n₁ : Nat) (W : World) : KeepsIv n₀ n₁ W W := fun _ _ _ => rfl
theorem keepsIv_t {n₀ n₁ : Nat} {A B C : World} (h : KeepsIv n₀ n₁ A B) (k : KeepsIv n₀ n₁ B C) : KeepsIv n₀ n₁ A C := fun b h1 h2 => (k b h1 h2).trans (h b h1 h2)
theorem keepsIv_b {n₀ n₁ : Nat} {w : World} (hn : n₁ ≤ w.heap.size) (W : World) (l : Nat) (o o' : Obj) (hl : w.heap.size ≤ l) (_ : W.heap[l]? = some o) (_ : o.isCells = false) (_ : o.isWalk = false) : KeepsIv n₀ n₁ W (W.putObj l o') :=
  fun b _ h2 => World.putObj_heap_other (by omega)
theorem keepsIv_below {n₀ n₁ n : Nat} {W W' : World} (h : Below n W W') (hn : n₁ ≤ n) : KeepsIv n₀ n₁ W W' := fun b _ h2 => (h.mono hn).block b h2
theorem keepsIv_set {n₀ n₁ B : Nat} (W : World) (v : Value) (hB : B < n₀) : KeepsIv n₀ n₁ W (W.setCell ⟨B, 0, none⟩ v) := fun b h1 _ => Below.heap_setCell _ _ _ b (fun e => by simp at e; omega)
theorem KeepsIv.mono {n₀ n₁ m : Nat} {W W' : World} (h : KeepsIv n₀ m W W') (hm : n₁ ≤ m) : KeepsIv n₀ n₁ W W' := fun b h1 h2 => h b h1 (by omega)
theorem KeepsIv.cell {n₀ n₁ : Nat} {W W' : World} (h : KeepsIv n₀ n₁ W W') (b o : Nat) (h1 : n₀ ≤ b) (h2 : b < n₁) : W'.cell? ⟨b, o, none⟩ = W.cell? ⟨b, o, none⟩ := by
  simp [World.cell?, h b h1 h2]

/-- A function value that goes through xs, whoever goes through it and wherever he leaves, as long as the blocks from n₀ on that lay there stand. -/
def IsSeqK {α : Type} (P : Program) (encs : α → Array Value) (n₀ : Nat) (w : World) (v : Value) (xs : List α) : Prop :=
  ∃ g lb, v = .func (.func g) #[] lb ∧ (∀ args w, (callFunc g args).run P w = .ok (.enter g args) w) ∧
    ∀ n, 1 ≤ n → SeqStopsK Fence.wide n P g lb encs (KeepsIv n₀ w.heap.size) (fun ys => ys = xs) (fun pre => pre <+: xs) xs.length w

theorem IsSeqK.below {α : Type} {P : Program} {encs : α → Array Value} {n₀ : Nat} {w w' : World} {v : Value} {xs : List α} (h : IsSeqK P encs n₀ w v xs) (hb : Below w.heap.size w w') : IsSeqK P encs n₀ w' v xs := by
  obtain ⟨g, lb, hv, he, hs⟩ := h
  refine ⟨g, lb, hv, he, fun n hn l J Jx W hW hJ hJx hY h0 => hs n hn l J Jx W (hb.trans (hW.mono hb.size)) hJ hJx (fun pre x W1 hJ1 hlt => ?_) h0⟩
  refine (hY pre x W1 hJ1 hlt).mono ?_
  rintro e W' (⟨h1, h2, h3⟩ | h)
  · exact .inl ⟨h1, h2, h3.mono hb.size⟩
  · exact .inr h

def encI (x : Int) : Array Value := #[.int .i64 x]

/-- One cell, laid down by the call. -/
theorem one_cell (w : World) (v : Value) (t g : Nat) (hg : g = w.heap.size) : IsRow 1 (w.alloc (.cells #[v] t)) (.slice (some ⟨g, 0, none⟩) 1 1) 1 [v] := by
  subst hg
  exact IsRow.fresh w [v] 1 1 t 1 rfl (by omega) (by unfold maxLen; omega) (by omega)

/-- 'append(s, x...)' onto what the call owns, inside a fence. -/
theorem wpListIn_append_row {F : Fence} {nf : Nat} {P : Program} {w : World} {ops : Array Oper} {rest : List Oper} {o : Oper} {a : Act} {Q : Exit → Act → World → Prop} (hgd : o.guard = none) (s x : Operand) (t : TypeId)
    (ho : o.op = .call { callee := .builtin .append, args := #[s, x], argTypes := #[t, t] })
    (base : Nat) (e : TypeId) (i : TypeInfo) (z : Value) (sz bytes : Nat) (ht : P.underlying t = some (.slice e)) (hi : P.info? e = some i) (hz : i.zero = some z)
    (hsize : i.size = sz) (hby : i.bytes = bytes) (hzs : z.cells.size = sz) (hsz : 0 < sz)
    (v : Value) (n : Nat) (xs : List Value) (hs : a.eval s = v) (hown : w.ownsRow base e sz v n xs)
    (X : Value) (m : Nat) (cs : List Value) (hx : a.eval x = X) (hX : IsRow sz w X m cs) (h1 : ∀ u ∈ cs, u.oneCell' = true) (h63 : n + m ≤ maxLen) (hbytes : (n + m) * bytes ≤ 140737488355328) (hbase : base ≤ w.heap.size)
    (h : ∀ v' w', w'.ownsRow base e sz v' (n + m) (xs ++ cs) → w.grownBy w' v.ownBlock → (v'.ownBlock = v.ownBlock ∨ v'.ownBlock = some w.heap.size) → wpListIn F nf P ops Q rest (a.put o.dst v') w') : wpListIn F nf P ops Q (o :: rest) a w := by
  refine wpListIn_plain hgd fun K hK' => ?_
  obtain ⟨v', w', hrun, h2, h3, h5⟩ := run_append_row (P := P) (w := w) base t o.type e i z sz bytes ht hi hz hsize hby hzs hsz v n xs hown X m cs hX h1 h63 hbytes hbase
  unfold Oper.wpIn
  refine ⟨?_, ?_⟩
  · simp [Oper.about, ho, resolve, Target.leads, Sem.run_pure]
  · rw [Oper.semAt_plain F _ _ (by rw [ho]; intro c hc'; cases hc')]
    simp [execOp, ho, resolve, invoke, builtin, hs, hx, hrun, Result.andThen]
    exact hK' _ _ (h v' w' h2 h3 h5)

/-- 'out = append(out, ..)', out in a box, its row beyond all boxes: what stands behind the store. -/
theorem boxed_gathered {W w1 : World} {n₀ base B : Nat} {t e : TypeId} {size : Nat} {v v' : Value} {k m : Nat} {xs ys : List Value} {tmp : Obj}
    (hv : Boxed W B t v) (hrow : W.ownsRow base e size v k xs) (hn₀ : n₀ ≤ B) (hB : B < base) (hbase : base ≤ W.heap.size)
    (hown' : w1.ownsRow base e size v' m ys) (hgrow : (W.alloc tmp).grownBy w1 v.ownBlock) :
    Boxed w1 B t v ∧ Boxed (w1.setCell ⟨B, 0, none⟩ v') B t v' ∧ (w1.setCell ⟨B, 0, none⟩ v').ownsRow base e size v' m ys ∧ KeepsOthers W (w1.setCell ⟨B, 0, none⟩ v') ∧ Below n₀ W (w1.setCell ⟨B, 0, none⟩ v') ∧ (∀ b, b < base → b ≠ B → (w1.setCell ⟨B, 0, none⟩ v').heap[b]? = W.heap[b]?) ∧
      ∀ B2 t2 u, Boxed W B2 t2 u → B2 ≠ B → B2 < base → Boxed (w1.setCell ⟨B, 0, none⟩ v') B2 t2 u := by
  have hne : ∀ B2, B2 < base → some B2 ≠ v.ownBlock := fun B2 h2 e' => by have := own_base hrow B2 e'.symm; omega
  have hne' : v'.ownBlock ≠ some B := fun e' => by have := own_base hown' B e'; omega
  have hv1 : Boxed w1 B t v := (hv.alloc tmp).kept hgrow (hne B hB)
  refine ⟨hv1, hv1.set v', hown'.kept (grownBy_setCell' w1 B v') (.inr hne'), ?_, ?_, fun b h2 hn => ?_, fun B2 t2 u h2 hn h3 => ((h2.alloc tmp).kept hgrow (hne B2 h3)).kept (grownBy_setCell' w1 B v') (by simpa using hn)⟩
  · refine ((KeepsOthers.alloc W tmp).trans (KeepsOthers.of_grownBy hgrow fun j o ej hj => ?_)).trans (KeepsOthers.setCell _ _ _)
    rcases (hrow.alloc tmp).2 with ⟨rfl, _⟩ | ⟨g, cap, cur, rfl, _, hgb, _⟩
    · simp [Value.ownBlock] at ej
    · obtain rfl : g = j := by simpa [Value.ownBlock] using ej
      rw [hgb] at hj; cases hj; rfl
  · refine (((Below.refl n₀ W).alloc (by omega) tmp).grown hgrow (by simp; omega) fun j ej => ?_).setCell (p := ⟨B, 0, none⟩) hn₀ v'
    have := own_base hrow j ej
    omega
  · rw [Below.heap_setCell _ _ _ b (fun e => hn (by simpa using e)), hgrow.block b (by simp; omega) (hne b h2)]
    exact Below.heap_alloc W tmp b (by omega)

theorem own_shape {w : World} {base e sz n : Nat} {v : Value} {cs : List Value} (h : w.ownsRow base e sz v n cs) : ∃ ao cap, v = .slice ao n cap := by
  rcases h.2 with ⟨rfl, h0⟩ | ⟨g, cap, cur, rfl, _⟩
  · exact ⟨none, 0, by rw [h0]⟩
  · exact ⟨_, _, rfl⟩

theorem boxed_below {w w' : World} {B t : Nat} {v : Value} (h : Boxed w B t v) (hb : Below w.heap.size w w') : Boxed w' B t v := (hb.block B h.lt).trans h

end Go.Proofs.Ythmfmeibjpgokaa

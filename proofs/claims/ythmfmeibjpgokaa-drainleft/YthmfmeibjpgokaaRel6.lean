/-
  A region that draws its order: each operation's value told by a word that later worlds keep.
-/
import Derived.Test.YthmfmeibjpgokaaRel3
namespace Go.Proofs.Ythmfmeibjpgokaa
open Go.RowKit

/-- What is said of a value and a world, and stays said while what was there stands. -/
structure MP where
  p : Value → World → Prop
  on : ∀ {v : Value} {w w' : World}, p v w → Below w.heap.size w w' → p v w'
def eqP (x : Value) : MP := ⟨fun v _ => v = x, fun h _ => h⟩
def anyP : MP := ⟨fun _ _ => True, fun _ _ => trivial⟩

theorem wp_region_mp {P : Program} {id : Nat} {l : List Oper} {Q : Exit → Act → World → Prop} {a0 : Act} {w0 : World} (L : List MP)
    (hm : P.follows .mixedOrders = true) (hB : relB3 a0.tmps.size l = true) (hstep : stepsAll3 P l.toArray a0 w0 (fun W W' => Below W.heap.size W W') (fun j => (L.getD j anyP).p) 0 l)
    (hend : ∀ (vs : Nat → Value) w, Below w0.heap.size w0 w → (∀ i, i < l.length → (L.getD i anyP).p (vs i) w) → Q .normal (putsV a0 (dstsV vs 0 l)) w) :
    (Code.region id l.toArray true).wp P Q a0 w0 :=
  wp_region_rel4 (fun W W' => Below W.heap.size W W') (fun j => (L.getD j anyP).p) hm hB (Below.refl _ _).drew (fun _ => Below.refl _ _) (fun _ _ _ h1 h2 => h1.trans (h2.mono h1.size)) (fun _ _ _ _ h hb => MP.on _ h hb) hstep hend

theorem yielded_undef {ops : Array Oper} {a : Act} {j d : Nat} (hd : (ops[j]?).bind (·.dst) = some d) (h : a.eval (.tmp d) = undef) : yielded ops a.tmps j = none := by
  unfold yielded
  rw [hd, Option.bind_some]
  simp only [Act.eval, Array.getD_eq_getD_getElem?] at h
  cases ht : a.tmps[d]? with
  | none => rfl
  | some v => rw [ht] at h; simp at h; subst h; rfl

end Go.Proofs.Ythmfmeibjpgokaa

/-
  The reference's answers to chapter 8: Change.
-/
import Derived.Test.YtcafjjfaamjipaaRefTable1
import Derived.Test.YtcafjjfaamjipaaRefInts
import Derived.Test.YtcafjjfaamjipaaHostsRow
import Derived.Deep.CutRange
namespace Go.Proofs.Ytcafjjfaamjipaa
open Go.RowKit

/-- Three rows of numbers of the call's own, each in a block of its own. -/
structure Three (w : World) (base e : Nat) (v1 : Value) (l1 : List Int) (v2 : Value) (l2 : List Int) (v3 : Value) (l3 : List Int) : Prop where
  o1 : w.ownsRow base e 1 v1 l1.length (l1.map (Value.int .i64))
  o2 : w.ownsRow base e 1 v2 l2.length (l2.map (Value.int .i64))
  o3 : w.ownsRow base e 1 v3 l3.length (l3.map (Value.int .i64))
  a12 : ∀ k, v1.ownBlock = some k → v2.ownBlock ≠ some k
  a13 : ∀ k, v1.ownBlock = some k → v3.ownBlock ≠ some k
  a23 : ∀ k, v2.ownBlock = some k → v3.ownBlock ≠ some k
theorem three_nil (w : World) (base e : Nat) : Three w base e nilW [] nilW [] nilW [] :=
  ⟨⟨rfl, .inl ⟨rfl, rfl⟩⟩, ⟨rfl, .inl ⟨rfl, rfl⟩⟩, ⟨rfl, .inl ⟨rfl, rfl⟩⟩, fun k h => by simp [Value.ownBlock] at h, fun k h => by simp [Value.ownBlock] at h, fun k h => by simp [Value.ownBlock] at h⟩
section
variable {w w' : World} {base e : Nat} {v1 v2 v3 : Value} {l1 l2 l3 : List Int}
theorem Three.below (h : Three w base e v1 l1 v2 l2 v3 l3) (hb : Below w.heap.size w w') : Three w' base e v1 l1 v2 l2 v3 l3 :=
  ⟨own_on h.o1 fun g _ hl => hb.block g hl, own_on h.o2 fun g _ hl => hb.block g hl, own_on h.o3 fun g _ hl => hb.block g hl, h.a12, h.a13, h.a23⟩
theorem Three.swap12 (h : Three w base e v1 l1 v2 l2 v3 l3) : Three w base e v2 l2 v1 l1 v3 l3 := ⟨h.o2, h.o1, h.o3, fun k a b => h.a12 k b a, h.a23, h.a13⟩
theorem Three.swap13 (h : Three w base e v1 l1 v2 l2 v3 l3) : Three w base e v3 l3 v2 l2 v1 l1 := ⟨h.o3, h.o2, h.o1, fun k a b => h.a23 k b a, fun k a b => h.a13 k b a, fun k a b => h.a12 k b a⟩
theorem own_lt {n sz : Nat} {v : Value} {xs : List Value} (h : w.ownsRow base e sz v n xs) : ∀ k, v.ownBlock = some k → k < w.heap.size := by
  intro k hk
  rcases h.2 with ⟨rfl, _⟩ | ⟨g, cap, cur, rfl, _, h3, _⟩
  · simp [Value.ownBlock] at hk
  · simp only [Value.ownBlock, Option.some.injEq] at hk
    subst hk
    exact (Array.getElem?_eq_some_iff.1 h3).1
theorem Three.snoc1 {x : Int} {va : Value} (h : Three w base e v1 l1 v2 l2 v3 l3) (hown : w'.ownsRow base e 1 va (l1.length + 1) (l1.map (Value.int .i64) ++ [.int .i64 x])) (hg : w.grownBy w' v1.ownBlock) (hat : va.ownBlock = v1.ownBlock ∨ va.ownBlock = some w.heap.size) :
    Three w' base e va (l1 ++ [x]) v2 l2 v3 l3 := by
  have ap : ∀ {v : Value} {n : Nat} {xs : List Value}, w.ownsRow base e 1 v n xs → (∀ k, v1.ownBlock = some k → v.ownBlock ≠ some k) → ∀ k, va.ownBlock = some k → v.ownBlock ≠ some k := fun ho ha k hk hv => by
    rcases hat with h1 | h1
    · exact ha k (by rw [← h1]; exact hk) hv
    · rw [h1] at hk
      have := own_lt ho k hv
      simp only [Option.some.injEq] at hk
      omega
  refine ⟨by simpa using hown, own_grown h.o2 hg fun k hk q => h.a12 k q hk, own_grown h.o3 hg fun k hk q => h.a13 k q hk, ap h.o2 h.a12, ap h.o3 h.a13, h.a23⟩
end
theorem int_row (w : World) (x : Int) (t g : Nat) (hg : g = w.heap.size) : IsRow 1 (w.alloc (.cells #[.int .i64 x] t)) (.slice (some ⟨g, 0, none⟩) 1 1) 1 [.int .i64 x] := by
  subst hg
  exact IsRow.fresh w [.int .i64 x] 1 1 t 1 rfl (Nat.le_refl _) (by unfold maxLen; omega) (by omega)
theorem infoInt : (Try.prog.info? 3).map (fun i => (i.zero, i.size, i.bytes)) = some (some (.int .i64 0), 1, 8) := by kernel_rfl

/-- Does it stand there, with the same address? -/
def standsH (l : List HostT) (h : HostT) : Bool := decide (0 ≤ findH l h.id) && ((l.getD (findH l h.id).toNat noHost).addr.toList == h.addr.toList)
theorem findH_at (l : List HostT) (id : Int) : findH l id = -1 ∨ ∃ j : Nat, j < l.length ∧ findH l id = j := by
  unfold findH
  cases h : l.findIdx? (fun h => h.id == id) with
  | none => exact .inl rfl
  | some i =>
    rw [List.findIdx?_eq_some_iff_getElem] at h
    exact .inr ⟨i, h.1, rfl⟩
def comeH (l ts : List HostT) : List Int := (ts.filter fun h => !standsH l h).map (·.id)
def stayH (l ts : List HostT) : List Int := (ts.filter fun h => standsH l h).map (·.id)
theorem comeH_take {l ts : List HostT} {k : Nat} (hk : k < ts.length) : comeH l (ts.take (k + 1)) = comeH l (ts.take k) ++ (if standsH l (ts.getD k noHost) then [] else [(ts.getD k noHost).id]) := by
  unfold comeH
  rw [List.take_succ_eq_append_getElem hk, List.filter_append, List.map_append]
  have : ts.getD k noHost = ts[k] := by simp [hk]
  rw [this]
  cases h : standsH l ts[k] <;> simp [h]
theorem stayH_take {l ts : List HostT} {k : Nat} (hk : k < ts.length) : stayH l (ts.take (k + 1)) = stayH l (ts.take k) ++ (if standsH l (ts.getD k noHost) then [(ts.getD k noHost).id] else []) := by
  unfold stayH
  rw [List.take_succ_eq_append_getElem hk, List.filter_append, List.map_append]
  have : ts.getD k noHost = ts[k] := by simp [hk]
  rw [this]
  cases h : standsH l ts[k] <;> simp [h]
theorem comeH_len (l ts : List HostT) : (comeH l ts).length ≤ ts.length := by unfold comeH; rw [List.length_map]; exact List.length_filter_le _ _
theorem stayH_len (l ts : List HostT) : (stayH l ts).length ≤ ts.length := by unfold stayH; rw [List.length_map]; exact List.length_filter_le _ _

end Go.Proofs.Ytcafjjfaamjipaa

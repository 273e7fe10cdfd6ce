/-
  The plain mathematics of chapter 8: who comes, who goes, who stays.
-/
import Derived.Test.YtcafjjfaamjipaaTableMath
namespace Go.Proofs.Ytcafjjfaamjipaa
open Go.RowKit

theorem rises_nodup {hs : List HostT} (hr : RisesH hs) {x y : HostT} (hx : x ∈ hs) (hy : y ∈ hs) (he : x.id = y.id) : x = y := by
  obtain ⟨i, hi, rfl⟩ := List.mem_iff_getElem.1 hx
  obtain ⟨j, hj, rfl⟩ := List.mem_iff_getElem.1 hy
  have hp := List.pairwise_iff_getElem.1 hr
  rcases Nat.lt_trichotomy i j with h | h | h
  · have := hp i j hi hj h; omega
  · subst h; rfl
  · have := hp j i hj hi h; omega
theorem stands_iff {hs : List HostT} (hr : RisesH hs) (x : HostT) : standsH hs x = true ↔ ∃ y ∈ hs, y.id = x.id ∧ y.addr = x.addr := by
  unfold standsH
  rcases findH_at hs x.id with h | ⟨j, hj, h⟩
  · rw [h]
    refine ⟨fun e => by simp at e, fun ⟨y, hy, e, _⟩ => ?_⟩
    exact absurd e (findH_neg.1 (by omega) y hy)
  · have hid := (findH_id h).2
    have e : hs.getD j noHost = hs[j] := by simp [hj]
    rw [e] at hid
    rw [h, Int.toNat_natCast, e, beq_str]
    simp only [Bool.and_eq_true, decide_eq_true_eq]
    refine ⟨fun ⟨_, h2⟩ => ⟨hs[j], List.getElem_mem hj, hid, h2⟩, fun ⟨y, hy, h1, h2⟩ => ⟨by omega, ?_⟩⟩
    rw [rises_nodup hr (List.getElem_mem hj) hy (hid.trans h1.symm)]
    exact h2
theorem stayH_rises {hs ts : List HostT} (hr : RisesH ts) : (stayH hs ts).Pairwise (· < ·) := by
  unfold stayH
  rw [List.pairwise_map]
  exact List.Pairwise.filter _ hr
theorem stayH_mem {hs ts : List HostT} (hr : RisesH hs) {n : Int} : n ∈ stayH hs ts ↔ ∃ x ∈ ts, ∃ y ∈ hs, y.id = n ∧ x.id = n ∧ y.addr = x.addr := by
  unfold stayH
  rw [List.mem_map]
  constructor
  · rintro ⟨x, hx, rfl⟩
    obtain ⟨h1, h2⟩ := List.mem_filter.1 hx
    obtain ⟨y, hy, h3, h4⟩ := (stands_iff hr x).1 h2
    exact ⟨x, h1, y, hy, h3, rfl, h4⟩
  · rintro ⟨x, hx, y, hy, h1, h2, h3⟩
    exact ⟨x, List.mem_filter.2 ⟨hx, (stands_iff hr x).2 ⟨y, hy, h1.trans h2.symm, h3⟩⟩, h2⟩
theorem stayH_comm {hs ts : List HostT} (h1 : RisesH hs) (h2 : RisesH ts) : stayH hs ts = stayH ts hs := by
  have a1 := stayH_rises (hs := hs) h2
  have a2 := stayH_rises (hs := ts) h1
  have n1 : (stayH hs ts).Nodup := a1.imp fun h => by omega
  have n2 : (stayH ts hs).Nodup := a2.imp fun h => by omega
  have hp : (stayH hs ts).Perm (stayH ts hs) := (List.perm_ext_iff_of_nodup n1 n2).2 fun n => by
    rw [stayH_mem h1, stayH_mem h2]
    exact ⟨fun ⟨x, hx, y, hy, p, q, r⟩ => ⟨y, hy, x, hx, q, p, r.symm⟩, fun ⟨x, hx, y, hy, p, q, r⟩ => ⟨y, hy, x, hx, q, p, r.symm⟩⟩
  exact hp.eq_of_pairwise (fun a b _ _ x y => by omega) a1 a2
theorem come_stay (hs ts : List HostT) : (comeH hs ts).length + (stayH hs ts).length = ts.length := by
  unfold comeH stayH
  rw [List.length_map, List.length_map]
  induction ts with
  | nil => rfl
  | cons x r ih =>
    rw [List.filter_cons, List.filter_cons]
    cases standsH hs x <;> simp <;> omega
theorem stands_self {hs : List HostT} (hr : RisesH hs) : ∀ x ∈ hs, standsH hs x = true := fun x hx => (stands_iff hr x).2 ⟨x, hx, rfl, rfl⟩
theorem come_self {hs : List HostT} (hr : RisesH hs) : comeH hs hs = [] := by
  unfold comeH
  rw [List.map_eq_nil_iff, List.filter_eq_nil_iff]
  intro x hx
  rw [stands_self hr x hx]
  simp
theorem stay_self {hs : List HostT} (hr : RisesH hs) : (stayH hs hs).length = hs.length := by
  have := come_stay hs hs
  rw [come_self hr] at this
  simpa using this

end Go.Proofs.Ytcafjjfaamjipaa

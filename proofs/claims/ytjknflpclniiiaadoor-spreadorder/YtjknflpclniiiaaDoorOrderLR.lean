/-
  Contracts of package order: Less, Rising.
-/
import Derived.Test.YtjknflpclniiiaaDoorKeyCut
namespace Go.Proofs.YtjknflpclniiiaaDoor
open Go.RowKit

set_option maxRecDepth 100000 in
set_option maxHeartbeats 1000000 in
theorem less_any (k l : Int × Int) (w : World) :
    Calls Tryd.prog 54 #[kval k, kval l] w fun e w' => e = .returned (.bool (ltK k l)) ∧ Below w.heap.size w w' := by
  unfold kval
  obtain ⟨a, b⟩ := k
  obtain ⟨c, d⟩ := l
  by_cases h2 : a = c
  · subst h2
    have hl : ltK (a, b) (a, d) = decide (b < d) := by unfold ltK; simp
    go_enter Tryd.func54, Tryd.ntmps54
    go_wp2
    go_ret
    exact ⟨ret_bool hl.symm, ((Below.refl _ _).alloc (Nat.le_refl _) _).alloc (by simp) _⟩
  · have hl : ltK (a, b) (c, d) = decide (a < c) := by unfold ltK; simp [h2]
    go_enter Tryd.func54, Tryd.ntmps54
    go_wp2
    go_ret
    exact ⟨ret_bool hl.symm, ((Below.refl _ _).alloc (Nat.le_refl _) _).alloc (by simp) _⟩

theorem rising_true {l : List (Int × Int)} {k : Nat} (h : ∀ j, j + 1 < k → j + 1 < l.length → ltK (l.getD j (0, 0)) (l.getD (j + 1) (0, 0)) = true) (hk : l.length ≤ k) : risingV l = true := by
  unfold risingV
  rw [List.all_eq_true]
  intro i hi
  have := List.mem_range.1 hi
  exact h i (by omega) (by omega)
theorem rising_false {l : List (Int × Int)} {k : Nat} (hk : k + 1 < l.length) (h : ltK (l.getD k (0, 0)) (l.getD (k + 1) (0, 0)) = false) : risingV l = false := by
  unfold risingV
  rw [List.all_eq_false]
  exact ⟨k, List.mem_range.2 (by omega), by simp only [h]; decide⟩

set_option maxRecDepth 100000 in
set_option maxHeartbeats 1000000 in
theorem rising_any (ks : List (Int × Int)) (v : Value) (w : World) (hv : IsKeys w v ks) (hlen : ks.length ≤ 1000000) :
    Calls Tryd.prog 41 #[v] w fun e w' => e = .returned (.bool (risingV ks)) ∧ Below w.heap.size w w' := by
  obtain ⟨ao, c1, rfl⟩ := hv.shape
  go_enter Tryd.func41, Tryd.ntmps41
  go_wp2
  go_loopw [3] (fun i wr => ∃ k : Nat, k ≤ ks.length ∧ i = .int .i64 (k + 1 : Nat) ∧ (∀ j, j + 1 < k + 1 → j + 1 < ks.length → ltK (ks.getD j (0, 0)) (ks.getD (j + 1) (0, 0)) = true) ∧ Below w.heap.size w wr) (fun i _ => ks.length + 1 - (intOf i).toNat)
  case atStart => exact ⟨0, Nat.zero_le _, rfl, fun j h => by omega, Below.refl _ _⟩
  case round =>
    obtain ⟨k, hk, rfl, ht, hb⟩ := hrel
    have HT : Hid (∀ j, j + 1 < k + 1 → j + 1 < ks.length → ltK (ks.getD j (0, 0)) (ks.getD (j + 1) (0, 0)) = true) := ht
    have HB : Hid (Below w.heap.size w wr) := hb
    clear ht
    by_cases hlt : k + 1 < ks.length
    · obtain ⟨b, off, rfl, hbl, g1, g2⟩ := (hv.below hb).at k (by omega)
      obtain ⟨b', off', e, _, g3, g4⟩ := (hv.below hb).at (k + 1) hlt
      simp only [Option.some.injEq, Addr.mk.injEq, and_true] at e
      obtain ⟨rfl, rfl⟩ := e
      clear hb
      have HF : Hid (ltK (ks.getD k (0, 0)) (ks.getD (k + 1) (0, 0)) = false → risingV ks = false) := rising_false hlt
      have HN : Hid (ltK (ks.getD k (0, 0)) (ks.getD (k + 1) (0, 0)) = true → ∀ j, j + 1 < k + 1 + 1 → j + 1 < ks.length → ltK (ks.getD j (0, 0)) (ks.getD (j + 1) (0, 0)) = true) := fun h j h1 h2 => by
        rcases Nat.lt_or_ge j k with h3 | h3
        · exact HT.out j (by omega) h2
        · have : j = k := by omega
          rw [this]; exact h
      generalize ks.getD k (0, 0) = x at g1 g2 HF HN
      generalize ks.getD (k + 1) (0, 0) = y at g3 g4 HF HN
      have : Nonempty (WB wr.heap.size wr) := ⟨⟨wr, Below.refl _ _⟩⟩
      have c1 : ∀ s : WB wr.heap.size wr, s.w.cell? ⟨b, off + k * 2, none⟩ = some (.int .i64 x.1) := fun s => (s.h.cell (p := ⟨b, off + k * 2, none⟩) hbl).trans g1
      have c2 : ∀ s : WB wr.heap.size wr, s.w.cell? ⟨b, off + k * 2 + 1, none⟩ = some (.int .i64 x.2) := fun s => (s.h.cell (p := ⟨b, off + k * 2 + 1, none⟩) hbl).trans g2
      have c3 : ∀ s : WB wr.heap.size wr, s.w.cell? ⟨b, off + (k + 1) * 2, none⟩ = some (.int .i64 y.1) := fun s => (s.h.cell (p := ⟨b, off + (k + 1) * 2, none⟩) hbl).trans g3
      have c4 : ∀ s : WB wr.heap.size wr, s.w.cell? ⟨b, off + (k + 1) * 2 + 1, none⟩ = some (.int .i64 y.2) := fun s => (s.h.cell (p := ⟨b, off + (k + 1) * 2 + 1, none⟩) hbl).trans g4
      have hls : ∀ s : WB wr.heap.size wr, Calls Tryd.prog 54 #[.agg #[.int .i64 x.1, .int .i64 x.2], .agg #[.int .i64 y.1, .int .i64 y.2]] s.w fun e w' => e = .returned (.bool (ltK x y)) ∧ Below s.w.heap.size s.w w' := fun s => less_any x y s.w
      generalize ltK x y = lt at HF HN hls
      go_wp2
      refine wp_region_below wr.heap.size wr (by kernel_rfl) (by kernel_rfl) (Below.refl _ _) ?_
      repeat (go_big_quiet_step (first
        | (go_at_call 54; exact calls_below (Nat.le_refl _) (hls _))))
      refine wpQuiet_nil ?_
      rintro _ ⟨s, rfl⟩
      have HB4 : Hid (Below w.heap.size w s.w) := HB.out.trans (s.h.mono HB.out.size)
      cases lt
      · go_wp2
        go_ret
        exact ⟨ret_bool (HF.out (by first | rfl | trivial)).symm, HB4.out⟩
      · go_wp2
        go_roundw
        case rel => exact ⟨k + 1, by omega, by go_num, HN.out (by first | rfl | trivial), HB4.out⟩
        case measure => simp [intOf]; omega
    · go_wp2
      go_ret
      exact ⟨ret_bool (rising_true HT.out (by omega)).symm, HB.out⟩

end Go.Proofs.YtjknflpclniiiaaDoor

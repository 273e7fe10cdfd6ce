/-
  The statements' own 'awake' of stage 3.
-/
import Derived.Test.YtciolgnmdlgilaaOrderFind
import Derived.Test.YtciolgnmdlgilaaOrderSort
namespace Go.Proofs.Ytciolgnmdlgilaa
open Go.RowKit

theorem awake_sorted : sortV [(2, 1), (1, 5), (2, 0)] = [(1, 5), (2, 0), (2, 1)] := by
  symm
  exact sortV_unique (by decide) (by decide)
theorem awake_found : findV [(1, 5), (2, 0), (2, 1)] (2, 0) = 1 := by decide
theorem awake_rising : risingV [(1, 5), (2, 0), (2, 1)] = true := by decide

set_option maxHeartbeats 1000000 in
theorem awake_any (w : World) :
    Calls Try.prog 8 #[] w fun e w' => e = .returned (.bool true) ∧ Below w.heap.size w w' := by
  go_enter Try.func8, Try.ntmps8
  go_wp2_with fail
  refine (sort_any [(2, 1), (1, 5), (2, 0)] _ _ (fresh_keys w [(2, 1), (1, 5), (2, 0)] 24 (by simp [inK]) (by simp) (by simp)) (by simp)).mono ?_
  rintro e w1 ⟨v, rfl, hk, hb⟩
  rw [awake_sorted] at hk
  obtain ⟨b, off, cap, hv⟩ : ∃ b off cap, v = .slice (some ⟨b, off, none⟩) 3 cap ∧ b < w1.heap.size ∧ w1.cell? ⟨b, off, none⟩ = some (.int .i64 1) ∧ w1.cell? ⟨b, off + 3, none⟩ = some (.int .i64 0) := by
    rcases hk.2.2 with ⟨h, _⟩ | ⟨_, b, off, cap, rfl, hlt, hc⟩
    · simp at h
    · exact ⟨b, off, cap, rfl, hlt, by simpa using (hc 0 (by simp)).1, by simpa [Nat.add_assoc] using (hc 1 (by simp)).2⟩
  obtain ⟨rfl, hlt, z1, z2⟩ := hv
  have HK : Hid (IsKeys w1 (.slice (some ⟨b, off, none⟩) 3 cap) [(1, 5), (2, 0), (2, 1)]) := hk
  have HB1 : Hid (Below w.heap.size w w1) := ((Below.refl _ _).alloc (Nat.le_refl _) _).trans (hb.mono (by simp))
  have HZ1 : Hid (w1.cell? ⟨b, off, none⟩ = some (.int .i64 1)) := z1
  have HZ2 : Hid (w1.cell? ⟨b, off + 3, none⟩ = some (.int .i64 0)) := z2
  clear hk hb z1 z2
  go_wp2_with fail
  refine (find_any [(1, 5), (2, 0), (2, 1)] (2, 0) _ _ HK.out (by decide) (by simp)).mono ?_
  rintro e w2 ⟨rfl, hb⟩
  rw [awake_found, show decide (((2 : Int), (0 : Int)) ∈ [((1 : Int), (5 : Int)), (2, 0), (2, 1)]) = true by decide]
  have z1 : w2.cell? ⟨b, off, none⟩ = some (.int .i64 1) := (hb.cell (p := ⟨b, off, none⟩) hlt).trans HZ1.out
  have z2 : w2.cell? ⟨b, off + 3, none⟩ = some (.int .i64 0) := (hb.cell (p := ⟨b, off + 3, none⟩) hlt).trans HZ2.out
  have HK2 : Hid (IsKeys w2 (.slice (some ⟨b, off, none⟩) 3 cap) [(1, 5), (2, 0), (2, 1)]) := HK.out.below hb
  have HB2 : Hid (Below w.heap.size w w2) := HB1.out.trans (hb.mono HB1.out.size)
  clear hb
  go_wp2_with fail
  refine (rising_any [(1, 5), (2, 0), (2, 1)] _ _ HK2.out (by simp)).mono ?_
  rintro e w3 ⟨rfl, hb⟩
  rw [awake_rising]
  have HB3 : Hid (Below w.heap.size w w3) := HB2.out.trans (hb.mono HB2.out.size)
  clear hb
  go_wp2
  go_ret
  exact ⟨rfl, HB3.out⟩

theorem less_to (k1 k2 l1 l2 : Int) (r : Bool) (h : ltK (k1, k2) (l1, l2) = r) (w : World) :
    Calls Try.prog 16 #[.agg #[.int .i64 k1, .int .i64 k2], .agg #[.int .i64 l1, .int .i64 l2]] w fun e w' => e = .returned (.bool r) ∧ Below w.heap.size w w' := by
  subst h; exact less_any (k1, k2) (l1, l2) w

theorem wb_next {B : Nat} {w0 w1 : World} {s : WB B w0} (hB : B ≤ w0.heap.size) (hb : Below s.w.heap.size s.w w1) : ∃ s1 : WB B w0, w1 = s1.w :=
  ⟨⟨w1, s.h.trans (hb.mono (Nat.le_trans hB s.h.size))⟩, rfl⟩

theorem find_to (ks : List (Int × Int)) (k1 k2 : Int) (v : Value) (w : World) (hv : IsKeys w v ks) (hk : SortedK ks) (hlen : ks.length ≤ 1000000) (F : Nat) (b : Bool) (h1 : findV ks (k1, k2) = F) (h2 : decide ((k1, k2) ∈ ks) = b) :
    Calls Try.prog 14 #[v, .agg #[.int .i64 k1, .int .i64 k2]] w fun e w' => e = .returned (.tuple #[.int .i64 (F : Nat), .bool b]) ∧ Below w.heap.size w w' := by
  subst h1 h2
  exact find_any ks (k1, k2) v w hv hk hlen
theorem rising_to (ks : List (Int × Int)) (v : Value) (w : World) (hv : IsKeys w v ks) (hlen : ks.length ≤ 1000000) (b : Bool) (h : risingV ks = b) :
    Calls Try.prog 15 #[v] w fun e w' => e = .returned (.bool b) ∧ Below w.heap.size w w' := by
  subst h
  exact rising_any ks v w hv hlen

end Go.Proofs.Ytciolgnmdlgilaa

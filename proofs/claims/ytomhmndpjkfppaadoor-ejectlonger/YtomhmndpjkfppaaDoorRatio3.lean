/-
  The contracts of package ratio's Sum and maySpread over a slice of numbers that lies in memory: what is returned, and that the world is as it was.
-/
import Derived.Test.YtomhmndpjkfppaaDoorRatio2
namespace Go.Proofs.YtomhmndpjkfppaaDoor
open Go.RowKit

set_option maxHeartbeats 1000000 in
theorem sum_any (zs : List Int) (v : Value) (w : World) (h : IsInts w v zs) :
    Calls Tryd.prog 22 #[v] w fun e w' => e = .returned (.int .i64 (sumV zs)) ∧ w' = w := by
  obtain ⟨hwf, hlen, h3⟩ := h
  rcases h3 with ⟨rfl, ao, cap, rfl, _⟩ | ⟨hne, b, off, cap, rfl, hlt, hc⟩
  · have H : Hid ((0 : Int) = sumV []) := rfl
    go_enter Tryd.func22, Tryd.ntmps22
    go_wp2
    go_loop [3, 8] (fun s i => s = .int .i64 0 ∧ i = .int .i64 0) (fun _ _ => 0)
    case atStart => exact ⟨rfl, rfl⟩
    case round =>
      obtain ⟨rfl, rfl⟩ := hrel
      go_wp2
      go_ret
      exact ⟨ret_int H.out, rfl⟩
  · obtain ⟨L, hL⟩ : ∃ L, zs.length = L := ⟨_, rfl⟩
    have HN : Hid (zs ≠ []) := hne
    have HW : Hid (∀ n ∈ zs, -9223372036854775808 ≤ n ∧ n ≤ 9223372036854775807) := hwf
    have HC : Hid (∀ i, i < zs.length → w.cell? ⟨b, off + i, none⟩ = some (.int .i64 (zs.getD i 0))) := hc
    have HL : Hid (zs.length = L) := hL
    rw [hL] at hlen ⊢
    clear hne hwf hc hL hlt
    go_enter Tryd.func22, Tryd.ntmps22
    go_wp2
    go_loop [3, 8] (fun s i => ∃ k : Nat, k ≤ L ∧ i = .int .i64 k ∧ s = .int .i64 (sm (zs.take k)) ∧ sm (zs.take k) ≤ 4611686018427387904) (fun _ i => L - (intOf i).toNat)
    case atStart => exact ⟨0, by omega, rfl, rfl, by simp [sm]⟩
    case round =>
      obtain ⟨k, hk, rfl, rfl, hs⟩ := hrel
      have hs0 := sm_nonneg (zs.take k)
      by_cases hlt : k < L
      · have hc := HC.out k (by rw [HL.out]; exact hlt)
        have hb := getD_bd HW.out k (by rw [HL.out]; exact hlt)
        have hsn := sm_snoc zs k (by rw [HL.out]; exact hlt)
        have HO : Hid (∀ k, 4611686018427387904 < sm (zs.take k) → sumV zs = 4611686018427387904) := sum_over zs
        generalize zs.getD k 0 = x at *
        have HS : Hid (sm (zs.take (k + 1)) = sm (zs.take k) + oz x) := hsn
        clear hsn
        have o1 := oz_nonneg x
        by_cases hx : 4611686018427387904 - sm (zs.take k) < x
        · have hE : Hid (4611686018427387904 = sumV zs) := by
            refine (HO.out (k + 1) ?_).symm
            rw [HS.out, oz_pos (by omega)]; omega
          go_wp2
          go_ret
          exact ⟨ret_int hE.out, rfl⟩
        · have o2 : oz x ≤ 4611686018427387904 - sm (zs.take k) := by unfold oz; split <;> omega
          go_wp2_with fail
          refine (orZero_any x _).mono ?_
          rintro e w1 ⟨rfl, rfl⟩
          go_wp2
          go_round
          case rel => exact ⟨k + 1, by omega, by go_num, by rw [HS.out], by rw [HS.out]; omega⟩
          case measure => simp [intOf]; omega
      · have hkL : k = L := by omega
        subst hkL
        have hE : Hid (sm (zs.take k) = sumV zs) := by
          show _ = _
          have e : zs.take k = zs := List.take_of_length_le (by rw [HL.out]; exact Nat.le_refl _)
          rw [e] at hs ⊢
          exact (sum_in zs hs).symm
        go_wp2
        go_ret
        exact ⟨ret_int hE.out, rfl⟩


end Go.Proofs.YtomhmndpjkfppaaDoor

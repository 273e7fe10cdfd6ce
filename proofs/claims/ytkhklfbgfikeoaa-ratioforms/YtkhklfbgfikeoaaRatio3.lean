/-
  The contracts of package ratio's Sum and maySpread over a slice of numbers that lies in memory: what is returned, and that the world is as it was.
-/
import Derived.Test.YtkhklfbgfikeoaaRatio2
namespace Go.Proofs.Ytkhklfbgfikeoaa
open Go.RowKit

set_option maxHeartbeats 1000000 in
theorem sum_any (zs : List Int) (v : Value) (w : World) (h : IsInts w v zs) :
    Calls Try.prog 16 #[v] w fun e w' => e = .returned (.int .i64 (sumV zs)) ∧ w' = w := by
  obtain ⟨hwf, hlen, h3⟩ := h
  rcases h3 with ⟨rfl, ao, cap, rfl, _⟩ | ⟨hne, b, off, cap, rfl, hlt, hc⟩
  · have H : Hid ((0 : Int) = sumV []) := rfl
    go_enter Try.func16, Try.ntmps16
    go_wp2
    go_loop [3, 8] (fun s i => s = .int .i64 0 ∧ i = .int .i64 0) (fun _ _ => 0)
    case atStart => exact ⟨rfl, rfl⟩
    case round =>
      obtain ⟨rfl, rfl⟩ := hrel
      go_wp2
      go_ret
      exact ⟨ret_int H.out, rfl⟩
  · obtain ⟨L, hL⟩ : ∃ L, zs.length = L := ⟨_, rfl⟩
    have HN : Hid (zs ≠ []) := hne
    have HW : Hid (∀ n ∈ zs, -9223372036854775808 ≤ n ∧ n ≤ 9223372036854775807) := hwf
    have HC : Hid (∀ i, i < zs.length → w.cell? ⟨b, off + i, none⟩ = some (.int .i64 (zs.getD i 0))) := hc
    have HL : Hid (zs.length = L) := hL
    rw [hL] at hlen ⊢
    clear hne hwf hc hL hlt
    go_enter Try.func16, Try.ntmps16
    go_wp2
    go_loop [3, 8] (fun s i => ∃ k : Nat, k ≤ L ∧ i = .int .i64 k ∧ s = .int .i64 (sm (zs.take k)) ∧ sm (zs.take k) ≤ 4611686018427387904) (fun _ i => L - (intOf i).toNat)
    case atStart => exact ⟨0, by omega, rfl, rfl, by simp [sm]⟩
    case round =>
      obtain ⟨k, hk, rfl, rfl, hs⟩ := hrel
      have hs0 := sm_nonneg (zs.take k)
      by_cases hlt : k < L
      · have hc := HC.out k (by rw [HL.out]; exact hlt)
        have hb := getD_bd HW.out k (by rw [HL.out]; exact hlt)
        have hsn := sm_snoc zs k (by rw [HL.out]; exact hlt)
        have HO : Hid (∀ k, 4611686018427387904 < sm (zs.take k) → sumV zs = 4611686018427387904) := sum_over zs
        generalize zs.getD k 0 = x at *
        have HS : Hid (sm (zs.take (k + 1)) = sm (zs.take k) + oz x) := hsn
        clear hsn
        have o1 := oz_nonneg x
        by_cases hx : 4611686018427387904 - sm (zs.take k) < x
        · have hE : Hid (4611686018427387904 = sumV zs) := by
            refine (HO.out (k + 1) ?_).symm
            rw [HS.out, oz_pos (by omega)]; omega
          go_wp2
          go_ret
          exact ⟨ret_int hE.out, rfl⟩
        · have o2 : oz x ≤ 4611686018427387904 - sm (zs.take k) := by unfold oz; split <;> omega
          go_wp2_with fail
          refine (orZero_any x _).mono ?_
          rintro e w1 ⟨rfl, rfl⟩
          go_wp2
          go_round
          case rel => exact ⟨k + 1, by omega, by go_num, by rw [HS.out], by rw [HS.out]; omega⟩
          case measure => simp [intOf]; omega
      · have hkL : k = L := by omega
        subst hkL
        have hE : Hid (sm (zs.take k) = sumV zs) := by
          show _ = _
          have e : zs.take k = zs := List.take_of_length_le (by rw [HL.out]; exact Nat.le_refl _)
          rw [e] at hs ⊢
          exact (sum_in zs hs).symm
        go_wp2
        go_ret
        exact ⟨ret_int hE.out, rfl⟩

set_option maxHeartbeats 1000000 in
theorem may_any (total : Int) (zs : List Int) (v : Value) (w : World) (h : IsInts w v zs) :
    Calls Try.prog 29 #[.int .i64 total, v] w fun e w' => e = .returned (.bool (mayB total zs)) ∧ w' = w := by
  by_cases h1 : total < 0
  · have H : Hid (false = mayB total zs) := (may_no1 total zs h1).symm
    go_enter Try.func29, Try.ntmps29
    go_wp2
    go_ret
    exact ⟨ret_bool H.out, rfl⟩
  · have h1' : 0 ≤ total := by omega
    clear h1
    by_cases h2 : 1000000 < total
    · have H : Hid (false = mayB total zs) := (may_no2 total zs h2).symm
      go_enter Try.func29, Try.ntmps29
      go_wp2
      go_ret
      exact ⟨ret_bool H.out, rfl⟩
    · have h2' : total ≤ 1000000 := by omega
      clear h2
      have HI : Hid (IsInts w v zs) := h
      obtain ⟨hwf, hlen, h3⟩ := h
      by_cases h4 : sumV zs = 0
      · have H : Hid (false = mayB total zs) := (may_no3 total zs h4).symm
        clear h3
        go_enter Try.func29, Try.ntmps29
        go_wp2_with fail
        refine (sum_any zs v _ HI.out).mono ?_
        rintro e w1 ⟨rfl, rfl⟩
        go_wp2
        go_ret
        exact ⟨ret_bool H.out, rfl⟩
      · rcases h3 with ⟨rfl, _⟩ | ⟨hne, b, off, cap, rfl, hlt, hc⟩
        · exact absurd rfl h4
        · have hl0 : 0 < zs.length := List.length_pos_iff.2 hne
          have HC : Hid (∀ i, i < zs.length → w.cell? ⟨b, off + i, none⟩ = some (.int .i64 (zs.getD i 0))) := hc
          have H4 : Hid (sumV zs ≠ 0) := h4
          have h4b : (sumV zs == 0) = false := by simp [h4]
          have HNo := fun k => may_no4 total zs k
          have HYes := fun a b => may_yes total zs a b h4
          obtain ⟨L, hL⟩ : ∃ L, zs.length = L := ⟨_, rfl⟩
          rw [hL] at hlen hl0 HI HC HNo HYes ⊢
          have HN : Hid _ := HNo
          have HY : Hid _ := HYes
          clear hwf hne hc hlt h4 hL HNo HYes
          have hm0 : 0 ≤ 4611686018427387904 / (L : Int) := Int.ediv_nonneg (by omega) (by omega)
          have hm1 : 4611686018427387904 / (L : Int) ≤ 4611686018427387904 := Int.ediv_le_self _ (by omega)
          go_enter Try.func29, Try.ntmps29
          go_wp2_with fail
          refine (sum_any zs _ _ HI.out).mono ?_
          rintro e w1 ⟨rfl, rfl⟩
          go_wp2
          go_loop [24] (fun i => ∃ k : Nat, k ≤ L ∧ i = .int .i64 k ∧ Hid (∀ j, j < k → zs.getD j 0 ≤ 4611686018427387904 / (L : Int))) (fun i => L - (intOf i).toNat)
          case atStart => exact ⟨0, by omega, rfl, fun j hj => absurd hj (by omega)⟩
          case round =>
            obtain ⟨k, hk, rfl, hall⟩ := hrel
            by_cases hlt : k < L
            · have hc := HC.out k hlt
              have hno := HN.out k hlt
              obtain ⟨x, hx⟩ : ∃ x, zs.getD k 0 = x := ⟨_, rfl⟩
              rw [hx] at hc hno
              have HX : Hid (zs.getD k 0 = x) := hx
              clear hx
              by_cases hgt : 4611686018427387904 / (L : Int) < x
              · have hE : Hid (false = mayB total zs) := (hno hgt).symm
                clear hno
                go_wp2
                go_ret
                exact ⟨ret_bool hE.out, rfl⟩
              · clear hno
                have HA : Hid (∀ j, j < k + 1 → zs.getD j 0 ≤ 4611686018427387904 / (L : Int)) := by
                  intro j hj
                  by_cases hjk : j = k
                  · subst hjk; rw [HX.out]; omega
                  · exact hall.out j (by omega)
                clear hall
                go_wp2
                go_round
                case rel => exact ⟨k + 1, by omega, by go_num, HA⟩
                case measure => simp [intOf]; omega
            · have hE : Hid (true = mayB total zs) := (HY.out h1' h2' fun j hj => hall.out j (by omega)).symm
              clear hall
              go_wp2
              go_ret
              exact ⟨ret_bool hE.out, rfl⟩

end Go.Proofs.Ytkhklfbgfikeoaa

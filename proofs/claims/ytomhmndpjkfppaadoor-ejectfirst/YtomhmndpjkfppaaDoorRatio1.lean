/-
  The contracts of package ratio's orZero, times, product, less, by: each call returns what the plain functions of Plain say, for every argument that its kind holds, and no memory that was there has turned.
-/
import Derived.Test.YtomhmndpjkfppaaDoorChecked
import Derived.Test.YtomhmndpjkfppaaDoorBase
namespace Go.Proofs.YtomhmndpjkfppaaDoor
open Go.RowKit

theorem orZero_any (n : Int) (w : World) :
    Calls Tryd.prog 29 #[.int .i64 n] w fun e w' => e = .returned (.int .i64 (oz n)) ∧ w' = w := by
  by_cases h0 : n < 0
  · have H := oz_neg h0
    generalize oz n = m at H
    subst H
    go_enter Tryd.func29, Tryd.ntmps29
    go_wp2
    go_ret
    exact ⟨rfl, rfl⟩
  · have H := oz_pos (n := n) (by omega)
    generalize oz n = m at H
    subst H
    go_enter Tryd.func29, Tryd.ntmps29
    go_wp2
    go_ret
    exact ⟨rfl, rfl⟩

set_option maxHeartbeats 1000000 in
theorem times_nat (x y : Nat) (w : World) (hx : x < 18446744073709551616) (hy : y < 18446744073709551616) :
    Calls Tryd.prog 46 #[.int .u64 x, .int .u64 y] w fun e w' => e = .returned (.agg #[.int .u64 ((x * y / 18446744073709551616 : Nat) : Int), .int .u64 ((x * y % 18446744073709551616 : Nat) : Int)]) ∧ Below w.heap.size w w' := by
  obtain ⟨b1, b2, b3, b4, b5, b6, b7, b8, h1, h2⟩ := times_law x y hx hy
  go_enter Tryd.func46, Tryd.ntmps46
  go_wp2
  simp only [maskN x hx, maskN y hy, divN, mulN, addN, wrapN _ b1, wrapN _ b2, wrapN _ b3, wrapN _ b4, maskN _ b3, wrapN _ b5, wrapN _ b6, wrapN _ b7, maskN _ b1, h1]
  rw [h1] at b8
  simp only [wrapN _ b8, lowN _ _ (Nat.mod_lt _ (by omega)), h2]
  exact bodyPost_ret (v := .agg #[.int .u64 ((x * y / 18446744073709551616 : Nat) : Int), .int .u64 ((x * y % 18446744073709551616 : Nat) : Int)]) (by simp [results, Tryd.results46, go_sem]) rfl ⟨rfl, (Below.refl _ _).alloc (Nat.le_refl _) _⟩

/-- 'times' over whole numbers. -/
theorem times_any (a b : Int) (w : World) (h0 : 0 ≤ a) (h1 : a ≤ 18446744073709551615) (h2 : 0 ≤ b) (h3 : b ≤ 18446744073709551615) :
    Calls Tryd.prog 46 #[.int .u64 a, .int .u64 b] w fun e w' => e = .returned (.agg #[.int .u64 (hiW (a * b)), .int .u64 (loW (a * b))]) ∧ Below w.heap.size w w' := by
  obtain ⟨x, rfl⟩ := Int.eq_ofNat_of_zero_le h0
  obtain ⟨y, rfl⟩ := Int.eq_ofNat_of_zero_le h2
  refine (times_nat x y w (by omega) (by omega)).mono ?_
  rintro e w' ⟨rfl, hb⟩
  refine ⟨?_, hb⟩
  simp [hiW, loW]

set_option maxHeartbeats 1000000 in
theorem product_any (a b : Int) (w : World) (ha : a ≤ 9223372036854775807) (hb : b ≤ 9223372036854775807) :
    Calls Tryd.prog 35 #[.int .i64 a, .int .i64 b] w fun e w' => e = .returned (.agg #[.int .u64 (hiW (oz a * oz b)), .int .u64 (loW (oz a * oz b))]) ∧ Below w.heap.size w w' := by
  have a0 := oz_nonneg a
  have b0 := oz_nonneg b
  have a1 := oz_le a _ ha (by omega)
  have b1 := oz_le b _ hb (by omega)
  have a2 : oz a ≤ 18446744073709551615 := by omega
  have b2 : oz b ≤ 18446744073709551615 := by omega
  go_enter Tryd.func35, Tryd.ntmps35
  go_wp2_with fail
  refine (orZero_any a _).mono ?_
  rintro e w1 ⟨rfl, rfl⟩
  go_wp2_with fail
  refine (orZero_any b _).mono ?_
  rintro e w1 ⟨rfl, rfl⟩
  go_wp2_with fail
  refine (times_any (oz a) (oz b) _ a0 a2 b0 b2).mono ?_
  rintro e w2 ⟨rfl, hb2⟩
  obtain ⟨hc, hf⟩ := bcell hb2
  have hz := hb2.size
  have hz1 : w.heap.size < w2.heap.size := by simp at hz; omega
  go_wp2
  refine bodyPost_ret (v := .agg #[.int .u64 (hiW (oz a * oz b)), .int .u64 (loW (oz a * oz b))]) (by simp [results, Tryd.results35, go_sem, hc]) rfl ⟨rfl, ?_⟩
  exact ((((Below.refl _ _).alloc (Nat.le_refl _) _).trans (hb2.mono (by simp))).setCell (by simp) _).setCell (by simp) _


set_option maxHeartbeats 1000000 in
theorem by_no (p c : Int) (w : World) (h : c ≤ hiW p) :
    Calls Tryd.prog 36 #[.agg #[.int .u64 (hiW p), .int .u64 (loW p)], .int .u64 c] w fun e w' => e = .returned (.tuple #[.int .u64 0, .bool false]) ∧ Below w.heap.size w w' := by
  go_enter Tryd.func36, Tryd.ntmps36
  go_wp2
  go_ret2
  exact ⟨rfl, (Below.refl _ _).alloc (Nat.le_refl _) _⟩

set_option maxHeartbeats 1000000 in
theorem by_yes (p c : Int) (w : World) (h0 : 0 ≤ p) (h : hiW p < c) (hc : c ≤ 9223372036854775807) :
    Calls Tryd.prog 36 #[.agg #[.int .u64 (hiW p), .int .u64 (loW p)], .int .u64 c] w fun e w' => e = .returned (.tuple #[.int .u64 (p / c), .bool true]) ∧ Below w.heap.size w w' := by
  have hl := loW_bd p
  have hnn : ¬ c ≤ hiW p := by omega
  go_enter Tryd.func36, Tryd.ntmps36
  go_wp2
  go_loop [6, 7, 16] (fun r q i => ∃ k : Nat, k ≤ 64 ∧ i = .int .i64 k ∧ r = .int .u64 (restAt p c k) ∧ q = .int .u64 (quotAt p c k)) (fun _ _ i => 64 - (intOf i).toNat)
  case atStart =>
    have hs := by_start p c h0 h
    exact ⟨0, by omega, rfl, by rw [hs.1], by rw [hs.2]⟩
  case round =>
    obtain ⟨k, hk, rfl, rfl, rfl⟩ := hrel
    have hp : 0 ≤ hiW p := by unfold hiW; omega
    have hc1 : 0 < c := by omega
    by_cases hlt : k < 64
    · have br := rest_bd p c k hc1
      have bq := quot_bd p c k h0 hc1 h
      have bq1 := quot_bd p c (k + 1) h0 hc1 h
      have bs := low_shift_bd p (63 - k)
      have eb : bits .and .u64 (loW p / 2 ^ (63 - k)) 1 = p / 2 ^ (63 - k) % 2 := by rw [bitN _ bs.1 bs.2, low_bit p _ (by omega)]
      have eo : bits .or .u64 (restAt p c k * 2) (p / 2 ^ (63 - k) % 2) = nextR p c k := orBit _ _ br.1 (by omega) (by omega) (by omega)
      have bn : 0 ≤ nextR p c k := by unfold nextR; omega
      have bn2 : nextR p c k ≤ 18446744073709551615 := by unfold nextR; omega
      by_cases hge : c ≤ nextR p c k
      · have HS := step_hi p c k hlt hc1 hge
        have e1 : bits .or .u64 (quotAt p c k * 2) 1 = quotAt p c k * 2 + 1 := orBit _ 1 bq.1 (by omega) (by omega) (by omega)
        have bq2 : quotAt p c k * 2 ≤ 18446744073709551615 := by omega
        have H1 : Hid (nextR p c k - c = restAt p c (k + 1)) := HS.1.symm
        have H2 : Hid (quotAt p c k * 2 + 1 = quotAt p c (k + 1)) := HS.2.symm
        clear HS
        go_wp2
        go_round
        case rel => exact ⟨k + 1, by omega, by go_num, by rw [H1.out], by rw [H2.out]⟩
        case measure => simp [intOf]; omega
      · have HS := step_lo p c k hlt hc1 (by omega)
        have bq2 : quotAt p c k * 2 ≤ 18446744073709551615 := by omega
        have H1 : Hid (nextR p c k = restAt p c (k + 1)) := HS.1.symm
        have H2 : Hid (quotAt p c k * 2 = quotAt p c (k + 1)) := HS.2.symm
        clear HS
        go_wp2
        go_round
        case rel => exact ⟨k + 1, by omega, by go_num, by rw [H1.out], by rw [H2.out]⟩
        case measure => simp [intOf]; omega
    · have hk64 : k = 64 := by omega
      subst hk64
      have HE : Hid (quotAt p c 64 = p / c) := by_end p c
      go_wp2
      go_ret2
      exact ⟨ret_ib HE.out true, (Below.refl _ _).alloc (Nat.le_refl _) _⟩

end Go.Proofs.YtomhmndpjkfppaaDoor

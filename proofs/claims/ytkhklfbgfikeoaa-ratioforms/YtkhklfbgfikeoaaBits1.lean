/-
  The contracts of math/bits' Len64, LeadingZeros64 and Mul64, whose Go texts are walked: how many bits a word has, how many are nought ahead of them, a product of 128 bits.
-/
import Derived.Test.YtkhklfbgfikeoaaKit
import Derived.Test.YtkhklfbgfikeoaaChecked
import Derived.Lib.BitFns
namespace Go.Proofs.Ytkhklfbgfikeoaa
open Go.RowKit

theorem tab_int (x : Int) (h : x.toNat < Lib.len8tab.size) (h0 : 0 ≤ x) (h1 : x ≤ 255) : wrap64 ((Lib.len8tab[x.toNat]).toNat : Int) = (Lib.bitLen x.toNat : Int) := by
  have l := Lib.bitLen_le x.toNat 8 (by omega) (by omega)
  have e : ((Lib.len8tab[x.toNat]).toNat : Int) = Lib.len8 x := by
    unfold Lib.len8
    rw [getElem?_pos Lib.len8tab x.toNat h]
    rfl
  rw [e, Lib.len8_of x h0 h1]
  exact IntWalk.wrap64_in _ ⟨by omega, by omega⟩
theorem tab_sum (c x y : Int) (k : Nat) (h : y.toNat < Lib.len8tab.size) (h0 : 0 ≤ y) (h1 : y ≤ 255) (hc : c = k) (hk : k ≤ 56) (he : Lib.bitLen x.toNat = k + Lib.bitLen y.toNat) :
    wrap64 (c + wrap64 ((Lib.len8tab[y.toNat]).toNat : Int)) = (Lib.bitLen x.toNat : Int) := by
  have l := Lib.bitLen_le y.toNat 8 (by omega) (by omega)
  rw [tab_int y h h0 h1, he, hc]
  rw [IntWalk.wrap64_in _ ⟨by omega, by omega⟩]
  omega

set_option maxHeartbeats 4000000 in
set_option maxRecDepth 100000 in
theorem len64_any (x : Int) (w : World) (h0 : 0 ≤ x) (h1 : x ≤ 18446744073709551615) :
    Calls Try.prog 33 #[.int .u64 x] w fun e w' => e = .returned (.int .i64 (Lib.bitLen x.toNat)) ∧ w' = w := by
  have hsz : Lib.len8tab.size = 256 := Lib.len8tab_size
  have hcase : x < 256 ∨ (256 ≤ x ∧ x < 65536) ∨ (65536 ≤ x ∧ x / 65536 < 256) ∨ (256 ≤ x / 65536 ∧ x < 4294967296) ∨ (4294967296 ≤ x ∧ x / 4294967296 < 256) ∨ (256 ≤ x / 4294967296 ∧ x / 4294967296 < 65536)
      ∨ (65536 ≤ x / 4294967296 ∧ x / 4294967296 / 65536 < 256) ∨ 256 ≤ x / 4294967296 / 65536 := by omega
  rcases hcase with h | ⟨h, h2⟩ | ⟨h, h2⟩ | ⟨h, h2⟩ | ⟨h, h2⟩ | ⟨h, h2⟩ | ⟨h, h2⟩ | h
  all_goals
    go_enter Try.func33, Try.ntmps33
    go_wp2
    go_ret
    refine ⟨ret_int ?_, rfl⟩
  · rw [tab_int x _ h0 (by omega)]
    have l := Lib.bitLen_le x.toNat 8 (by omega) (by omega)
    exact IntWalk.wrap64_in _ ⟨by omega, by omega⟩
  · refine tab_sum 8 x (x / 256) 8 _ (by omega) (by omega) rfl (by omega) ?_
    rw [Lib.bitLen_shift8 x.toNat (by omega) (by omega)]
    have e : (x / 256).toNat = x.toNat / 256 := by omega
    rw [e]
  · refine tab_sum 16 x (x / 65536) 16 _ (by omega) (by omega) rfl (by omega) ?_
    rw [Lib.bitLen_shift16 x.toNat (by omega) (by omega)]
    have e : (x / 65536).toNat = x.toNat / 65536 := by omega
    rw [e]
  · refine tab_sum 24 x (x / 65536 / 256) 24 _ (by omega) (by omega) rfl (by omega) ?_
    rw [Lib.bitLen_shift24 x.toNat (by omega) (by omega)]
    have e : (x / 65536 / 256).toNat = x.toNat / 16777216 := by omega
    rw [e]
  · refine tab_sum 32 x (x / 4294967296) 32 _ (by omega) (by omega) rfl (by omega) ?_
    rw [Lib.bitLen_shift32 x.toNat (by omega) (by omega)]
    have e : (x / 4294967296).toNat = x.toNat / 4294967296 := by omega
    rw [e]
  · refine tab_sum 40 x (x / 4294967296 / 256) 40 _ (by omega) (by omega) rfl (by omega) ?_
    rw [Lib.bitLen_shift40 x.toNat (by omega) (by omega)]
    have e : (x / 4294967296 / 256).toNat = x.toNat / 1099511627776 := by omega
    rw [e]
  · refine tab_sum 48 x (x / 4294967296 / 65536) 48 _ (by omega) (by omega) rfl (by omega) ?_
    rw [Lib.bitLen_shift48 x.toNat (by omega) (by omega)]
    have e : (x / 4294967296 / 65536).toNat = x.toNat / 281474976710656 := by omega
    rw [e]
  · refine tab_sum 56 x (x / 4294967296 / 65536 / 256) 56 _ (by omega) (by omega) rfl (by omega) ?_
    rw [Lib.bitLen_shift56 x.toNat (by omega) (by omega)]
    have e : (x / 4294967296 / 65536 / 256).toNat = x.toNat / 72057594037927936 := by omega
    rw [e]

/-- A word has just so many bits. -/
theorem bl_spec : ∀ (n x : Nat), x < 2 ^ n → n ≤ 64 → x < 2 ^ Lib.bitLen x ∧ (x ≠ 0 → 1 ≤ Lib.bitLen x ∧ 2 ^ (Lib.bitLen x - 1) ≤ x)
  | 0, x, h, _ => by
    have : x = 0 := by simpa using h
    subst this
    exact ⟨by decide, fun h => absurd rfl h⟩
  | n + 1, x, h, hn => by
    by_cases h0 : x = 0
    · subst h0
      exact ⟨by decide, fun h => absurd rfl h⟩
    · have hx : x < 2 ^ 64 := Nat.lt_of_lt_of_le h (Nat.pow_le_pow_right (by omega) hn)
      have ih := bl_spec n (x / 2) (by rw [Nat.pow_succ] at h; omega) (by omega)
      rw [Lib.bitLen_half x h0 hx]
      refine ⟨?_, fun _ => ⟨by omega, ?_⟩⟩
      · rw [Nat.add_comm, Nat.pow_succ]; omega
      · by_cases h1 : x / 2 = 0
        · have e : Lib.bitLen (x / 2) = 0 := by rw [h1]; decide
          rw [e]; simp; omega
        · obtain ⟨i1, i2⟩ := ih.2 h1
          have e : 1 + Lib.bitLen (x / 2) - 1 = (Lib.bitLen (x / 2) - 1) + 1 := by omega
          rw [e, Nat.pow_succ]; omega

/-- How far a word can be shifted. -/
def lz (y : Int) : Nat := 64 - Lib.bitLen y.toNat
theorem lz_spec (y : Int) (h0 : 1 ≤ y) (h1 : y ≤ 9223372036854775807) : 1 ≤ lz y ∧ lz y ≤ 63 ∧ 9223372036854775808 ≤ y * 2 ^ lz y ∧ y * 2 ^ lz y ≤ 18446744073709551615 := by
  obtain ⟨n, rfl⟩ := Int.eq_ofNat_of_zero_le (by omega : 0 ≤ y)
  have hs := bl_spec 64 n (by omega) (by omega)
  have hl := Lib.bitLen_le n 63 (by omega) (by omega)
  obtain ⟨b1, b2⟩ := hs.2 (by omega)
  unfold lz
  rw [Int.toNat_natCast]
  have e1 : (9223372036854775808 : Nat) = 2 ^ (Lib.bitLen n - 1) * 2 ^ (64 - Lib.bitLen n) := by
    rw [← Nat.pow_add, show Lib.bitLen n - 1 + (64 - Lib.bitLen n) = 63 by omega]
  have e2 : (18446744073709551616 : Nat) = 2 ^ Lib.bitLen n * 2 ^ (64 - Lib.bitLen n) := by
    rw [← Nat.pow_add, show Lib.bitLen n + (64 - Lib.bitLen n) = 64 by omega]
  have p : 0 < 2 ^ (64 - Lib.bitLen n) := Nat.pow_pos (by omega)
  have m1 : 2 ^ (Lib.bitLen n - 1) * 2 ^ (64 - Lib.bitLen n) ≤ n * 2 ^ (64 - Lib.bitLen n) := Nat.mul_le_mul_right _ b2
  have m2 : n * 2 ^ (64 - Lib.bitLen n) < 2 ^ Lib.bitLen n * 2 ^ (64 - Lib.bitLen n) := Nat.mul_lt_mul_of_pos_right hs.1 p
  have c : ((n * 2 ^ (64 - Lib.bitLen n) : Nat) : Int) = (n : Int) * 2 ^ (64 - Lib.bitLen n) := by
    rw [Int.natCast_mul, Int.natCast_pow]; rfl
  rw [← c]
  omega

set_option maxHeartbeats 1000000 in
theorem leading_any (y : Int) (w : World) (h0 : 1 ≤ y) (h1 : y ≤ 9223372036854775807) :
    Calls Try.prog 32 #[.int .u64 y] w fun e w' => e = .returned (.int .i64 (lz y)) ∧ w' = w := by
  have hl := Lib.bitLen_le y.toNat 64 (by omega) (by omega)
  have H : Hid (64 - (Lib.bitLen y.toNat : Int) = (lz y : Int)) := by show _ = _; unfold lz; omega
  go_enter Try.func32, Try.ntmps32
  go_wp2_with fail
  refine (len64_any y _ (by omega) (by omega)).mono ?_
  rintro e w1 ⟨rfl, hw⟩
  subst w1
  go_wp2
  go_ret
  exact ⟨ret_int H.out, rfl⟩

theorem ret_uu {a b c d : Int} (h : a = c) (h2 : b = d) : Ending.returned (.tuple #[.int .u64 a, .int .u64 b]) = .returned (.tuple #[.int .u64 c, .int .u64 d]) := by rw [h, h2]

set_option maxHeartbeats 1000000 in
theorem mul64_nat (x y : Nat) (w : World) (hx : x < 18446744073709551616) (hy : y < 18446744073709551616) :
    Calls Try.prog 25 #[.int .u64 x, .int .u64 y] w fun e w' => e = .returned (.tuple #[.int .u64 ((x * y / 18446744073709551616 : Nat) : Int), .int .u64 ((x * y % 18446744073709551616 : Nat) : Int)]) ∧ w' = w := by
  obtain ⟨b1, b2, b3, b4, _, b6, b7, b8, h1, _⟩ := times_law x y hx hy
  obtain ⟨_, _, c5, c8⟩ := Lib.mul64_hi x y hx hy
  rw [h1] at b8
  have b9 := b8
  rw [← c8] at b9
  clear h1
  go_enter Try.func25, Try.ntmps25
  go_wp2
  simp only [maskN x hx, maskN y hy, divN, mulN, addN, wrapN _ b1, wrapN _ b2, wrapN _ b3, maskN _ b3, wrapN _ b4, wrapN _ c5, wrapN _ b6, wrapN _ b7, wrapN _ b9, wrapM (x * y)]
  rw [c8]
  go_ret2
  exact ⟨rfl, rfl⟩

/-- The product of two words, by its words. -/
theorem mul64_any (a b : Int) (w : World) (h0 : 0 ≤ a) (h1 : a ≤ 18446744073709551615) (h2 : 0 ≤ b) (h3 : b ≤ 18446744073709551615) :
    Calls Try.prog 25 #[.int .u64 a, .int .u64 b] w fun e w' => e = .returned (.tuple #[.int .u64 (hiW (a * b)), .int .u64 (loW (a * b))]) ∧ w' = w := by
  obtain ⟨x, rfl⟩ := Int.eq_ofNat_of_zero_le h0
  obtain ⟨y, rfl⟩ := Int.eq_ofNat_of_zero_le h2
  refine (mul64_nat x y w (by omega) (by omega)).mono ?_
  rintro e w' ⟨rfl, hw⟩
  refine ⟨?_, hw⟩
  simp [hiW, loW]

end Go.Proofs.Ytkhklfbgfikeoaa

/-
  The contract of math/bits' Mul64, whose Go text is walked: a product of 128 bits.
-/
import Derived.Test.YtjknflpclniiiaaDoorBase
import Derived.Test.YtjknflpclniiiaaDoorChecked
namespace Go.Proofs.YtjknflpclniiiaaDoor
open Go.RowKit

theorem ret_uu {a b c d : Int} (h : a = c) (h2 : b = d) : Ending.returned (.tuple #[.int .u64 a, .int .u64 b]) = .returned (.tuple #[.int .u64 c, .int .u64 d]) := by rw [h, h2]

set_option maxHeartbeats 1000000 in
theorem mul64_nat (x y : Nat) (w : World) (hx : x < 18446744073709551616) (hy : y < 18446744073709551616) :
    Calls Tryd.prog 38 #[.int .u64 x, .int .u64 y] w fun e w' => e = .returned (.tuple #[.int .u64 ((x * y / 18446744073709551616 : Nat) : Int), .int .u64 ((x * y % 18446744073709551616 : Nat) : Int)]) ∧ w' = w := by
  obtain ⟨b1, b2, b3, b4, _, b6, b7, b8, h1, _⟩ := times_law x y hx hy
  obtain ⟨_, _, c5, c8⟩ := Lib.mul64_hi x y hx hy
  rw [h1] at b8
  have b9 := b8
  rw [← c8] at b9
  clear h1
  go_enter Tryd.func38, Tryd.ntmps38
  go_wp2
  simp only [maskN x hx, maskN y hy, divN, mulN, addN, wrapN _ b1, wrapN _ b2, wrapN _ b3, maskN _ b3, wrapN _ b4, wrapN _ c5, wrapN _ b6, wrapN _ b7, wrapN _ b9, wrapM (x * y)]
  rw [c8]
  go_ret2
  exact ⟨rfl, rfl⟩

/-- The product of two words, by its words. -/
theorem mul64_any (a b : Int) (w : World) (h0 : 0 ≤ a) (h1 : a ≤ 18446744073709551615) (h2 : 0 ≤ b) (h3 : b ≤ 18446744073709551615) :
    Calls Tryd.prog 38 #[.int .u64 a, .int .u64 b] w fun e w' => e = .returned (.tuple #[.int .u64 (hiW (a * b)), .int .u64 (loW (a * b))]) ∧ w' = w := by
  obtain ⟨x, rfl⟩ := Int.eq_ofNat_of_zero_le h0
  obtain ⟨y, rfl⟩ := Int.eq_ofNat_of_zero_le h2
  refine (mul64_nat x y w (by omega) (by omega)).mono ?_
  rintro e w' ⟨rfl, hw⟩
  refine ⟨?_, hw⟩
  simp [hiW, loW]

end Go.Proofs.YtjknflpclniiiaaDoor

/-
  Plain mathematics of a quotient by two digits of 32 bits each: a guess of a digit, put right; two digits are the quotient.
-/
import Derived.Test.YtkhklfbgfikeoaaPlain
namespace Go.Proofs.Ytkhklfbgfikeoaa

/-- The digit. -/
def dg (A d Y : Int) : Int := (A * 4294967296 + d) / Y

theorem dg_bd (A d Y : Int) (hA : 0 ≤ A) (hAY : A < Y) (hd : 0 ≤ d) (hd2 : d < 4294967296) : 0 ≤ dg A d Y ∧ dg A d Y < 4294967296 := by
  unfold dg
  refine ⟨Int.ediv_nonneg (by omega) (by omega), Int.ediv_lt_of_lt_mul (by omega) ?_⟩
  omega

/-- The digit is the only one that leaves a rest below Y. -/
theorem dg_rest (A d Y : Int) (hAY : A < Y) (hA : 0 ≤ A) : 0 ≤ A * 4294967296 + d - dg A d Y * Y ∧ A * 4294967296 + d - dg A d Y * Y < Y := by
  have h1 := Int.emod_add_mul_ediv (A * 4294967296 + d) Y
  have h2 := Int.emod_nonneg (A * 4294967296 + d) (by omega : Y ≠ 0)
  have h3 := Int.emod_lt_of_pos (A * 4294967296 + d) (by omega : 0 < Y)
  unfold dg
  rw [Int.mul_comm ((A * 4294967296 + d) / Y) Y]
  omega

theorem dg_le (A d Y q : Int) (hY : 0 < Y) (h : q * Y ≤ A * 4294967296 + d) : q ≤ dg A d Y := (Int.le_ediv_iff_mul_le hY).2 h
theorem dg_lt (A d Y q : Int) (hY : 0 < Y) (h : A * 4294967296 + d < q * Y) : dg A d Y < q := Int.ediv_lt_of_lt_mul hY h

/-- The first guess. -/
theorem guess_first (A d Y y1 y0 : Int) (hA : 0 ≤ A) (hAY : A < Y) (hd : 0 ≤ d) (hd2 : d < 4294967296) (hY : Y = y1 * 4294967296 + y0) (h1 : 2147483648 ≤ y1) (h0 : 0 ≤ y0) (h02 : y0 < 4294967296) :
    dg A d Y ≤ A / y1 ∧ A / y1 ≤ 4294967297 ∧ 0 ≤ A - A / y1 * y1 ∧ A - A / y1 * y1 < y1 ∧ 0 ≤ A / y1 := by
  have e := Int.emod_add_mul_ediv A y1
  have m0 := Int.emod_nonneg A (by omega : y1 ≠ 0)
  have m1 := Int.emod_lt_of_pos A (by omega : 0 < y1)
  have hn : 0 ≤ A / y1 := Int.ediv_nonneg hA (by omega)
  rw [Int.mul_comm (A / y1) y1]
  refine ⟨?_, ?_, by omega, by omega, hn⟩
  · have hb := dg_bd A d Y hA hAY hd hd2
    have hr := dg_rest A d Y hAY hA
    refine (Int.le_ediv_iff_mul_le (by omega)).2 ?_
    have hm : 0 ≤ dg A d Y * y0 := Int.mul_nonneg hb.1 h0
    have he : dg A d Y * Y = dg A d Y * y1 * 4294967296 + dg A d Y * y0 := by rw [hY, Int.mul_add, Int.mul_assoc]
    omega
  · have : A / y1 < 4294967298 := Int.ediv_lt_of_lt_mul (by omega) (by omega)
    omega

/-- The guess is right. -/
theorem guess_right (A d Y y1 y0 q r : Int) (hY : Y = y1 * 4294967296 + y0) (hY0 : 0 < Y) (hq : dg A d Y ≤ q) (hA : A = q * y1 + r) (h : q * y0 ≤ 4294967296 * r + d) : q = dg A d Y := by
  have he : q * Y = q * y1 * 4294967296 + q * y0 := by rw [hY, Int.mul_add, Int.mul_assoc]
  have := dg_le A d Y q hY0 (by omega)
  omega
/-- The guess is too much. -/
theorem guess_over (A d Y y1 y0 q r : Int) (hY : Y = y1 * 4294967296 + y0) (hY0 : 0 < Y) (hA : A = q * y1 + r) (h : 4294967296 * r + d < q * y0) : dg A d Y ≤ q - 1 := by
  have he : q * Y = q * y1 * 4294967296 + q * y0 := by rw [hY, Int.mul_add, Int.mul_assoc]
  have := dg_lt A d Y q hY0 (by omega)
  omega
/-- Its rest has left the digit's bounds: it is right. -/
theorem guess_break (A d Y y1 y0 q r : Int) (hY : Y = y1 * 4294967296 + y0) (hY0 : 0 < Y) (hd : 0 ≤ d) (h0 : 0 ≤ y0) (h02 : y0 < 4294967296) (hqb : q ≤ 4294967296) (hq : dg A d Y ≤ q) (hA : A = q * y1 + r) (hr : 4294967296 ≤ r) : q = dg A d Y := by
  have h1 : q * y0 ≤ 4294967296 * 4294967296 := Int.mul_le_mul hqb (by omega) h0 (by omega)
  exact guess_right A d Y y1 y0 q r hY hY0 hq hA (by omega)
theorem guess_step (A q y1 r : Int) (hA : A = q * y1 + r) : A = (q - 1) * y1 + (r + y1) := by
  rw [Int.sub_mul]; omega

/-- Two digits are the quotient. -/
theorem two_digits (U U1 u1 u0 Y : Int) (hU : U = (U1 * 4294967296 + u1) * 4294967296 + u0) (h0 : 0 ≤ U1) (h1 : U1 < Y) :
    dg U1 u1 Y * 4294967296 + dg (U1 * 4294967296 + u1 - dg U1 u1 Y * Y) u0 Y = U / Y := by
  have r1 := dg_rest U1 u1 Y h1 h0
  have r0 := dg_rest (U1 * 4294967296 + u1 - dg U1 u1 Y * Y) u0 Y r1.2 r1.1
  generalize hq1 : dg U1 u1 Y = q1 at *
  generalize hR : U1 * 4294967296 + u1 - q1 * Y = R at *
  generalize dg R u0 Y = q0 at *
  have hY : 0 < Y := by omega
  have u := (Int.ediv_emod_unique (a := U) (r := R * 4294967296 + u0 - q0 * Y) (q := q1 * 4294967296 + q0) hY).2 ⟨?_, r0.1, r0.2⟩
  · exact u.1.symm
  · rw [Int.mul_add, Int.mul_comm Y (q1 * 4294967296), Int.mul_comm Y q0, Int.mul_assoc, Int.mul_comm 4294967296 Y, ← Int.mul_assoc]
    omega

/-- What is divided, shifted so that the divisor's highest bit is set. -/
theorem shifted (p y : Int) (s : Nat) (hp : 0 ≤ p) (hs1 : 1 ≤ s) (hs : s ≤ 63) (hh : hiW p < y) (hy : y * 2 ^ s ≤ 18446744073709551615) :
    bits .or .u64 (hiW p * 2 ^ s) (loW p / 2 ^ (64 - s)) = p * 2 ^ s / 18446744073709551616 ∧ 0 ≤ p * 2 ^ s / 18446744073709551616 ∧ p * 2 ^ s / 18446744073709551616 < y * 2 ^ s ∧
    0 ≤ hiW p * 2 ^ s ∧ hiW p * 2 ^ s ≤ 18446744073709551615 ∧ IntKind.u64.wrap (loW p * 2 ^ s) = p * 2 ^ s % 18446744073709551616 ∧ p * 2 ^ s / (y * 2 ^ s) = p / y := by
  have h2 : (0 : Int) < 2 ^ s := Int.pow_pos (by omega)
  have h3 : (0 : Int) < 2 ^ (64 - s) := Int.pow_pos (by omega)
  have hk : (18446744073709551616 : Int) = 2 ^ (64 - s) * 2 ^ s := by
    rw [← Int.pow_add, show 64 - s + s = 64 by omega]
    decide
  have hh0 : 0 ≤ hiW p := by unfold hiW; omega
  have hl := loW_bd p
  have hpe : p = hiW p * 18446744073709551616 + loW p := by unfold hiW loW; omega
  have b1 : hiW p * 2 ^ s < y * 2 ^ s := Int.mul_lt_mul_of_pos_right hh h2
  have b0 : 0 ≤ hiW p * 2 ^ s := Int.mul_nonneg hh0 (by omega)
  have lq : loW p / 2 ^ (64 - s) < 2 ^ s := by
    refine Int.ediv_lt_of_lt_mul h3 ?_
    rw [Int.mul_comm, ← hk]; omega
  have lq0 : 0 ≤ loW p / 2 ^ (64 - s) := Int.ediv_nonneg hl.1 (by omega)
  have e1 : p * 2 ^ s / 18446744073709551616 = hiW p * 2 ^ s + loW p / 2 ^ (64 - s) := by
    conv => lhs; rw [hpe]
    rw [Int.add_mul, Int.mul_right_comm, Int.add_comm, Int.add_mul_ediv_right _ _ (by omega), Int.add_comm]
    congr 1
    rw [hk, Int.mul_ediv_mul_of_pos_left _ _ h2]
  have e2 : bits .or .u64 (hiW p * 2 ^ s) (loW p / 2 ^ (64 - s)) = hiW p * 2 ^ s + loW p / 2 ^ (64 - s) := by
    obtain ⟨m, hm⟩ := Int.eq_ofNat_of_zero_le hh0
    obtain ⟨t, ht⟩ := Int.eq_ofNat_of_zero_le lq0
    have c2 : ((2 ^ s : Nat) : Int) = (2 : Int) ^ s := by rw [Int.natCast_pow]; rfl
    have lb := low_shift_bd p (64 - s)
    rw [ht] at lq lb ⊢
    rw [hm] at b1 ⊢
    rw [← c2] at b1 lq ⊢
    rw [← c2] at hy
    rw [mulN] at b1 ⊢
    rw [u64_or_nat _ _ (by omega) (by omega), nat_join s (m * 2 ^ s) t (by simp) (by omega)]
    omega
  refine ⟨by rw [e2, e1], by rw [e1]; omega, ?_, b0, by omega, ?_, ?_⟩
  · rw [e1]
    have : (hiW p + 1) * 2 ^ s ≤ y * 2 ^ s := Int.mul_le_mul_of_nonneg_right (by omega) (by omega)
    rw [Int.add_mul] at this
    omega
  · rw [IntKind.wrap_u64]
    conv => rhs; rw [hpe]
    rw [Int.add_mul, Int.mul_right_comm, Int.mul_add_emod_self_right]
  · exact Int.mul_ediv_mul_of_pos_left _ _ h2

end Go.Proofs.Ytkhklfbgfikeoaa

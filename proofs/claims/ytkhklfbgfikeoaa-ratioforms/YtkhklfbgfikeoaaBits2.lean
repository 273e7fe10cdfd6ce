/-
  The contract of math/bits' Div64 at a divisor below 2^63 that is above the upper word: the quotient; its Go text is walked.
-/
import Derived.Test.YtkhklfbgfikeoaaBits1
import Derived.Test.YtkhklfbgfikeoaaDivPlain
import Derived.WalkSmall
namespace Go.Proofs.Ytkhklfbgfikeoaa
open Go.RowKit

theorem maskI (x : Int) (h0 : 0 ≤ x) (h1 : x ≤ 18446744073709551615) : bits .and .u64 x 4294967295 = x % 4294967296 := by
  obtain ⟨n, rfl⟩ := Int.eq_ofNat_of_zero_le h0
  rw [maskN n (by omega)]; omega

theorem fin_eq {p y U U1 u1 u0 Y X Z R1 : Int} (hX : X = dg U1 u1 Y) (hR : U1 * 4294967296 + u1 - X * Y = R1) (hZ : Z = dg R1 u0 Y) (hQ : U / Y = p / y) (hU : U = (U1 * 4294967296 + u1) * 4294967296 + u0) (b1 : 0 ≤ U1) (b2 : U1 < Y) :
    X * 4294967296 + Z = p / y := by
  rw [← hQ, ← two_digits U U1 u1 u0 Y hU b1 b2, ← hX, hR, ← hZ]

set_option maxHeartbeats 4000000 in
theorem div64_low (p y : Int) (w : World) (hy : 1 ≤ y) (hy2 : y ≤ 9223372036854775807) (hh : hiW p = 0) :
    Calls Try.prog 26 #[.int .u64 (hiW p), .int .u64 (loW p), .int .u64 y] w fun e w' => (∃ r, e = .returned (.tuple #[.int .u64 (p / y), .int .u64 r])) ∧ Below w.heap.size w w' := by
  have hl := loW_bd p
  have H : Hid (loW p / y = p / y) := by
    show _ = _
    have : loW p = p := by unfold loW hiW at *; omega
    rw [this]
  rw [hh]
  have h1 : (y == 0) = false := by simp; omega
  have h2 : ¬ y ≤ 0 := by omega
  go_enter Try.func26, Try.ntmps26
  go_wp2
  go_quiet (fail)
  go_wp2
  go_ret2
  exact ⟨⟨_, ret_uu H.out rfl⟩, below_drewN (Below.refl _ _) _⟩

set_option maxHeartbeats 4000000 in
theorem div64_high (p y : Int) (w : World) (hp : 0 ≤ p) (hy : 1 ≤ y) (hy2 : y ≤ 9223372036854775807) (h0 : 1 ≤ hiW p) (hh : hiW p < y) :
    Calls Try.prog 26 #[.int .u64 (hiW p), .int .u64 (loW p), .int .u64 y] w fun e w' => (∃ r, e = .returned (.tuple #[.int .u64 (p / y), .int .u64 r])) ∧ Below w.heap.size w w' := by
  have hl := loW_bd p
  have h1 : (y == 0) = false := by simp; omega
  have h2 : ¬ y ≤ hiW p := by omega
  have h3 : (hiW p == 0) = false := by simp; omega
  obtain ⟨s1, s2, s3, s4⟩ := lz_spec y hy hy2
  obtain ⟨eU1, b1, b2, b3, b4, eU0, eQ⟩ := shifted p y (lz y) hp s1 s2 hh s4
  have bU : p * 2 ^ lz y = p * 2 ^ lz y / 18446744073709551616 * 18446744073709551616 + p * 2 ^ lz y % 18446744073709551616 := by omega
  have bU0 : 0 ≤ p * 2 ^ lz y % 18446744073709551616 ∧ p * 2 ^ lz y % 18446744073709551616 ≤ 18446744073709551615 := by omega
  obtain ⟨Y, hY⟩ : ∃ Y, y * 2 ^ lz y = Y := ⟨_, rfl⟩
  obtain ⟨U, hU⟩ : ∃ U, p * 2 ^ lz y = U := ⟨_, rfl⟩
  rw [hU] at eU1 b1 b2 eU0 eQ bU bU0
  rw [hY] at s3 s4 b2 eQ
  obtain ⟨U1, hU1⟩ : ∃ U1, U / 18446744073709551616 = U1 := ⟨_, rfl⟩
  obtain ⟨U0, hU0⟩ : ∃ U0, U % 18446744073709551616 = U0 := ⟨_, rfl⟩
  rw [hU1] at eU1 b1 b2 bU
  rw [hU0] at eU0 bU bU0
  have HU : Hid (U = U1 * 18446744073709551616 + U0) := bU
  have HQ : Hid (U / Y = p / y) := eQ
  clear bU eQ hU1 hU0 hU
  have em1 := maskI Y (by omega) (by omega)
  have em0 := maskI U0 bU0.1 bU0.2
  obtain ⟨y1, hy1⟩ : ∃ y1, Y / 4294967296 = y1 := ⟨_, rfl⟩
  obtain ⟨y0, hy0⟩ : ∃ y0, Y % 4294967296 = y0 := ⟨_, rfl⟩
  obtain ⟨u1, hu1⟩ : ∃ u1, U0 / 4294967296 = u1 := ⟨_, rfl⟩
  obtain ⟨u0, hu0⟩ : ∃ u0, U0 % 4294967296 = u0 := ⟨_, rfl⟩
  rw [hy0] at em1
  rw [hu0] at em0
  have c1 : 2147483648 ≤ y1 := by omega
  have c2 : y1 < 4294967296 := by omega
  have c3 : 0 ≤ y0 := by omega
  have c4 : y0 < 4294967296 := by omega
  have c5 : 0 ≤ u1 := by omega
  have c6 : u1 < 4294967296 := by omega
  have c7 : 0 ≤ u0 := by omega
  have c8 : u0 < 4294967296 := by omega
  have HY : Hid (Y = y1 * 4294967296 + y0) := by show _ = _; omega
  have HU2 : Hid (U = (U1 * 4294967296 + u1) * 4294967296 + u0) := by show _ = _; rw [HU.out]; omega
  obtain ⟨g1, g2, g3, g4, g5⟩ := guess_first U1 u1 Y y1 y0 b1 b2 c5 c6 HY.out c1 c3 c4
  have g6 : 0 ≤ U1 / y1 * y1 := Int.mul_nonneg g5 (by omega)
  have HG1 : Hid (dg U1 u1 Y ≤ U1 / y1) := g1
  clear HU hy0 hu0 g1
  go_enter Try.func26, Try.ntmps26
  go_wp2_with fail
  refine (leading_any y _ hy hy2).mono ?_
  rintro e w1 ⟨rfl, hw⟩
  subst w1
  go_wp2
  go_loop [15, 16] (fun q r => ∃ Q R : Int, q = .int .u64 Q ∧ r = .int .u64 R ∧ Hid (U1 = Q * y1 + R) ∧ Hid (dg U1 u1 Y ≤ Q) ∧ 0 ≤ Q ∧ Q ≤ 4294967297 ∧ 0 ≤ R ∧ R < 4294967296) (fun q _ => (intOf q).toNat)
  case atStart => exact ⟨U1 / y1, U1 - U1 / y1 * y1, rfl, rfl, by show _ = _; omega, HG1, g5, g2, g3, by omega⟩
  case round =>
    obtain ⟨Q, R, rfl, rfl, HA, HD, q0, q1, r0, r1⟩ := hrel
    have m0 : 0 ≤ Q * y0 := Int.mul_nonneg q0 c3
    by_cases hb : 4294967296 ≤ Q
    · have HD3 : Hid (dg U1 u1 Y ≤ Q - 1) := by have := (dg_bd U1 u1 Y b1 b2 c5 c6).2; show _ ≤ _; omega
      by_cases hbr : 4294967296 ≤ R + y1
      · have HX : Hid (Q - 1 = dg U1 u1 Y) := guess_break U1 u1 Y y1 y0 (Q - 1) (R + y1) HY.out (by omega) c5 c3 c4 (by omega) HD3.out (guess_step _ _ _ _ HA.out) hbr
        have x0 : 0 ≤ Q - 1 := by omega
        have hdb := dg_bd U1 u1 Y b1 b2 c5 c6
        have x1 : Q - 1 < 4294967296 := by rw [HX.out]; exact hdb.2
        have hrs := dg_rest U1 u1 Y b2 b1
        rw [← HX.out] at hrs
        clear hdb
        obtain ⟨R1, hR1⟩ : ∃ R1, U1 * 4294967296 + u1 - (Q - 1) * Y = R1 := ⟨_, rfl⟩
        rw [hR1] at hrs
        have HR1 : Hid (U1 * 4294967296 + u1 - (Q - 1) * Y = R1) := hR1
        have e21 : IntKind.u64.wrap (IntKind.u64.wrap (IntKind.u64.wrap (U1 * 4294967296) + u1) - IntKind.u64.wrap ((Q - 1) * Y)) = R1 := by
          simp only [IntKind.wrap_u64]; omega
        clear hR1
        have hg2 := guess_first R1 u0 Y y1 y0 hrs.1 hrs.2 c7 c8 HY.out c1 c3 c4
        obtain ⟨k1, k2, k3, k4, k5⟩ := hg2
        have k6 : 0 ≤ R1 / y1 * y1 := Int.mul_nonneg k5 (by omega)
        have HK1 : Hid (dg R1 u0 Y ≤ R1 / y1) := k1
        clear k1
        go_wp2
        go_loop [18, 16] (fun q r => ∃ Q R : Int, q = .int .u64 Q ∧ r = .int .u64 R ∧ Hid (R1 = Q * y1 + R) ∧ Hid (dg R1 u0 Y ≤ Q) ∧ 0 ≤ Q ∧ Q ≤ 4294967297 ∧ 0 ≤ R ∧ R < 4294967296) (fun q _ => (intOf q).toNat)
        case atStart => exact ⟨R1 / y1, R1 - R1 / y1 * y1, rfl, rfl, by show _ = _; omega, HK1, k5, k2, k3, by omega⟩
        case round =>
          obtain ⟨P, S, rfl, rfl, HA2, HD2, p0, p1, t0, t1⟩ := hrel
          have n0 : 0 ≤ P * y0 := Int.mul_nonneg p0 c3
          by_cases hb2 : 4294967296 ≤ P
          · have HD3 : Hid (dg R1 u0 Y ≤ P - 1) := by have := (dg_bd R1 u0 Y hrs.1 hrs.2 c7 c8).2; show _ ≤ _; omega
            by_cases hbr2 : 4294967296 ≤ S + y1
            · have HZ : Hid (P - 1 = dg R1 u0 Y) := guess_break R1 u0 Y y1 y0 (P - 1) (S + y1) HY.out (by omega) c7 c3 c4 (by omega) HD3.out (guess_step _ _ _ _ HA2.out) hbr2
              have z0 : P - 1 < 4294967296 := by rw [HZ.out]; exact (dg_bd R1 u0 Y hrs.1 hrs.2 c7 c8).2
              go_wp2
              go_ret2
              refine ⟨⟨_, ret_uu ?_ rfl⟩, Below.refl _ _⟩
              exact fin_eq HX.out HR1.out HZ.out HQ.out HU2.out b1 b2
            · go_wp2
              go_round
              case rel => exact ⟨P - 1, S + y1, rfl, rfl, guess_step _ _ _ _ HA2.out, HD3, by omega, by omega, by omega, by omega⟩
              case measure => simp [intOf]; omega
          · have n1 : P * y0 ≤ 4294967295 * 4294967295 := Int.mul_le_mul (by omega) (by omega) c3 (by omega)
            by_cases hq2 : 4294967296 * S + u0 < P * y0
            · have HD3 : Hid (dg R1 u0 Y ≤ P - 1) := guess_over R1 u0 Y y1 y0 P S HY.out (by omega) HA2.out hq2
              have hpp : 1 ≤ P := by
                rcases Int.lt_or_le P 1 with h | h
                · have : P = 0 := by omega
                  rw [this] at hq2; omega
                · exact h
              by_cases hbr2 : 4294967296 ≤ S + y1
              · have HZ : Hid (P - 1 = dg R1 u0 Y) := guess_break R1 u0 Y y1 y0 (P - 1) (S + y1) HY.out (by omega) c7 c3 c4 (by omega) HD3.out (guess_step _ _ _ _ HA2.out) hbr2
                have z0 : P - 1 < 4294967296 := by omega
                go_wp2
                go_ret2
                refine ⟨⟨_, ret_uu ?_ rfl⟩, Below.refl _ _⟩
                exact fin_eq HX.out HR1.out HZ.out HQ.out HU2.out b1 b2
              · go_wp2
                go_round
                case rel => exact ⟨P - 1, S + y1, rfl, rfl, guess_step _ _ _ _ HA2.out, HD3, by omega, by omega, by omega, by omega⟩
                case measure => simp [intOf]; omega
            · have HZ : Hid (P = dg R1 u0 Y) := guess_right R1 u0 Y y1 y0 P S HY.out (by omega) HD2.out HA2.out (by omega)
              go_wp2
              go_ret2
              refine ⟨⟨_, ret_uu ?_ rfl⟩, Below.refl _ _⟩
              exact fin_eq HX.out HR1.out HZ.out HQ.out HU2.out b1 b2
      · go_wp2
        go_round
        case rel => exact ⟨Q - 1, R + y1, rfl, rfl, guess_step _ _ _ _ HA.out, HD3, by omega, by omega, by omega, by omega⟩
        case measure => simp [intOf]; omega
    · have m1 : Q * y0 ≤ 4294967295 * 4294967295 := Int.mul_le_mul (by omega) (by omega) c3 (by omega)
      by_cases hq : 4294967296 * R + u1 < Q * y0
      · have HD3 : Hid (dg U1 u1 Y ≤ Q - 1) := guess_over U1 u1 Y y1 y0 Q R HY.out (by omega) HA.out hq
        have hqq : 1 ≤ Q := by
          rcases Int.lt_or_le Q 1 with h | h
          · have : Q = 0 := by omega
            rw [this] at hq; omega
          · exact h
        by_cases hbr : 4294967296 ≤ R + y1
        · have HX : Hid (Q - 1 = dg U1 u1 Y) := guess_break U1 u1 Y y1 y0 (Q - 1) (R + y1) HY.out (by omega) c5 c3 c4 (by omega) HD3.out (guess_step _ _ _ _ HA.out) hbr
          have x0 : 0 ≤ Q - 1 := by omega
          have hdb := dg_bd U1 u1 Y b1 b2 c5 c6
          have x1 : Q - 1 < 4294967296 := by rw [HX.out]; exact hdb.2
          have hrs := dg_rest U1 u1 Y b2 b1
          rw [← HX.out] at hrs
          clear hdb
          obtain ⟨R1, hR1⟩ : ∃ R1, U1 * 4294967296 + u1 - (Q - 1) * Y = R1 := ⟨_, rfl⟩
          rw [hR1] at hrs
          have HR1 : Hid (U1 * 4294967296 + u1 - (Q - 1) * Y = R1) := hR1
          have e21 : IntKind.u64.wrap (IntKind.u64.wrap (IntKind.u64.wrap (U1 * 4294967296) + u1) - IntKind.u64.wrap ((Q - 1) * Y)) = R1 := by
            simp only [IntKind.wrap_u64]; omega
          clear hR1
          have hg2 := guess_first R1 u0 Y y1 y0 hrs.1 hrs.2 c7 c8 HY.out c1 c3 c4
          obtain ⟨k1, k2, k3, k4, k5⟩ := hg2
          have k6 : 0 ≤ R1 / y1 * y1 := Int.mul_nonneg k5 (by omega)
          have HK1 : Hid (dg R1 u0 Y ≤ R1 / y1) := k1
          clear k1
          go_wp2
          go_loop [18, 16] (fun q r => ∃ Q R : Int, q = .int .u64 Q ∧ r = .int .u64 R ∧ Hid (R1 = Q * y1 + R) ∧ Hid (dg R1 u0 Y ≤ Q) ∧ 0 ≤ Q ∧ Q ≤ 4294967297 ∧ 0 ≤ R ∧ R < 4294967296) (fun q _ => (intOf q).toNat)
          case atStart => exact ⟨R1 / y1, R1 - R1 / y1 * y1, rfl, rfl, by show _ = _; omega, HK1, k5, k2, k3, by omega⟩
          case round =>
            obtain ⟨P, S, rfl, rfl, HA2, HD2, p0, p1, t0, t1⟩ := hrel
            have n0 : 0 ≤ P * y0 := Int.mul_nonneg p0 c3
            by_cases hb2 : 4294967296 ≤ P
            · have HD3 : Hid (dg R1 u0 Y ≤ P - 1) := by have := (dg_bd R1 u0 Y hrs.1 hrs.2 c7 c8).2; show _ ≤ _; omega
              by_cases hbr2 : 4294967296 ≤ S + y1
              · have HZ : Hid (P - 1 = dg R1 u0 Y) := guess_break R1 u0 Y y1 y0 (P - 1) (S + y1) HY.out (by omega) c7 c3 c4 (by omega) HD3.out (guess_step _ _ _ _ HA2.out) hbr2
                have z0 : P - 1 < 4294967296 := by rw [HZ.out]; exact (dg_bd R1 u0 Y hrs.1 hrs.2 c7 c8).2
                go_wp2
                go_ret2
                refine ⟨⟨_, ret_uu ?_ rfl⟩, Below.refl _ _⟩
                exact fin_eq HX.out HR1.out HZ.out HQ.out HU2.out b1 b2
              · go_wp2
                go_round
                case rel => exact ⟨P - 1, S + y1, rfl, rfl, guess_step _ _ _ _ HA2.out, HD3, by omega, by omega, by omega, by omega⟩
                case measure => simp [intOf]; omega
            · have n1 : P * y0 ≤ 4294967295 * 4294967295 := Int.mul_le_mul (by omega) (by omega) c3 (by omega)
              by_cases hq2 : 4294967296 * S + u0 < P * y0
              · have HD3 : Hid (dg R1 u0 Y ≤ P - 1) := guess_over R1 u0 Y y1 y0 P S HY.out (by omega) HA2.out hq2
                have hpp : 1 ≤ P := by
                  rcases Int.lt_or_le P 1 with h | h
                  · have : P = 0 := by omega
                    rw [this] at hq2; omega
                  · exact h
                by_cases hbr2 : 4294967296 ≤ S + y1
                · have HZ : Hid (P - 1 = dg R1 u0 Y) := guess_break R1 u0 Y y1 y0 (P - 1) (S + y1) HY.out (by omega) c7 c3 c4 (by omega) HD3.out (guess_step _ _ _ _ HA2.out) hbr2
                  have z0 : P - 1 < 4294967296 := by omega
                  go_wp2
                  go_ret2
                  refine ⟨⟨_, ret_uu ?_ rfl⟩, Below.refl _ _⟩
                  exact fin_eq HX.out HR1.out HZ.out HQ.out HU2.out b1 b2
                · go_wp2
                  go_round
                  case rel => exact ⟨P - 1, S + y1, rfl, rfl, guess_step _ _ _ _ HA2.out, HD3, by omega, by omega, by omega, by omega⟩
                  case measure => simp [intOf]; omega
              · have HZ : Hid (P = dg R1 u0 Y) := guess_right R1 u0 Y y1 y0 P S HY.out (by omega) HD2.out HA2.out (by omega)
                go_wp2
                go_ret2
                refine ⟨⟨_, ret_uu ?_ rfl⟩, Below.refl _ _⟩
                exact fin_eq HX.out HR1.out HZ.out HQ.out HU2.out b1 b2
        · go_wp2
          go_round
          case rel => exact ⟨Q - 1, R + y1, rfl, rfl, guess_step _ _ _ _ HA.out, HD3, by omega, by omega, by omega, by omega⟩
          case measure => simp [intOf]; omega
      · have HX : Hid (Q = dg U1 u1 Y) := guess_right U1 u1 Y y1 y0 Q R HY.out (by omega) HD.out HA.out (by omega)
        have x0 : 0 ≤ Q := by omega
        have hdb := dg_bd U1 u1 Y b1 b2 c5 c6
        have x1 : Q < 4294967296 := by rw [HX.out]; exact hdb.2
        have hrs := dg_rest U1 u1 Y b2 b1
        rw [← HX.out] at hrs
        clear hdb
        obtain ⟨R1, hR1⟩ : ∃ R1, U1 * 4294967296 + u1 - (Q) * Y = R1 := ⟨_, rfl⟩
        rw [hR1] at hrs
        have HR1 : Hid (U1 * 4294967296 + u1 - (Q) * Y = R1) := hR1
        have e21 : IntKind.u64.wrap (IntKind.u64.wrap (IntKind.u64.wrap (U1 * 4294967296) + u1) - IntKind.u64.wrap ((Q) * Y)) = R1 := by
          simp only [IntKind.wrap_u64]; omega
        clear hR1
        have hg2 := guess_first R1 u0 Y y1 y0 hrs.1 hrs.2 c7 c8 HY.out c1 c3 c4
        obtain ⟨k1, k2, k3, k4, k5⟩ := hg2
        have k6 : 0 ≤ R1 / y1 * y1 := Int.mul_nonneg k5 (by omega)
        have HK1 : Hid (dg R1 u0 Y ≤ R1 / y1) := k1
        clear k1
        go_wp2
        go_loop [18, 16] (fun q r => ∃ Q R : Int, q = .int .u64 Q ∧ r = .int .u64 R ∧ Hid (R1 = Q * y1 + R) ∧ Hid (dg R1 u0 Y ≤ Q) ∧ 0 ≤ Q ∧ Q ≤ 4294967297 ∧ 0 ≤ R ∧ R < 4294967296) (fun q _ => (intOf q).toNat)
        case atStart => exact ⟨R1 / y1, R1 - R1 / y1 * y1, rfl, rfl, by show _ = _; omega, HK1, k5, k2, k3, by omega⟩
        case round =>
          obtain ⟨P, S, rfl, rfl, HA2, HD2, p0, p1, t0, t1⟩ := hrel
          have n0 : 0 ≤ P * y0 := Int.mul_nonneg p0 c3
          by_cases hb2 : 4294967296 ≤ P
          · have HD3 : Hid (dg R1 u0 Y ≤ P - 1) := by have := (dg_bd R1 u0 Y hrs.1 hrs.2 c7 c8).2; show _ ≤ _; omega
            by_cases hbr2 : 4294967296 ≤ S + y1
            · have HZ : Hid (P - 1 = dg R1 u0 Y) := guess_break R1 u0 Y y1 y0 (P - 1) (S + y1) HY.out (by omega) c7 c3 c4 (by omega) HD3.out (guess_step _ _ _ _ HA2.out) hbr2
              have z0 : P - 1 < 4294967296 := by rw [HZ.out]; exact (dg_bd R1 u0 Y hrs.1 hrs.2 c7 c8).2
              go_wp2
              go_ret2
              refine ⟨⟨_, ret_uu ?_ rfl⟩, Below.refl _ _⟩
              exact fin_eq HX.out HR1.out HZ.out HQ.out HU2.out b1 b2
            · go_wp2
              go_round
              case rel => exact ⟨P - 1, S + y1, rfl, rfl, guess_step _ _ _ _ HA2.out, HD3, by omega, by omega, by omega, by omega⟩
              case measure => simp [intOf]; omega
          · have n1 : P * y0 ≤ 4294967295 * 4294967295 := Int.mul_le_mul (by omega) (by omega) c3 (by omega)
            by_cases hq2 : 4294967296 * S + u0 < P * y0
            · have HD3 : Hid (dg R1 u0 Y ≤ P - 1) := guess_over R1 u0 Y y1 y0 P S HY.out (by omega) HA2.out hq2
              have hpp : 1 ≤ P := by
                rcases Int.lt_or_le P 1 with h | h
                · have : P = 0 := by omega
                  rw [this] at hq2; omega
                · exact h
              by_cases hbr2 : 4294967296 ≤ S + y1
              · have HZ : Hid (P - 1 = dg R1 u0 Y) := guess_break R1 u0 Y y1 y0 (P - 1) (S + y1) HY.out (by omega) c7 c3 c4 (by omega) HD3.out (guess_step _ _ _ _ HA2.out) hbr2
                have z0 : P - 1 < 4294967296 := by omega
                go_wp2
                go_ret2
                refine ⟨⟨_, ret_uu ?_ rfl⟩, Below.refl _ _⟩
                exact fin_eq HX.out HR1.out HZ.out HQ.out HU2.out b1 b2
              · go_wp2
                go_round
                case rel => exact ⟨P - 1, S + y1, rfl, rfl, guess_step _ _ _ _ HA2.out, HD3, by omega, by omega, by omega, by omega⟩
                case measure => simp [intOf]; omega
            · have HZ : Hid (P = dg R1 u0 Y) := guess_right R1 u0 Y y1 y0 P S HY.out (by omega) HD2.out HA2.out (by omega)
              go_wp2
              go_ret2
              refine ⟨⟨_, ret_uu ?_ rfl⟩, Below.refl _ _⟩
              exact fin_eq HX.out HR1.out HZ.out HQ.out HU2.out b1 b2

theorem div64_any (p y : Int) (w : World) (hp : 0 ≤ p) (hy : 1 ≤ y) (hy2 : y ≤ 9223372036854775807) (hh : hiW p < y) :
    Calls Try.prog 26 #[.int .u64 (hiW p), .int .u64 (loW p), .int .u64 y] w fun e w' => (∃ r, e = .returned (.tuple #[.int .u64 (p / y), .int .u64 r])) ∧ Below w.heap.size w w' := by
  have h0 : 0 ≤ hiW p := by unfold hiW; omega
  by_cases h : hiW p = 0
  · exact div64_low p y w hy hy2 h
  · exact div64_high p y w hp hy hy2 (by omega) hh

end Go.Proofs.Ytkhklfbgfikeoaa

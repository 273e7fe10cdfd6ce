/-
  The contracts of the statements' own answers to chapter 1 (package triageref1): MulDiv, Compare, Percent, Draw, Sum, Ints.
-/
import Derived.Test.YtkhklfbgfikeoaaRatio4
import Derived.Test.YtkhklfbgfikeoaaBits2
namespace Go.Proofs.Ytkhklfbgfikeoaa
open Go.RowKit

set_option maxHeartbeats 1000000 in
theorem rMulDiv_bad (a b c : Int) (w : World) (h : a < 0 ∨ b < 0 ∨ c < 1) :
    Calls Try.prog 11 #[.int .i64 a, .int .i64 b, .int .i64 c] w fun e w' => e = .returned (.tuple #[.int .i64 0, .bool false]) ∧ Below w.heap.size w w' := by
  by_cases h1 : a < 0
  · go_enter Try.func11, Try.ntmps11
    go_wp2
    go_ret2
    exact ⟨rfl, Below.refl _ _⟩
  · have h1' : 0 ≤ a := by omega
    by_cases h2 : b < 0
    · go_enter Try.func11, Try.ntmps11
      go_wp2
      go_ret2
      exact ⟨rfl, Below.refl _ _⟩
    · have h2' : 0 ≤ b := by omega
      have h3 : c < 1 := by omega
      clear h h1 h2
      go_enter Try.func11, Try.ntmps11
      go_wp2
      go_ret2
      exact ⟨rfl, Below.refl _ _⟩

set_option maxHeartbeats 1000000 in
theorem rMulDiv_any (a b c : Int) (w : World) (ha2 : a ≤ 9223372036854775807) (hb2 : b ≤ 9223372036854775807) (hc2 : c ≤ 9223372036854775807) :
    Calls Try.prog 11 #[.int .i64 a, .int .i64 b, .int .i64 c] w fun e w' => e = .returned (.tuple #[.int .i64 (mdV a b c), .bool (mdOk a b c)]) ∧ Below w.heap.size w w' := by
  by_cases h : a < 0 ∨ b < 0 ∨ c < 1
  · have e := md_bad a b c h
    rw [e.1, e.2]
    exact rMulDiv_bad a b c w h
  · have a0 : 0 ≤ a := by omega
    have b0 : 0 ≤ b := by omega
    have c0 : 1 ≤ c := by omega
    clear h
    have ea : oz a = a := oz_pos a0
    have eb : oz b = b := oz_pos b0
    have hp : 0 ≤ a * b := Int.mul_nonneg a0 b0
    have hl := loW_bd (a * b)
    have a3 : a ≤ 18446744073709551615 := by omega
    have b3 : b ≤ 18446744073709551615 := by omega
    by_cases hh : c ≤ hiW (a * b)
    · have hov : 4611686018427387904 < oz a * oz b / c := by
        rw [ea, eb]
        rcases Int.lt_or_le 4611686018427387904 (a * b / c) with h | h
        · exact h
        · have := hi_lt (a * b) c (by omega) h
          omega
      have e := md_over a b c hov
      have HE : Hid (mdV a b c = 0 ∧ mdOk a b c = false) := e
      clear e hov ea eb
      go_enter Try.func11, Try.ntmps11
      go_wp2_with fail
      refine (mul64_any a b _ a0 a3 b0 b3).mono ?_
      rintro e w1 ⟨rfl, hw⟩
      subst w1
      go_wp2
      go_ret2
      exact ⟨ret_tup _ _ _ _ HE.out.1.symm HE.out.2.symm, Below.refl _ _⟩
    · have hh' : Hid (hiW (a * b) < c) := by show _ < _; omega
      have hq0 : 0 ≤ a * b / c := Int.ediv_nonneg hp (by omega)
      by_cases hov : a * b / c ≤ 4611686018427387904
      · have e := md_good a b c a0 b0 c0 (by rw [ea, eb]; exact hov)
        rw [ea, eb] at e
        obtain ⟨q, hq⟩ : ∃ q, a * b / c = q := ⟨_, rfl⟩
        rw [hq] at hov hq0 e
        have HQ : Hid (a * b / c = q) := hq
        have HE : Hid (mdV a b c = q ∧ mdOk a b c = true) := e
        clear e hq ea eb
        go_enter Try.func11, Try.ntmps11
        go_wp2_with fail
        refine (mul64_any a b _ a0 a3 b0 b3).mono ?_
        rintro e w1 ⟨rfl, hw⟩
        subst w1
        go_wp2_with fail
        refine (div64_any (a * b) c _ hp c0 hc2 hh'.out).mono ?_
        rintro e w2 ⟨⟨r, rfl⟩, hb2⟩
        rw [HQ.out]
        go_wp2
        go_ret2
        exact ⟨ret_tup _ _ _ _ HE.out.1.symm HE.out.2.symm, hb2⟩
      · have e := md_over a b c (by rw [ea, eb]; omega)
        have hov' : 4611686018427387904 < a * b / c := by omega
        obtain ⟨q, hq⟩ : ∃ q, a * b / c = q := ⟨_, rfl⟩
        rw [hq] at hov' hq0
        have HQ : Hid (a * b / c = q) := hq
        have HE : Hid (mdV a b c = 0 ∧ mdOk a b c = false) := e
        clear e hq ea eb hov
        go_enter Try.func11, Try.ntmps11
        go_wp2_with fail
        refine (mul64_any a b _ a0 a3 b0 b3).mono ?_
        rintro e w1 ⟨rfl, hw⟩
        subst w1
        go_wp2_with fail
        refine (div64_any (a * b) c _ hp c0 hc2 hh'.out).mono ?_
        rintro e w2 ⟨⟨r, rfl⟩, hb2⟩
        rw [HQ.out]
        go_wp2
        go_ret2
        exact ⟨ret_tup _ _ _ _ HE.out.1.symm HE.out.2.symm, hb2⟩

set_option maxHeartbeats 1000000 in
theorem rPercent_any (n p : Int) (w : World) (hn : n ≤ 9223372036854775807) (hp : p ≤ 9223372036854775807) :
    Calls Try.prog 15 #[.int .i64 n, .int .i64 p] w fun e w' => e = .returned (.int .i64 (mdV n p 100)) ∧ Below w.heap.size w w' := by
  go_enter Try.func15, Try.ntmps15
  go_wp2_with fail
  refine (rMulDiv_any n p 100 _ hn hp (by omega)).mono ?_
  rintro e w1 ⟨rfl, hb1⟩
  go_wp2
  go_ret
  exact ⟨rfl, hb1⟩

set_option maxHeartbeats 1000000 in
theorem rDraw_any (d n : Int) (w : World) (h3 : n ≤ 9223372036854775807) :
    Calls Try.prog 19 #[.int .i64 d, .int .i64 n] w fun e w' => e = .returned (.int .i64 (drawV d n)) ∧ w' = w := by
  by_cases hn : n < 1
  · have H : Hid (0 = drawV d n) := by show _ = _; unfold drawV; rw [if_pos hn]
    go_enter Try.func19, Try.ntmps19
    go_wp2
    go_ret
    exact ⟨ret_int H.out, rfl⟩
  · have hn' : 1 ≤ n := by omega
    have b := tmod_bd d n hn'
    clear hn
    by_cases ht : d.tmod n < 0
    · have H : Hid (d.tmod n + n = drawV d n) := draw_neg d n hn' ht
      go_enter Try.func19, Try.ntmps19
      go_wp2
      go_ret
      exact ⟨ret_int H.out, rfl⟩
    · have H : Hid (d.tmod n = drawV d n) := draw_pos d n hn' (by omega)
      go_enter Try.func19, Try.ntmps19
      go_wp2
      go_ret
      exact ⟨ret_int H.out, rfl⟩

end Go.Proofs.Ytkhklfbgfikeoaa

/-
  The contract of triageref1's Compare.
-/
import Derived.Test.YtjknflpclniiiaaDoorBitsMul
import Derived.WalkSmall
namespace Go.Proofs.YtjknflpclniiiaaDoor
open Go.RowKit

theorem cmp_cases (p q : Int) : (hiW p < hiW q ∧ -1 = cmpV p q) ∨ ((hiW p == hiW q) = true ∧ hiW q ≤ hiW p ∧ loW p < loW q ∧ -1 = cmpV p q) ∨ ((hiW p == hiW q) = true ∧ hiW q ≤ hiW p ∧ loW q ≤ loW p ∧ (loW p == loW q) = true ∧ 0 = cmpV p q)
    ∨ ((hiW p == hiW q) = true ∧ hiW q ≤ hiW p ∧ loW q ≤ loW p ∧ (loW p == loW q) = false ∧ 1 = cmpV p q) ∨ (hiW q ≤ hiW p ∧ (hiW p == hiW q) = false ∧ 1 = cmpV p q) := by
  have e1 : p = hiW p * 18446744073709551616 + loW p := by unfold hiW loW; omega
  have e2 : q = hiW q * 18446744073709551616 + loW q := by unfold hiW loW; omega
  have b1 := loW_bd p
  have b2 := loW_bd q
  simp only [beq_iff_eq, beq_eq_false_iff_ne]
  unfold cmpV
  by_cases h1 : p < q
  · rw [if_pos h1]; omega
  · rw [if_neg h1]
    by_cases h2 : q < p
    · rw [if_pos h2]; omega
    · rw [if_neg h2]; omega

theorem oz_max (a : Int) : (if 0 < a then a else 0) = oz a := by unfold oz; split <;> split <;> omega

set_option maxHeartbeats 2000000 in
theorem rCompare_any (a b c d : Int) (w : World) (ha : a ≤ 9223372036854775807) (hb : b ≤ 9223372036854775807) (hc : c ≤ 9223372036854775807) (hd : d ≤ 9223372036854775807) :
    Calls Tryd.prog 23 #[.int .i64 a, .int .i64 b, .int .i64 c, .int .i64 d] w fun e w' => e = .returned (.int .i64 (cmpV (oz a * oz b) (oz c * oz d))) ∧ w' = w := by
  have mA := oz_max a
  have mB := oz_max b
  have mC := oz_max c
  have mD := oz_max d
  have a0 := oz_nonneg a
  have b0 := oz_nonneg b
  have c0 := oz_nonneg c
  have d0 := oz_nonneg d
  have a1 := oz_le a _ ha (by omega)
  have b1 := oz_le b _ hb (by omega)
  have c1 := oz_le c _ hc (by omega)
  have d1 := oz_le d _ hd (by omega)
  generalize oz a = A at *
  generalize oz b = B at *
  generalize oz c = C at *
  generalize oz d = D at *
  obtain ⟨p, hp⟩ : ∃ p, A * B = p := ⟨_, rfl⟩
  obtain ⟨q, hq⟩ : ∃ q, C * D = q := ⟨_, rfl⟩
  have C1 : Hid (∀ w, Calls Tryd.prog 38 #[.int .u64 A, .int .u64 B] w fun e w' => e = .returned (.tuple #[.int .u64 (hiW p), .int .u64 (loW p)]) ∧ w' = w) := by
    intro w
    have h := mul64_any A B w a0 (by omega) b0 (by omega)
    rw [hp] at h
    exact h
  have C2 : Hid (∀ w, Calls Tryd.prog 38 #[.int .u64 C, .int .u64 D] w fun e w' => e = .returned (.tuple #[.int .u64 (hiW q), .int .u64 (loW q)]) ∧ w' = w) := by
    intro w
    have h := mul64_any C D w c0 (by omega) d0 (by omega)
    rw [hq] at h
    exact h
  rw [hp, hq]
  clear hp hq ha hb hc hd
  obtain ⟨v, hv⟩ : ∃ v, cmpV p q = v := ⟨_, rfl⟩
  have hcc := cmp_cases p q
  rw [hv] at hcc ⊢
  clear hv
  rcases hcc with ⟨t1, hv⟩ | ⟨t1, t2, t3, hv⟩ | ⟨t1, t2, t3, t4, hv⟩ | ⟨t1, t2, t3, t4, hv⟩ | ⟨t1, t2, hv⟩
  all_goals
    subst hv
    go_enter Tryd.func23, Tryd.ntmps23
    go_wp2_with fail
    refine (C1.out _).mono ?_
    rintro e w1 ⟨rfl, hw⟩
    subst w1
    go_wp2_with fail
    refine (C2.out _).mono ?_
    rintro e w1 ⟨rfl, hw⟩
    subst w1
    go_wp2
    go_ret
    exact ⟨rfl, rfl⟩

end Go.Proofs.YtjknflpclniiiaaDoor

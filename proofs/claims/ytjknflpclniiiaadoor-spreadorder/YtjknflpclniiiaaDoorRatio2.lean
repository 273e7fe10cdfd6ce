/-
  The contracts of package ratio's MulDiv, Compare, Percent and Draw: each call returns what the plain functions of Plain say, for every argument that its kind holds, and no memory that was there has turned.
-/
import Derived.Test.YtjknflpclniiiaaDoorRatio1
namespace Go.Proofs.YtjknflpclniiiaaDoor
open Go.RowKit

set_option maxHeartbeats 1000000 in
theorem mulDiv_bad (a b c : Int) (w : World) (h : a < 0 ∨ b < 0 ∨ c < 1) :
    Calls Tryd.prog 44 #[.int .i64 a, .int .i64 b, .int .i64 c] w fun e w' => e = .returned (.tuple #[.int .i64 0, .bool false]) ∧ Below w.heap.size w w' := by
  by_cases h1 : a < 0
  · go_enter Tryd.func44, Tryd.ntmps44
    go_wp2
    go_ret2
    exact ⟨rfl, Below.refl _ _⟩
  · have h1' : 0 ≤ a := by omega
    by_cases h2 : b < 0
    · go_enter Tryd.func44, Tryd.ntmps44
      go_wp2
      go_ret2
      exact ⟨rfl, Below.refl _ _⟩
    · have h2' : 0 ≤ b := by omega
      have h3 : c < 1 := by omega
      clear h h1 h2
      go_enter Tryd.func44, Tryd.ntmps44
      go_wp2
      go_ret2
      exact ⟨rfl, Below.refl _ _⟩

set_option maxHeartbeats 1000000 in
theorem mulDiv_over (a b c : Int) (w : World) (ha : 0 ≤ a) (hb : 0 ≤ b) (hc : 1 ≤ c) (ha2 : a ≤ 9223372036854775807) (hb2 : b ≤ 9223372036854775807) (hc2 : c ≤ 9223372036854775807)
    (h : 4611686018427387904 < oz a * oz b / c) :
    Calls Tryd.prog 44 #[.int .i64 a, .int .i64 b, .int .i64 c] w fun e w' => e = .returned (.tuple #[.int .i64 0, .bool false]) ∧ Below w.heap.size w w' := by
  have hp : 0 ≤ oz a * oz b := Int.mul_nonneg (oz_nonneg a) (oz_nonneg b)
  obtain ⟨q, hq⟩ : ∃ q, oz a * oz b / c = q := ⟨_, rfl⟩
  rw [hq] at h
  have HQ : Hid (oz a * oz b / c = q) := hq
  clear hq
  by_cases hh : c ≤ hiW (oz a * oz b)
  · have hh' : Hid (c ≤ hiW (oz a * oz b)) := hh
    clear hh
    go_enter Tryd.func44, Tryd.ntmps44
    go_wp2_with fail
    refine (product_any a b _ ha2 hb2).mono ?_
    rintro e w1 ⟨rfl, hb1⟩
    go_wp2_with fail
    refine (by_no (oz a * oz b) c _ hh'.out).mono ?_
    rintro e w2 ⟨rfl, hb2⟩
    go_wp2
    go_ret2
    exact ⟨rfl, hb1.trans (hb2.mono hb1.size)⟩
  · have hh' : Hid (hiW (oz a * oz b) < c) := by show _ < _; omega
    clear hh
    go_enter Tryd.func44, Tryd.ntmps44
    go_wp2_with fail
    refine (product_any a b _ ha2 hb2).mono ?_
    rintro e w1 ⟨rfl, hb1⟩
    go_wp2_with fail
    refine (by_yes (oz a * oz b) c _ hp hh'.out hc2).mono ?_
    rintro e w2 ⟨rfl, hb2⟩
    rw [HQ.out]
    go_wp2
    go_ret2
    exact ⟨rfl, hb1.trans (hb2.mono hb1.size)⟩

set_option maxHeartbeats 1000000 in
theorem mulDiv_good (a b c : Int) (w : World) (ha : 0 ≤ a) (hb : 0 ≤ b) (hc : 1 ≤ c) (ha2 : a ≤ 9223372036854775807) (hb2 : b ≤ 9223372036854775807) (hc2 : c ≤ 9223372036854775807)
    (h : oz a * oz b / c ≤ 4611686018427387904) :
    Calls Tryd.prog 44 #[.int .i64 a, .int .i64 b, .int .i64 c] w fun e w' => e = .returned (.tuple #[.int .i64 (oz a * oz b / c), .bool true]) ∧ Below w.heap.size w w' := by
  have hp : 0 ≤ oz a * oz b := Int.mul_nonneg (oz_nonneg a) (oz_nonneg b)
  have hh' : Hid (hiW (oz a * oz b) < c) := hi_lt _ c (by omega) h
  have hq0 : 0 ≤ oz a * oz b / c := Int.ediv_nonneg hp (by omega)
  obtain ⟨q, hq⟩ : ∃ q, oz a * oz b / c = q := ⟨_, rfl⟩
  rw [hq] at h hq0
  have HQ : Hid (oz a * oz b / c = q) := hq
  clear hq
  go_enter Tryd.func44, Tryd.ntmps44
  go_wp2_with fail
  refine (product_any a b _ ha2 hb2).mono ?_
  rintro e w1 ⟨rfl, hb1⟩
  go_wp2_with fail
  refine (by_yes (oz a * oz b) c _ hp hh'.out hc2).mono ?_
  rintro e w2 ⟨rfl, hb2⟩
  rw [HQ.out]
  go_wp2
  go_ret2
  exact ⟨ret_tup _ _ _ _ HQ.out.symm rfl, hb1.trans (hb2.mono hb1.size)⟩

theorem mulDiv_any (a b c : Int) (w : World) (ha2 : a ≤ 9223372036854775807) (hb2 : b ≤ 9223372036854775807) (hc2 : c ≤ 9223372036854775807) :
    Calls Tryd.prog 44 #[.int .i64 a, .int .i64 b, .int .i64 c] w fun e w' => e = .returned (.tuple #[.int .i64 (mdV a b c), .bool (mdOk a b c)]) ∧ Below w.heap.size w w' := by
  by_cases h : a < 0 ∨ b < 0 ∨ c < 1
  · have e := md_bad a b c h
    rw [e.1, e.2]
    exact mulDiv_bad a b c w h
  · by_cases h2 : oz a * oz b / c ≤ 4611686018427387904
    · have e := md_good a b c (by omega) (by omega) (by omega) h2
      rw [e.1, e.2]
      exact mulDiv_good a b c w (by omega) (by omega) (by omega) ha2 hb2 hc2 h2
    · have e := md_over a b c (by omega)
      rw [e.1, e.2]
      exact mulDiv_over a b c w (by omega) (by omega) (by omega) ha2 hb2 hc2 (by omega)

set_option maxHeartbeats 1000000 in
theorem compare_any (a b c d : Int) (w : World) (ha : a ≤ 9223372036854775807) (hb : b ≤ 9223372036854775807) (hc : c ≤ 9223372036854775807) (hd : d ≤ 9223372036854775807) :
    Calls Tryd.prog 37 #[.int .i64 a, .int .i64 b, .int .i64 c, .int .i64 d] w fun e w' => e = .returned (.int .i64 (cmpV (oz a * oz b) (oz c * oz d))) ∧ Below w.heap.size w w' := by
  obtain ⟨p, hp⟩ : ∃ p, oz a * oz b = p := ⟨_, rfl⟩
  obtain ⟨q, hq⟩ : ∃ q, oz c * oz d = q := ⟨_, rfl⟩
  have HP : Hid (∀ w, Calls Tryd.prog 50 #[.int .i64 a, .int .i64 b] w fun e w' => e = .returned (.agg #[.int .u64 (hiW p), .int .u64 (loW p)]) ∧ Below w.heap.size w w') := fun w => by
    have h := product_any a b w ha hb
    rw [hp] at h
    exact h
  have HQ : Hid (∀ w, Calls Tryd.prog 50 #[.int .i64 c, .int .i64 d] w fun e w' => e = .returned (.agg #[.int .u64 (hiW q), .int .u64 (loW q)]) ∧ Below w.heap.size w w') := fun w => by
    have h := product_any c d w hc hd
    rw [hq] at h
    exact h
  rw [hp, hq]
  clear hp hq ha hb hc hd
  by_cases h1 : p < q
  · have e1 : ltB p q = true := by simp [ltB, h1]
    have e3 : Hid (-1 = cmpV p q) := by show _ = _; unfold cmpV; rw [if_pos h1]
    clear h1
    go_enter Tryd.func37, Tryd.ntmps37
    go_wp2_with fail
    refine (HP.out _).mono ?_
    rintro e w1 ⟨rfl, hb1⟩
    go_wp2_with fail
    refine (HQ.out _).mono ?_
    rintro e w2 ⟨rfl, hb2⟩
    go_wp2_with fail
    refine (wless_any p q _).mono ?_
    rintro e w3 ⟨rfl, hb3⟩
    go_wp2
    go_ret
    exact ⟨ret_int e3.out, hb1.trans ((hb2.mono hb1.size).trans ((((Below.refl _ _).alloc (Nat.le_trans hb1.size hb2.size) _).alloc (by have := hb1.size; have := hb2.size; simp; omega) _).trans (hb3.mono (by have := hb1.size; have := hb2.size; simp; omega))))⟩
  · have e1 : ltB p q = false := by simp [ltB, h1]
    by_cases h2 : q < p
    · have e2 : ltB q p = true := by simp [ltB, h2]
      have e3 : Hid (1 = cmpV p q) := by show _ = _; unfold cmpV; rw [if_neg h1, if_pos h2]
      clear h1 h2
      go_enter Tryd.func37, Tryd.ntmps37
      go_wp2_with fail
      refine (HP.out _).mono ?_
      rintro e w1 ⟨rfl, hb1⟩
      go_wp2_with fail
      refine (HQ.out _).mono ?_
      rintro e w2 ⟨rfl, hb2⟩
      go_wp2_with fail
      refine (wless_any p q _).mono ?_
      rintro e w3 ⟨rfl, hb3⟩
      obtain ⟨hc, hf⟩ := bcell hb3
      have hz : w2.heap.size + 2 ≤ w3.heap.size := by have := hb3.size; simp at this; omega
      go_wp2_with fail
      refine (wless_any q p _).mono ?_
      rintro e w4 ⟨rfl, hb4⟩
      clear hc hf
      go_wp2
      go_ret
      exact ⟨ret_int e3.out, hb1.trans ((hb2.mono hb1.size).trans ((((Below.refl _ _).alloc (Nat.le_trans hb1.size hb2.size) _).alloc (by have := hb1.size; have := hb2.size; simp; omega) _).trans ((hb3.mono (by have := hb1.size; have := hb2.size; simp; omega)).trans (hb4.mono (by have := hb1.size; have := hb2.size; omega)))))⟩
    · have e2 : ltB q p = false := by simp [ltB, h2]
      have e3 : Hid (0 = cmpV p q) := by show _ = _; unfold cmpV; rw [if_neg h1, if_neg h2]
      clear h1 h2
      go_enter Tryd.func37, Tryd.ntmps37
      go_wp2_with fail
      refine (HP.out _).mono ?_
      rintro e w1 ⟨rfl, hb1⟩
      go_wp2_with fail
      refine (HQ.out _).mono ?_
      rintro e w2 ⟨rfl, hb2⟩
      go_wp2_with fail
      refine (wless_any p q _).mono ?_
      rintro e w3 ⟨rfl, hb3⟩
      obtain ⟨hc, hf⟩ := bcell hb3
      have hz : w2.heap.size + 2 ≤ w3.heap.size := by have := hb3.size; simp at this; omega
      go_wp2_with fail
      refine (wless_any q p _).mono ?_
      rintro e w4 ⟨rfl, hb4⟩
      clear hc hf
      go_wp2
      go_ret
      exact ⟨ret_int e3.out, hb1.trans ((hb2.mono hb1.size).trans ((((Below.refl _ _).alloc (Nat.le_trans hb1.size hb2.size) _).alloc (by have := hb1.size; have := hb2.size; simp; omega) _).trans ((hb3.mono (by have := hb1.size; have := hb2.size; simp; omega)).trans (hb4.mono (by have := hb1.size; have := hb2.size; omega)))))⟩

end Go.Proofs.YtjknflpclniiiaaDoor

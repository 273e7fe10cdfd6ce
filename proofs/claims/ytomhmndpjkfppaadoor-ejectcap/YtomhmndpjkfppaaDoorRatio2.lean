/-
  The contracts of package ratio's MulDiv, Compare, Percent and Draw: each call returns what the plain functions of Plain say, for every argument that its kind holds, and no memory that was there has turned.
-/
import Derived.Test.YtomhmndpjkfppaaDoorRatio1
namespace Go.Proofs.YtomhmndpjkfppaaDoor
open Go.RowKit

set_option maxHeartbeats 1000000 in
theorem mulDiv_bad (a b c : Int) (w : World) (h : a < 0 ∨ b < 0 ∨ c < 1) :
    Calls Tryd.prog 28 #[.int .i64 a, .int .i64 b, .int .i64 c] w fun e w' => e = .returned (.tuple #[.int .i64 0, .bool false]) ∧ Below w.heap.size w w' := by
  by_cases h1 : a < 0
  · go_enter Tryd.func28, Tryd.ntmps28
    go_wp2
    go_ret2
    exact ⟨rfl, Below.refl _ _⟩
  · have h1' : 0 ≤ a := by omega
    by_cases h2 : b < 0
    · go_enter Tryd.func28, Tryd.ntmps28
      go_wp2
      go_ret2
      exact ⟨rfl, Below.refl _ _⟩
    · have h2' : 0 ≤ b := by omega
      have h3 : c < 1 := by omega
      clear h h1 h2
      go_enter Tryd.func28, Tryd.ntmps28
      go_wp2
      go_ret2
      exact ⟨rfl, Below.refl _ _⟩

set_option maxHeartbeats 1000000 in
theorem mulDiv_over (a b c : Int) (w : World) (ha : 0 ≤ a) (hb : 0 ≤ b) (hc : 1 ≤ c) (ha2 : a ≤ 9223372036854775807) (hb2 : b ≤ 9223372036854775807) (hc2 : c ≤ 9223372036854775807)
    (h : 4611686018427387904 < oz a * oz b / c) :
    Calls Tryd.prog 28 #[.int .i64 a, .int .i64 b, .int .i64 c] w fun e w' => e = .returned (.tuple #[.int .i64 0, .bool false]) ∧ Below w.heap.size w w' := by
  have hp : 0 ≤ oz a * oz b := Int.mul_nonneg (oz_nonneg a) (oz_nonneg b)
  obtain ⟨q, hq⟩ : ∃ q, oz a * oz b / c = q := ⟨_, rfl⟩
  rw [hq] at h
  have HQ : Hid (oz a * oz b / c = q) := hq
  clear hq
  by_cases hh : c ≤ hiW (oz a * oz b)
  · have hh' : Hid (c ≤ hiW (oz a * oz b)) := hh
    clear hh
    go_enter Tryd.func28, Tryd.ntmps28
    go_wp2_with fail
    refine (product_any a b _ ha2 hb2).mono ?_
    rintro e w1 ⟨rfl, hb1⟩
    go_wp2_with fail
    refine (by_no (oz a * oz b) c _ hh'.out).mono ?_
    rintro e w2 ⟨rfl, hb2⟩
    go_wp2
    go_ret2
    exact ⟨rfl, hb1.trans (hb2.mono hb1.size)⟩
  · have hh' : Hid (hiW (oz a * oz b) < c) := by show _ < _; omega
    clear hh
    go_enter Tryd.func28, Tryd.ntmps28
    go_wp2_with fail
    refine (product_any a b _ ha2 hb2).mono ?_
    rintro e w1 ⟨rfl, hb1⟩
    go_wp2_with fail
    refine (by_yes (oz a * oz b) c _ hp hh'.out hc2).mono ?_
    rintro e w2 ⟨rfl, hb2⟩
    rw [HQ.out]
    go_wp2
    go_ret2
    exact ⟨rfl, hb1.trans (hb2.mono hb1.size)⟩

set_option maxHeartbeats 1000000 in
theorem mulDiv_good (a b c : Int) (w : World) (ha : 0 ≤ a) (hb : 0 ≤ b) (hc : 1 ≤ c) (ha2 : a ≤ 9223372036854775807) (hb2 : b ≤ 9223372036854775807) (hc2 : c ≤ 9223372036854775807)
    (h : oz a * oz b / c ≤ 4611686018427387904) :
    Calls Tryd.prog 28 #[.int .i64 a, .int .i64 b, .int .i64 c] w fun e w' => e = .returned (.tuple #[.int .i64 (oz a * oz b / c), .bool true]) ∧ Below w.heap.size w w' := by
  have hp : 0 ≤ oz a * oz b := Int.mul_nonneg (oz_nonneg a) (oz_nonneg b)
  have hh' : Hid (hiW (oz a * oz b) < c) := hi_lt _ c (by omega) h
  have hq0 : 0 ≤ oz a * oz b / c := Int.ediv_nonneg hp (by omega)
  obtain ⟨q, hq⟩ : ∃ q, oz a * oz b / c = q := ⟨_, rfl⟩
  rw [hq] at h hq0
  have HQ : Hid (oz a * oz b / c = q) := hq
  clear hq
  go_enter Tryd.func28, Tryd.ntmps28
  go_wp2_with fail
  refine (product_any a b _ ha2 hb2).mono ?_
  rintro e w1 ⟨rfl, hb1⟩
  go_wp2_with fail
  refine (by_yes (oz a * oz b) c _ hp hh'.out hc2).mono ?_
  rintro e w2 ⟨rfl, hb2⟩
  rw [HQ.out]
  go_wp2
  go_ret2
  exact ⟨ret_tup _ _ _ _ HQ.out.symm rfl, hb1.trans (hb2.mono hb1.size)⟩

theorem mulDiv_any (a b c : Int) (w : World) (ha2 : a ≤ 9223372036854775807) (hb2 : b ≤ 9223372036854775807) (hc2 : c ≤ 9223372036854775807) :
    Calls Tryd.prog 28 #[.int .i64 a, .int .i64 b, .int .i64 c] w fun e w' => e = .returned (.tuple #[.int .i64 (mdV a b c), .bool (mdOk a b c)]) ∧ Below w.heap.size w w' := by
  by_cases h : a < 0 ∨ b < 0 ∨ c < 1
  · have e := md_bad a b c h
    rw [e.1, e.2]
    exact mulDiv_bad a b c w h
  · by_cases h2 : oz a * oz b / c ≤ 4611686018427387904
    · have e := md_good a b c (by omega) (by omega) (by omega) h2
      rw [e.1, e.2]
      exact mulDiv_good a b c w (by omega) (by omega) (by omega) ha2 hb2 hc2 h2
    · have e := md_over a b c (by omega)
      rw [e.1, e.2]
      exact mulDiv_over a b c w (by omega) (by omega) (by omega) ha2 hb2 hc2 (by omega)

set_option maxHeartbeats 1000000 in
theorem percent_any (n p : Int) (w : World) (hn : n ≤ 9223372036854775807) (hp : p ≤ 9223372036854775807) :
    Calls Tryd.prog 20 #[.int .i64 n, .int .i64 p] w fun e w' => e = .returned (.int .i64 (mdV n p 100)) ∧ Below w.heap.size w w' := by
  go_enter Tryd.func20, Tryd.ntmps20
  go_wp2_with fail
  refine (mulDiv_any n p 100 _ hn hp (by omega)).mono ?_
  rintro e w1 ⟨rfl, hb1⟩
  go_wp2
  go_ret
  exact ⟨rfl, hb1⟩

end Go.Proofs.YtomhmndpjkfppaaDoor

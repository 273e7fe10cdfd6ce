/-
  Contracts of package hash (and of the reference's answers to chapter 2): fold, Text, With, Below.
-/
import Derived.Test.YtejjilnanmomcaaDoorKit
import Derived.Test.YtejjilnanmomcaaDoorHashPlain
import Derived.Test.YtejjilnanmomcaaDoorShelf
import Derived.Laws.Bits64
import Derived.Lib.AppendIntMem
import Derived.Lib.SmallJoins
namespace Go.Proofs.YtejjilnanmomcaaDoor
open Go.RowKit

/-- With's number. -/
def withV (l : List UInt8) (n : Int) : Nat := textV (l ++ 35 :: Lib.itoa n)

theorem ret_u64 {a b : Nat} (h : a = b) : Ending.returned (.int .u64 (a : Int)) = .returned (.int .u64 (b : Int)) := by rw [h]

theorem fold_any (x : Nat) (w : World) (hx : x < 18446744073709551616) :
    Calls Tryd.prog 38 #[.int .u64 x] w fun e w' => e = .returned (.int .u64 (hFold x : Nat)) ∧ w' = w := by
  have hX : bits .xor .u64 (x : Int) ((x : Int) / 8589934592) = ((hFold x : Nat) : Int) := xorShift_u64 x 8589934592 hx
  go_enter Tryd.func38, Tryd.ntmps38
  go_wp2
  go_ret
  exact ⟨rfl, rfl⟩

theorem btake_snoc (s : ByteArray) (k : Nat) (h : k < s.size) : s.data.toList.take (k + 1) = s.data.toList.take k ++ [s[k]] := by
  rw [List.take_succ_eq_append_getElem (by simpa using h)]; rfl

theorem step_wrap (H : Nat) (c : UInt8) (hH : H < 18446744073709551616) :
    IntKind.u64.wrap (bits .xor .u64 (H : Int) (IntKind.u64.wrap (c.toNat : Int)) * 1099511628211) = ((hStep H c : Nat) : Int) := by
  rw [show IntKind.u64.wrap (c.toNat : Int) = (c.toNat : Int) by rw [IntKind.wrap_u64]; have := c.toNat_lt; omega, bits_xor_u64_nat H c.toNat hH (by have := c.toNat_lt; omega), IntKind.wrap_u64]
  unfold hStep
  rw [Int.natCast_emod, Int.natCast_mul]
  rfl

theorem mul_wrap (X : Nat) : IntKind.u64.wrap ((X : Int) * 18397679294719823053) = ((hMul X : Nat) : Int) := by
  rw [IntKind.wrap_u64]
  unfold hMul
  rw [Int.natCast_emod, Int.natCast_mul]
  rfl

set_option maxHeartbeats 1000000 in
theorem text_any (s : ByteArray) (w : World) (hs : s.size ≤ 9223372036854775807) :
    Calls Tryd.prog 29 #[.string s] w fun e w' => e = .returned (.int .u64 (textV s.data.toList : Nat)) ∧ w' = w := by
  go_enter Tryd.func29, Tryd.ntmps29
  go_wp2
  go_loop [3, 7] (fun h i => ∃ k : Nat, k ≤ s.size ∧ i = .int .i64 k ∧ h = .int .u64 (hState (s.data.toList.take k) : Nat)) (fun _ i => s.size - (intOf i).toNat)
  case atStart => exact ⟨0, Nat.zero_le _, rfl, by simp [hState]⟩
  case round =>
    obtain ⟨k, hk, rfl, rfl⟩ := hrel
    have hb := hState_lt (s.data.toList.take k)
    by_cases hlt : k < s.size
    · have hsn := step_wrap _ s[k] hb
      rw [← hState_snoc, ← btake_snoc s k hlt] at hsn
      go_wp2
      go_round
      case rel => exact ⟨k + 1, by omega, by go_num, rfl⟩
      case measure => simp [intOf]; omega
    · have he : s.data.toList.take k = s.data.toList := List.take_of_length_le (by simp; omega)
      rw [he] at hb ⊢
      have hm := mul_wrap (hFold (hState s.data.toList))
      go_wp2_with fail
      refine (fold_any _ _ hb).mono ?_
      rintro e w1 ⟨rfl, hw⟩
      subst w1
      go_wp2_with fail
      refine (fold_any _ _ (hMul_lt _)).mono ?_
      rintro e w1 ⟨rfl, hw⟩
      subst w1
      go_wp2
      go_ret
      exact ⟨rfl, rfl⟩

set_option maxHeartbeats 1000000 in
theorem with_any (s : ByteArray) (n : Int) (w : World) (hs : s.size ≤ 1000000) (h0 : -9223372036854775808 ≤ n) (h1 : n ≤ 9223372036854775807)
    (htab : Lib.TabIs Tryd.prog w "internal/strconv.uint64pow10" .u64 Lib.pow10Tab) :
    Calls Tryd.prog 24 #[.string s, .int .i64 n] w fun e w' => e = .returned (.int .u64 (withV s.data.toList n : Nat)) ∧ Below w.heap.size w w' := by
  have hl := Lib.itoa_length_le n h0 h1
  go_enter Tryd.func24, Tryd.ntmps24
  go_wp2_with fail
  refine (Tryd.strconv_Itoa n h0 h1 _ htab).mono ?_
  rintro e w1 ⟨rfl, k, os, hw⟩
  have HB : Hid (Below w.heap.size w w1) := by subst hw; exact Lib.below_grow _ _ (Nat.le_refl _) _ _
  clear hw
  go_wp2_with fail
  refine (text_any _ _ (by rw [ByteArray.size_append, ByteArray.size_append]; show s.size + 1 + (Lib.itoa n).toArray.size ≤ _; rw [List.size_toArray]; omega)).mono ?_
  rintro e w2 ⟨rfl, hw⟩
  subst w2
  go_wp2
  go_ret
  exact ⟨ret_u64 (by unfold withV; simp), HB.out⟩

theorem below_any (h : Nat) (n : Int) (w : World) (hh : h < 18446744073709551616) (h0 : -9223372036854775808 ≤ n) (h1 : n ≤ 9223372036854775807) :
    Calls Tryd.prog 23 #[.int .u64 h, .int .i64 n] w fun e w' => e = .returned (.int .i64 (belowV h n)) ∧ w' = w := by
  by_cases hn : n < 1
  · have hb : belowV h n = 0 := by unfold belowV; rw [if_pos hn]
    go_enter Tryd.func23, Tryd.ntmps23
    go_wp2
    go_ret
    exact ⟨ret_int hb.symm, rfl⟩
  · have hb : belowV h n = (h : Int) % n := by unfold belowV; rw [if_neg hn]
    have hw : IntKind.u64.wrap n = n := by rw [IntKind.wrap_u64]; omega
    have hm : (h : Int).tmod n = (h : Int) % n := Int.tmod_eq_emod_of_nonneg (by omega)
    have hr0 := Int.emod_nonneg (h : Int) (show n ≠ 0 by omega)
    have hr1 := Int.emod_lt_of_pos (h : Int) (show 0 < n by omega)
    go_enter Tryd.func23, Tryd.ntmps23
    go_wp2
    go_ret
    exact ⟨rfl, rfl⟩

end Go.Proofs.YtejjilnanmomcaaDoor

/-
  The statements' own functions of stage 2: digits, minus, awake.
-/
import Derived.Test.YtfcdbaigiaeboaaDoorRefHash
namespace Go.Proofs.YtfcdbaigiaeboaaDoor
open Go.RowKit

theorem texts_ab : textV [97] ≠ textV [98] := by decide +kernel
theorem with_a1 : withV [97] 1 = textV [97, 35, 49] := by
  unfold withV
  rw [show Lib.itoa 1 = Lib.decDigits 1 from Lib.itoa_nonneg 1, Lib.decDigits_one (by decide)]
  rfl
theorem below_175 : belowV 17 5 = 2 := by decide +kernel
theorem below_170 : belowV 17 0 = 0 := by decide +kernel

theorem text_lit (l : List UInt8) (T : Nat) (hT : textV l = T) (w : World) (hs : l.length ≤ 1000) :
    Calls Tryd.prog 8 #[.string ⟨l.toArray⟩] w fun e w' => e = .returned (.int .u64 (T : Nat)) ∧ w' = w := by
  subst hT
  exact text_any ⟨l.toArray⟩ w (by show l.toArray.size ≤ _; rw [List.size_toArray]; omega)

theorem with_lit (l : List UInt8) (n : Int) (T : Nat) (hT : withV l n = T) (w : World) (hs : l.length ≤ 1000) (h0 : -9223372036854775808 ≤ n) (h1 : n ≤ 9223372036854775807)
    (htab : Lib.TabIs Tryd.prog w "internal/strconv.uint64pow10" .u64 Lib.pow10Tab) :
    Calls Tryd.prog 10 #[.string ⟨l.toArray⟩, .int .i64 n] w fun e w' => e = .returned (.int .u64 (T : Nat)) ∧ Below w.heap.size w w' := by
  subst hT
  exact with_any ⟨l.toArray⟩ n w (by show l.toArray.size ≤ _; rw [List.size_toArray]; omega) h0 h1 htab

theorem below_lit (h : Nat) (n r : Int) (hr : belowV h n = r) (w : World) (hh : h < 18446744073709551616) (h0 : -9223372036854775808 ≤ n) (h1 : n ≤ 9223372036854775807) :
    Calls Tryd.prog 12 #[.int .u64 h, .int .i64 n] w fun e w' => e = .returned (.int .i64 r) ∧ w' = w := by
  subst hr
  exact below_any h n w hh h0 h1

set_option maxHeartbeats 1000000 in
set_option maxRecDepth 100000 in
theorem awake_any (w : World) (htab : Lib.TabIs Tryd.prog w "internal/strconv.uint64pow10" .u64 Lib.pow10Tab) :
    Calls Tryd.prog 7 #[] w fun e w' => e = .returned (.bool true) ∧ Below w.heap.size w w' := by
  obtain ⟨A, hA⟩ : ∃ A, textV [97] = A := ⟨_, rfl⟩
  obtain ⟨B, hB⟩ : ∃ B, textV [98] = B := ⟨_, rfl⟩
  obtain ⟨C, hC⟩ : ∃ C, textV [97, 35, 49] = C := ⟨_, rfl⟩
  have ha1 : Hid (withV [97] 1 = C) := with_a1.trans hC
  have hne : ((A : Int) != (B : Int)) = true := bne_iff_ne.2 (fun h => texts_ab (hA.trans ((Int.ofNat_inj.1 h).trans hB.symm)))
  have Ht : Hid (Lib.TabIs Tryd.prog w "internal/strconv.uint64pow10" .u64 Lib.pow10Tab) := htab
  clear htab
  have HA : Hid (textV [97] = A) := hA
  have HB : Hid (textV [98] = B) := hB
  have HC : Hid (textV [97, 35, 49] = C) := hC
  clear hA hB hC
  go_enter Tryd.func7, Tryd.ntmps7
  go_wp2_with fail
  refine (text_lit [97] A HA.out _ (by decide)).mono ?_
  rintro e w1 ⟨rfl, hw⟩
  subst w1
  go_wp2_with fail
  refine (text_lit [98] B HB.out _ (by decide)).mono ?_
  rintro e w1 ⟨rfl, hw⟩
  subst w1
  go_wp2_with fail
  refine (with_lit [97] 1 C ha1.out _ (by decide) (by decide) (by decide) Ht.out).mono ?_
  rintro e w1 ⟨rfl, hb⟩
  have Hb : Hid (Below w.heap.size w w1) := hb
  clear hb
  go_wp2_with fail
  refine (text_lit [97, 35, 49] C HC.out _ (by decide)).mono ?_
  rintro e w2 ⟨rfl, hw⟩
  subst w2
  go_wp2_with fail
  refine (below_lit 17 5 2 below_175 _ (by decide) (by decide) (by decide)).mono ?_
  rintro e w2 ⟨rfl, hw⟩
  subst w2
  go_wp2_with fail
  refine (below_lit 17 0 0 below_170 _ (by decide) (by decide) (by decide)).mono ?_
  rintro e w2 ⟨rfl, hw⟩
  subst w2
  go_wp2
  go_ret
  exact ⟨rfl, Hb.out⟩

/-- 'string([]byte{c})', the row just laid. -/
theorem conv_byte (w : World) (c : UInt8) (x : Int) (hx : x = (c.toNat : Int)) :
    (convert 28 9 (.slice (some ⟨w.heap.size, 0, none⟩) 1 1)).run Tryd.prog (w.alloc (.cells #[.int .u8 x] 5)) = .ok (.string ⟨[c].toArray⟩) (w.alloc (.cells #[.int .u8 x] 5)) := by
  subst hx
  refine run_convert_bytes_back (P := Tryd.prog) _ 28 9 5 ⟨w.heap.size, 0, none⟩ 1 [c] Tryd.underlying28 Tryd.underlying5 Tryd.underlying9 (fun j hj => ?_)
  obtain rfl : j = 0 := by simpa using hj
  simp [Addr.add]

theorem digit_toNat (m : Nat) : ((UInt8.ofNat (48 + m % 10)).toNat : Int) = 48 + (m : Int) % 10 := by
  rw [UInt8.toNat_ofNat_of_lt' (by simp [UInt8.size]; omega)]; omega

theorem decDigits_len {n : Nat} (hn : n ≤ 9223372036854775808) : (Lib.decDigits n).length ≤ 21 := by
  by_cases h : n ≤ 9223372036854775807
  · have := Lib.itoa_length_le (n : Int) (by omega) (by omega)
    rwa [Lib.itoa_nonneg] at this
  · have := Lib.itoa_length_le (-(n : Int)) (by omega) (by omega)
    rw [Lib.itoa_neg _ (by omega)] at this
    simp at this
    omega

theorem decDigits_last (m : Nat) : Lib.decDigits m = (if m / 10 = 0 then [] else Lib.decDigits (m / 10)) ++ [UInt8.ofNat (48 + m % 10)] := by
  by_cases h : m < 10
  · rw [if_pos (by omega), Lib.decDigits_one h, Nat.mod_eq_of_lt h]; rfl
  · rw [if_neg (by omega), decDigits_step h]

theorem cat_bytes (c : UInt8) (l : List UInt8) : (⟨[c].toArray⟩ : ByteArray) ++ ⟨l.toArray⟩ = ⟨(c :: l).toArray⟩ := by
  apply ByteArray.ext
  simp

theorem size_bytes (l : List UInt8) : (⟨l.toArray⟩ : ByteArray).size = l.length := by show l.toArray.size = _; simp

set_option maxHeartbeats 1000000 in
theorem digits_pos (n : Nat) (w : World) (hn : n ≤ 9223372036854775807) :
    Calls Tryd.prog 14 #[.int .i64 n] w fun e w' => e = .returned (.string ⟨(Lib.decDigits n).toArray⟩) ∧ Below w.heap.size w w' := by
  have hlen := decDigits_len (n := n) (by omega)
  go_enter Tryd.func14, Tryd.ntmps14
  go_wp2
  go_loopw [0, 3] (fun x s wr => ∃ (m : Nat) (l : List UInt8), m ≤ n ∧ x = .int .i64 m ∧ s = .string ⟨l.toArray⟩ ∧ Lib.decDigits m ++ l = Lib.decDigits n ∧ Below w.heap.size w wr) (fun x _ _ => (intOf x).toNat)
  case atStart => exact ⟨n, [], Nat.le_refl _, rfl, rfl, by simp, Below.refl _ _⟩
  case round =>
    obtain ⟨m, l, hm, rfl, rfl, he, hb⟩ := hrel
    have hl : l.length ≤ 21 := by have := congrArg List.length he; simp at this; omega
    have hr : (m : Int).tmod 10 = (m : Int) % 10 := Int.tmod_eq_emod_of_nonneg (by omega)
    have hq : (m : Int).tdiv 10 = ((m / 10 : Nat) : Int) := by rw [Int.tdiv_eq_ediv_of_nonneg (by omega)]; rfl
    rw [decDigits_last, List.append_assoc, List.singleton_append] at he
    have hcv := conv_byte wr (UInt8.ofNat (48 + m % 10)) (48 + (m : Int) % 10) (digit_toNat m).symm
    have hcat := cat_bytes (UInt8.ofNat (48 + m % 10)) l
    have hsz := size_bytes l
    have hsz1 := size_bytes [UInt8.ofNat (48 + m % 10)]
    have HE : Hid ((if m / 10 = 0 then [] else Lib.decDigits (m / 10)) ++ UInt8.ofNat (48 + m % 10) :: l = Lib.decDigits n) := he
    have HB : Hid (Below w.heap.size w wr) := hb
    clear he hb
    generalize UInt8.ofNat (48 + m % 10) = c at hcv hcat HE hsz1
    by_cases h10 : m / 10 = 0
    · go_wp2
      go_ret
      have := HE.out
      rw [if_pos h10, List.nil_append] at this
      exact ⟨by rw [← this]; rfl, HB.out.alloc HB.out.size _⟩
    · go_wp2
      go_round
      case rel =>
        have := HE.out
        rw [if_neg h10] at this
        exact ⟨m / 10, c :: l, by omega, rfl, rfl, this, HB.out.alloc HB.out.size _⟩
      case measure => simp [intOf]; omega

set_option maxHeartbeats 1000000 in
theorem minus_any (n : Nat) (w : World) (h1 : 1 ≤ n) (hn : n ≤ 9223372036854775808) :
    Calls Tryd.prog 17 #[.int .i64 (-(n : Int))] w fun e w' => e = .returned (.string ⟨(45 :: Lib.decDigits n).toArray⟩) ∧ Below w.heap.size w w' := by
  have hlen := decDigits_len (n := n) (by omega)
  go_enter Tryd.func17, Tryd.ntmps17
  go_wp2
  go_loopw [0, 3] (fun x s wr => ∃ (m : Nat) (l : List UInt8), m ≤ n ∧ x = .int .i64 (-(m : Int)) ∧ s = .string ⟨l.toArray⟩ ∧ Lib.decDigits m ++ l = Lib.decDigits n ∧ Below w.heap.size w wr) (fun x _ _ => (intOf x).natAbs)
  case atStart => exact ⟨n, [], Nat.le_refl _, rfl, rfl, by simp, Below.refl _ _⟩
  case round =>
    obtain ⟨m, l, hm, rfl, rfl, he, hb⟩ := hrel
    have hl : l.length ≤ 21 := by have := congrArg List.length he; simp at this; omega
    have hr : (-(m : Int)).tmod 10 = -((m : Int) % 10) := by rw [Int.neg_tmod, Int.tmod_eq_emod_of_nonneg (by omega)]
    have hq : (-(m : Int)).tdiv 10 = -((m / 10 : Nat) : Int) := by rw [Int.neg_tdiv, Int.tdiv_eq_ediv_of_nonneg (by omega)]; rfl
    rw [decDigits_last, List.append_assoc, List.singleton_append] at he
    have hcv := conv_byte wr (UInt8.ofNat (48 + m % 10)) (48 + (m : Int) % 10) (digit_toNat m).symm
    have hcat := cat_bytes (UInt8.ofNat (48 + m % 10)) l
    have hcat2 := cat_bytes 45 (UInt8.ofNat (48 + m % 10) :: l)
    have hsz := size_bytes l
    have hsz1 := size_bytes [UInt8.ofNat (48 + m % 10)]
    have hsz2 := size_bytes (UInt8.ofNat (48 + m % 10) :: l)
    have HE : Hid ((if m / 10 = 0 then [] else Lib.decDigits (m / 10)) ++ UInt8.ofNat (48 + m % 10) :: l = Lib.decDigits n) := he
    have HB : Hid (Below w.heap.size w wr) := hb
    clear he hb
    generalize UInt8.ofNat (48 + m % 10) = c at hcv hcat hcat2 HE hsz1 hsz2
    by_cases h10 : m / 10 = 0
    · go_wp2
      go_ret
      have := HE.out
      rw [if_pos h10, List.nil_append] at this
      exact ⟨by rw [← this]; rfl, HB.out.alloc HB.out.size _⟩
    · go_wp2
      go_round
      case rel =>
        have := HE.out
        rw [if_neg h10] at this
        exact ⟨m / 10, c :: l, by omega, rfl, rfl, this, HB.out.alloc HB.out.size _⟩
      case measure => simp [intOf]; omega

theorem digits_any (n : Int) (w : World) (h0 : -9223372036854775808 ≤ n) (h1 : n ≤ 9223372036854775807) :
    Calls Tryd.prog 14 #[.int .i64 n] w fun e w' => e = .returned (.string ⟨(Lib.itoa n).toArray⟩) ∧ Below w.heap.size w w' := by
  by_cases hn : n < 0
  · obtain ⟨m, rfl⟩ : ∃ m : Nat, n = -(m : Int) := ⟨n.natAbs, by omega⟩
    rw [Lib.itoa_neg m (by omega)]
    go_enter Tryd.func14, Tryd.ntmps14
    go_wp2_with fail
    refine (minus_any m _ (by omega) (by omega)).mono ?_
    rintro e w1 ⟨rfl, hb⟩
    have HB : Hid (Below w.heap.size w w1) := hb
    clear hb
    go_wp2
    go_ret
    exact ⟨rfl, HB.out⟩
  · obtain ⟨m, rfl⟩ : ∃ m : Nat, n = (m : Int) := ⟨n.toNat, by omega⟩
    rw [Lib.itoa_nonneg m]
    exact digits_pos m w (by omega)

end Go.Proofs.YtfcdbaigiaeboaaDoor

/-
  The contracts of triageref1's Compare, Sum and Ints.
-/
import Derived.Test.YtkhklfbgfikeoaaRef1
import Derived.WalkSmall
namespace Go.Proofs.Ytkhklfbgfikeoaa
open Go.RowKit

theorem cmp_cases (p q : Int) : (hiW p < hiW q ∧ -1 = cmpV p q) ∨ ((hiW p == hiW q) = true ∧ hiW q ≤ hiW p ∧ loW p < loW q ∧ -1 = cmpV p q) ∨ ((hiW p == hiW q) = true ∧ hiW q ≤ hiW p ∧ loW q ≤ loW p ∧ (loW p == loW q) = true ∧ 0 = cmpV p q)
    ∨ ((hiW p == hiW q) = true ∧ hiW q ≤ hiW p ∧ loW q ≤ loW p ∧ (loW p == loW q) = false ∧ 1 = cmpV p q) ∨ (hiW q ≤ hiW p ∧ (hiW p == hiW q) = false ∧ 1 = cmpV p q) := by
  have e1 : p = hiW p * 18446744073709551616 + loW p := by unfold hiW loW; omega
  have e2 : q = hiW q * 18446744073709551616 + loW q := by unfold hiW loW; omega
  have b1 := loW_bd p
  have b2 := loW_bd q
  simp only [beq_iff_eq, beq_eq_false_iff_ne]
  unfold cmpV
  by_cases h1 : p < q
  · rw [if_pos h1]; omega
  · rw [if_neg h1]
    by_cases h2 : q < p
    · rw [if_pos h2]; omega
    · rw [if_neg h2]; omega

theorem oz_max (a : Int) : (if 0 < a then a else 0) = oz a := by unfold oz; split <;> split <;> omega

set_option maxHeartbeats 2000000 in
theorem rCompare_any (a b c d : Int) (w : World) (ha : a ≤ 9223372036854775807) (hb : b ≤ 9223372036854775807) (hc : c ≤ 9223372036854775807) (hd : d ≤ 9223372036854775807) :
    Calls Try.prog 13 #[.int .i64 a, .int .i64 b, .int .i64 c, .int .i64 d] w fun e w' => e = .returned (.int .i64 (cmpV (oz a * oz b) (oz c * oz d))) ∧ w' = w := by
  have mA := oz_max a
  have mB := oz_max b
  have mC := oz_max c
  have mD := oz_max d
  have a0 := oz_nonneg a
  have b0 := oz_nonneg b
  have c0 := oz_nonneg c
  have d0 := oz_nonneg d
  have a1 := oz_le a _ ha (by omega)
  have b1 := oz_le b _ hb (by omega)
  have c1 := oz_le c _ hc (by omega)
  have d1 := oz_le d _ hd (by omega)
  generalize oz a = A at *
  generalize oz b = B at *
  generalize oz c = C at *
  generalize oz d = D at *
  obtain ⟨p, hp⟩ : ∃ p, A * B = p := ⟨_, rfl⟩
  obtain ⟨q, hq⟩ : ∃ q, C * D = q := ⟨_, rfl⟩
  have C1 : Hid (∀ w, Calls Try.prog 25 #[.int .u64 A, .int .u64 B] w fun e w' => e = .returned (.tuple #[.int .u64 (hiW p), .int .u64 (loW p)]) ∧ w' = w) := by
    intro w
    have h := mul64_any A B w a0 (by omega) b0 (by omega)
    rw [hp] at h
    exact h
  have C2 : Hid (∀ w, Calls Try.prog 25 #[.int .u64 C, .int .u64 D] w fun e w' => e = .returned (.tuple #[.int .u64 (hiW q), .int .u64 (loW q)]) ∧ w' = w) := by
    intro w
    have h := mul64_any C D w c0 (by omega) d0 (by omega)
    rw [hq] at h
    exact h
  rw [hp, hq]
  clear hp hq ha hb hc hd
  obtain ⟨v, hv⟩ : ∃ v, cmpV p q = v := ⟨_, rfl⟩
  have hcc := cmp_cases p q
  rw [hv] at hcc ⊢
  clear hv
  rcases hcc with ⟨t1, hv⟩ | ⟨t1, t2, t3, hv⟩ | ⟨t1, t2, t3, t4, hv⟩ | ⟨t1, t2, t3, t4, hv⟩ | ⟨t1, t2, hv⟩
  all_goals
    subst hv
    go_enter Try.func13, Try.ntmps13
    go_wp2_with fail
    refine (C1.out _).mono ?_
    rintro e w1 ⟨rfl, hw⟩
    subst w1
    go_wp2_with fail
    refine (C2.out _).mono ?_
    rintro e w1 ⟨rfl, hw⟩
    subst w1
    go_wp2
    go_ret
    exact ⟨rfl, rfl⟩

set_option maxHeartbeats 1000000 in
theorem rSum_any (zs : List Int) (v : Value) (w : World) (h : IsInts w v zs) :
    Calls Try.prog 17 #[v] w fun e w' => e = .returned (.int .i64 (sumV zs)) ∧ w' = w := by
  obtain ⟨hwf, hlen, h3⟩ := h
  rcases h3 with ⟨rfl, ao, cap, rfl, _⟩ | ⟨hne, b, off, cap, rfl, hlt, hc⟩
  · have H : Hid ((0 : Int) = sumV []) := rfl
    go_enter Try.func17, Try.ntmps17
    go_wp2
    go_loop [3, 8] (fun s i => s = .int .i64 0 ∧ i = .int .i64 0) (fun _ _ => 0)
    case atStart => exact ⟨rfl, rfl⟩
    case round =>
      obtain ⟨rfl, rfl⟩ := hrel
      go_wp2
      go_ret
      exact ⟨ret_int H.out, rfl⟩
  · obtain ⟨L, hL⟩ : ∃ L, zs.length = L := ⟨_, rfl⟩
    have HW : Hid (∀ n ∈ zs, -9223372036854775808 ≤ n ∧ n ≤ 9223372036854775807) := hwf
    have HC : Hid (∀ i, i < zs.length → w.cell? ⟨b, off + i, none⟩ = some (.int .i64 (zs.getD i 0))) := hc
    have HL : Hid (zs.length = L) := hL
    rw [hL] at hlen ⊢
    clear hne hwf hc hL hlt
    go_enter Try.func17, Try.ntmps17
    go_wp2
    go_loop [3, 8] (fun s i => ∃ k : Nat, k ≤ L ∧ i = .int .i64 k ∧ s = .int .i64 (sm (zs.take k)) ∧ sm (zs.take k) ≤ 4611686018427387904) (fun _ i => L - (intOf i).toNat)
    case atStart => exact ⟨0, by omega, rfl, rfl, by simp [sm]⟩
    case round =>
      obtain ⟨k, hk, rfl, rfl, hs⟩ := hrel
      have hs0 := sm_nonneg (zs.take k)
      by_cases hlt : k < L
      · have hc := HC.out k (by rw [HL.out]; exact hlt)
        have hb := getD_bd HW.out k (by rw [HL.out]; exact hlt)
        have hsn := sm_snoc zs k (by rw [HL.out]; exact hlt)
        have HO : Hid (∀ k, 4611686018427387904 < sm (zs.take k) → sumV zs = 4611686018427387904) := sum_over zs
        generalize zs.getD k 0 = x at *
        have mx := oz_max x
        have o1 := oz_nonneg x
        have o2 := oz_le x _ hb.2 (by omega)
        generalize oz x = X at *
        have HS : Hid (sm (zs.take (k + 1)) = sm (zs.take k) + X) := hsn
        clear hsn
        by_cases hx : 4611686018427387904 - sm (zs.take k) < X
        · have hE : Hid (4611686018427387904 = sumV zs) := by
            refine (HO.out (k + 1) ?_).symm
            rw [HS.out]; omega
          go_wp2
          go_ret
          exact ⟨ret_int hE.out, rfl⟩
        · go_wp2
          go_round
          case rel => exact ⟨k + 1, by omega, by go_num, by rw [HS.out], by rw [HS.out]; omega⟩
          case measure => simp [intOf]; omega
      · have hkL : k = L := by omega
        subst hkL
        have hE : Hid (sm (zs.take k) = sumV zs) := by
          show _ = _
          have e : zs.take k = zs := List.take_of_length_le (by rw [HL.out]; exact Nat.le_refl _)
          rw [e] at hs ⊢
          exact (sum_in zs hs).symm
        go_wp2
        go_ret
        exact ⟨ret_int hE.out, rfl⟩

theorem IsInts.at {w : World} {v : Value} {zs : List Int} (h : IsInts w v zs) (h0 : 0 < zs.length) : ∃ b off cap, v = .slice (some ⟨b, off, none⟩) zs.length cap ∧ b < w.heap.size ∧ ∀ i, i < zs.length → w.cell? ⟨b, off + i, none⟩ = some (.int .i64 (zs.getD i 0)) := by
  rcases h.2.2 with ⟨rfl, _⟩ | ⟨_, b, off, cap, rfl, hlt, hc⟩
  · simp at h0
  · exact ⟨b, off, cap, rfl, hlt, hc⟩

set_option maxHeartbeats 1000000 in
theorem rInts_yes (zs : List Int) (v1 v2 : Value) (w : World) (h1 : IsInts w v1 zs) (h2 : IsInts w v2 zs) :
    Calls Try.prog 20 #[v1, v2] w fun e w' => e = .returned (.bool true) ∧ Below w.heap.size w w' := by
  have hlen := h1.2.1
  by_cases h0 : 0 < zs.length
  · obtain ⟨b1, o1, c1, rfl, l1, k1⟩ := h1.at h0
    obtain ⟨b2, o2, c2, rfl, l2, k2⟩ := h2.at h0
    have K1 : Hid (∀ i, i < zs.length → w.cell? ⟨b1, o1 + i, none⟩ = some (.int .i64 (zs.getD i 0))) := k1
    have K2 : Hid (∀ i, i < zs.length → w.cell? ⟨b2, o2 + i, none⟩ = some (.int .i64 (zs.getD i 0))) := k2
    obtain ⟨L, hL⟩ : ∃ L, zs.length = L := ⟨_, rfl⟩
    rw [hL] at K1 K2 hlen h0 ⊢
    clear hL h1 h2 k1 k2
    go_enter Try.func20, Try.ntmps20
    go_wp2
    go_loopw [13] (fun i wr => ∃ k : Nat, k ≤ L ∧ i = .int .i64 k ∧ Hid (Below w.heap.size w wr)) (fun i _ => L - (intOf i).toNat)
    case atStart => exact ⟨0, by omega, rfl, Below.refl _ _⟩
    case round =>
      obtain ⟨k, hk, rfl, hb⟩ := hrel
      by_cases hlt : k < L
      · have e1 : wr.cell? ⟨b1, o1 + k, none⟩ = some (.int .i64 (zs.getD k 0)) := (hb.out.cell (p := ⟨b1, o1 + k, none⟩) l1).trans (K1.out k hlt)
        have e2 : wr.cell? ⟨b2, o2 + k, none⟩ = some (.int .i64 (zs.getD k 0)) := (hb.out.cell (p := ⟨b2, o2 + k, none⟩) l2).trans (K2.out k hlt)
        generalize zs.getD k 0 = x at *
        go_wp2
        go_quiet (fail)
        go_wp2
        go_roundw
        case rel => exact ⟨k + 1, by omega, by go_num, below_drewN hb.out _⟩
        case measure => simp [intOf]; omega
      · go_wp2
        go_ret
        exact ⟨rfl, hb.out⟩
  · have hz : zs = [] := List.eq_nil_of_length_eq_zero (by omega)
    subst hz
    obtain ⟨a1, c1, rfl⟩ := h1.shape
    obtain ⟨a2, c2, rfl⟩ := h2.shape
    clear h1 h2
    go_enter Try.func20, Try.ntmps20
    go_wp2
    go_loop [13] (fun i => i = .int .i64 0) (fun _ => 0)
    case atStart => exact rfl
    case round =>
      obtain rfl := hrel
      go_wp2
      go_ret
      exact ⟨rfl, Below.refl _ _⟩

end Go.Proofs.Ytkhklfbgfikeoaa

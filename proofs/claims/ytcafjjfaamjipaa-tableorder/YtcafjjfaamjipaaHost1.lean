/-
  Contracts of package host: words, rows of pairs.
-/
import Derived.Test.YtcafjjfaamjipaaHostPlain
import Derived.Test.YtcafjjfaamjipaaChecked
import Derived.WalkSmall
import Derived.Deep.QuietTactic
namespace Go.Proofs.Ytcafjjfaamjipaa
open Go.RowKit

set_option maxHeartbeats 400000 in
theorem within_any (n a b : Int) (w : World) : Calls Try.prog 41 #[.int .i64 n, .int .i64 a, .int .i64 b] w fun e w' => e = .returned (.bool (decide (a ≤ n) && decide (n ≤ b))) ∧ w' = w := by
  by_cases h1 : a ≤ n
  · have hd : decide (a ≤ n) = true := decide_eq_true h1
    go_enter Try.func41, Try.ntmps41
    go_wp2
    go_ret
    exact ⟨by simp [h1], rfl⟩
  · have hd : decide (a ≤ n) = false := decide_eq_false h1
    go_enter Try.func41, Try.ntmps41
    go_wp2
    go_ret
    exact ⟨by simp, rfl⟩

set_option maxHeartbeats 400000 in
theorem ofWord_any (c : UInt8) (w : World) : Calls Try.prog 51 #[.int .u8 (c.toNat : Int)] w fun e w' => e = .returned (.bool (nameB c)) ∧ w' = w := by
  have hub := c.toNat_lt
  have key : ((97 : Int) ≤ c.toNat ∧ (c.toNat : Int) ≤ 122 ∧ nameB c = true) ∨ ((97 : Int) ≤ c.toNat ∧ ¬ (c.toNat : Int) ≤ 122 ∧ (48 : Int) ≤ c.toNat ∧ ¬ (c.toNat : Int) ≤ 57 ∧ ((c.toNat : Int) == 45) = false ∧ ((c.toNat : Int) == 46) = false ∧ nameB c = false) ∨
      (¬ (97 : Int) ≤ c.toNat ∧ (48 : Int) ≤ c.toNat ∧ (c.toNat : Int) ≤ 57 ∧ nameB c = true) ∨ (¬ (97 : Int) ≤ c.toNat ∧ (48 : Int) ≤ c.toNat ∧ ¬ (c.toNat : Int) ≤ 57 ∧ ((c.toNat : Int) == 45) = false ∧ ((c.toNat : Int) == 46) = false ∧ nameB c = false) ∨
      (¬ (97 : Int) ≤ c.toNat ∧ ¬ (48 : Int) ≤ c.toNat ∧ ((c.toNat : Int) == 45) = true ∧ nameB c = true) ∨ (¬ (97 : Int) ≤ c.toNat ∧ ¬ (48 : Int) ≤ c.toNat ∧ ((c.toNat : Int) == 45) = false ∧ ((c.toNat : Int) == 46) = true ∧ nameB c = true) ∨ (¬ (97 : Int) ≤ c.toNat ∧ ¬ (48 : Int) ≤ c.toNat ∧ ((c.toNat : Int) == 45) = false ∧ ((c.toNat : Int) == 46) = false ∧ nameB c = false) := by
    unfold nameB
    simp only [beq_iff_eq, beq_eq_false_iff_ne, decide_eq_true_eq, decide_eq_false_iff_not]
    omega
  generalize (c.toNat : Int) = C at *
  generalize nameB c = r at *
  rcases key with ⟨a1, a2, rfl⟩ | ⟨a1, a2, a3, a4, a5, a6, rfl⟩ | ⟨a1, a2, a3, rfl⟩ | ⟨a1, a2, a3, a4, a5, rfl⟩ | ⟨a1, a2, a3, rfl⟩ | ⟨a1, a2, a3, a4, rfl⟩ | ⟨a1, a2, a3, a4, rfl⟩
  all_goals
    go_enter Try.func51, Try.ntmps51
    go_wp2
    go_ret
    exact ⟨rfl, rfl⟩

set_option maxHeartbeats 1000000 in
theorem isWord_any (s : ByteArray) (w : World) (hs : s.size ≤ 9223372036854775807) :
    Calls Try.prog 42 #[.string s] w fun e w' => e = .returned (.bool (nameOK s)) ∧ w' = w := by
  by_cases h1 : 1 ≤ s.size ∧ s.size ≤ 12
  · have HW : Hid (∀ w, Calls Try.prog 41 #[.int .i64 (s.size : Nat), .int .i64 1, .int .i64 12] w fun e w' => e = .returned (.bool true) ∧ w' = w) := fun w => by
      have := within_any (s.size : Nat) 1 12 w
      rwa [decide_eq_true (by omega), decide_eq_true (by omega)] at this
    have h12 : s.size ≤ 12 := h1.2
    by_cases h3 : s.data.toList = [45]
    · have H : Hid (nameOK s = false) := nameOK_minus h3
      have z : (s.toList == [45]) = true := by rw [ByteArray.toList_eq, h3]; rfl
      clear h3
      go_enter Try.func42, Try.ntmps42
      go_wp2_with fail
      refine (HW.out _).mono ?_
      rintro e w1 ⟨rfl, hw⟩; subst w1
      go_wp2
      go_ret
      exact ⟨by rw [H.out]; rfl, rfl⟩
    · have z : (s.toList == [45]) = false := by rw [ByteArray.toList_eq]; simpa using h3
      have HE : Hid ((∀ b ∈ s.data.toList, nameB b = true) → nameOK s = true) := nameOK_end h1.1 h1.2 h3
      have HBad : Hid (∀ k (h : k < s.size), nameB s[k] = false → nameOK s = false) := fun k h hb => nameOK_bad k h hb
      clear h3 h1
      go_enter Try.func42, Try.ntmps42
      go_wp2_with fail
      refine (HW.out _).mono ?_
      rintro e w1 ⟨rfl, hw⟩; subst w1
      go_wp2
      go_loop [3] (fun i => ∃ k : Nat, k ≤ s.size ∧ i = .int .i64 k ∧ ∀ b ∈ upto s k, nameB b = true) (fun i => s.size - (intOf i).toNat)
      case atStart => exact ⟨0, Nat.zero_le _, rfl, by simp [upto]⟩
      case round =>
        obtain ⟨k, hk, rfl, hd⟩ := hrel
        have HD : Hid (∀ b ∈ upto s k, nameB b = true) := hd
        clear hd
        by_cases hlt : k < s.size
        · have hsu := upto_succ s k hlt
          have HDn : Hid (nameB s[k] = true → ∀ b ∈ upto s (k + 1), nameB b = true) := fun h b hb => by
            rw [hsu] at hb
            rcases List.mem_append.1 hb with h1 | h1
            · exact HD.out b h1
            · rw [List.mem_singleton] at h1; rw [h1]; exact h
          have HBk : Hid (nameB s[k] = false → nameOK s = false) := HBad.out k hlt
          have HO : Hid (∀ w, Calls Try.prog 51 #[.int .u8 ((s[k]).toNat : Int)] w fun e w' => e = .returned (.bool (nameB s[k])) ∧ w' = w) := fun w => ofWord_any _ w
          clear hsu
          cases hb : nameB s[k] with
          | true =>
            rw [hb] at HO
            have HT : Hid (∀ b ∈ upto s (k + 1), nameB b = true) := HDn.out hb
            clear hb
            go_wp2_with fail
            refine (HO.out _).mono ?_
            rintro e w1 ⟨rfl, hw⟩; subst w1
            go_wp2
            go_round
            case rel => exact ⟨k + 1, by omega, by go_num, HT.out⟩
            case measure => simp [intOf]; omega
          | false =>
            rw [hb] at HO
            have HF : Hid (nameOK s = false) := HBk.out hb
            clear hb
            go_wp2_with fail
            refine (HO.out _).mono ?_
            rintro e w1 ⟨rfl, hw⟩; subst w1
            go_wp2
            go_ret
            exact ⟨by rw [HF.out]; rfl, rfl⟩
        · have hall := HD.out
          rw [upto_all s k (by omega)] at hall
          have HT : Hid (nameOK s = true) := HE.out hall
          clear hall
          go_wp2
          go_ret
          exact ⟨by rw [HT.out]; rfl, rfl⟩
  · have H : Hid (nameOK s = false) := nameOK_short h1
    have HW : Hid (∀ w, Calls Try.prog 41 #[.int .i64 (s.size : Nat), .int .i64 1, .int .i64 12] w fun e w' => e = .returned (.bool false) ∧ w' = w) := fun w => by
      have := within_any (s.size : Nat) 1 12 w
      have e : (decide ((1 : Int) ≤ (s.size : Nat)) && decide (((s.size : Nat) : Int) ≤ 12)) = false := by
        rw [Bool.and_eq_false_iff, decide_eq_false_iff_not, decide_eq_false_iff_not]; omega
      rwa [e] at this
    clear h1
    go_enter Try.func42, Try.ntmps42
    go_wp2_with fail
    refine (HW.out _).mono ?_
    rintro e w1 ⟨rfl, hw⟩; subst w1
    go_wp2
    go_ret
    exact ⟨by rw [H.out]; rfl, rfl⟩

set_option maxHeartbeats 1000000 in
theorem maySubset_any (ps : List PairT) (v : Value) (w : World) (hv : IsPairs w v ps) :
    Calls Try.prog 43 #[v] w fun e w' => e = .returned (.bool (mayPairs ps)) ∧ Below w.heap.size w w' := by
  obtain ⟨ao, cap, rfl⟩ := hv.shaped
  have hlen := hv.len
  have HV : Hid (IsPairs w (.slice ao ps.length cap) ps) := hv
  clear hv
  by_cases h6 : 6 < ps.length
  · have HF : Hid (mayPairs ps = false) := mayPairs_long h6
    go_enter Try.func43, Try.ntmps43
    go_wp2
    go_ret
    exact ⟨by rw [HF.out]; rfl, Below.refl _ _⟩
  · go_enter Try.func43, Try.ntmps43
    go_wp2
    go_loopw [10] (fun i wr => ∃ k : Nat, k ≤ ps.length ∧ i = .int .i64 k ∧ (∀ p ∈ ps.take k, nameOK p.1 = true ∧ nameOK p.2 = true) ∧ Below w.heap.size w wr) (fun i _ => ps.length - (intOf i).toNat)
    case atStart => exact ⟨0, Nat.zero_le _, rfl, by simp, Below.refl _ _⟩
    case round =>
      obtain ⟨k, hk, rfl, ht, hb⟩ := hrel
      have HT : Hid (∀ p ∈ ps.take k, nameOK p.1 = true ∧ nameOK p.2 = true) := ht
      have HB : Hid (Below w.heap.size w wr) := hb
      clear ht hb
      by_cases hlt : k < ps.length
      · obtain ⟨b, off, rfl, hbl, g1, g2⟩ := (HV.out.below HB.out).at k hlt
        have hok := HV.out.ok k hlt
        have HN : Hid (nameOK (ps.getD k noP).1 = true → nameOK (ps.getD k noP).2 = true → ∀ p ∈ ps.take (k + 1), nameOK p.1 = true ∧ nameOK p.2 = true) := fun h1 h2 => mem_take_succ noP hlt HT.out ⟨h1, h2⟩
        have HX : Hid (nameOK (ps.getD k noP).1 = false ∨ nameOK (ps.getD k noP).2 = false → mayPairs ps = false) := mayPairs_bad hlt
        generalize ps.getD k noP = pq at g1 g2 HN HX hok
        obtain ⟨x, y⟩ := pq
        have HY : Hid (okPair (x, y)) := hok
        simp only at g1 g2
        have HO1 : ∀ w, Calls Try.prog 42 #[.string x] w fun e w' => e = .returned (.bool (nameOK x)) ∧ w' = w := fun w => isWord_any x w HY.out.1
        have HO2 : ∀ w, Calls Try.prog 42 #[.string y] w fun e w' => e = .returned (.bool (nameOK y)) ∧ w' = w := fun w => isWord_any y w HY.out.2
        clear hok
        cases h1 : nameOK x with
        | false =>
          rw [h1] at HO1
          have HF : Hid (mayPairs ps = false) := HX.out (.inl h1)
          clear h1 HO2 HN HX
          go_wp2_with fail
          refine (HO1 _).mono ?_
          rintro e w1 ⟨rfl, hw⟩; subst w1
          go_wp2
          go_ret
          exact ⟨by rw [HF.out]; rfl, HB.out.trans ((((Below.refl _ _).alloc (Nat.le_refl _) _)).mono HB.out.size)⟩
        | true =>
          rw [h1] at HO1
          have HN1 : Hid (nameOK y = true → ∀ p ∈ ps.take (k + 1), nameOK p.1 = true ∧ nameOK p.2 = true) := HN.out h1
          have HX1 : Hid (nameOK y = false → mayPairs ps = false) := fun h => HX.out (.inr h)
          clear h1 HN HX
          cases h2 : nameOK y with
          | false =>
            rw [h2] at HO2
            have HF : Hid (mayPairs ps = false) := HX1.out h2
            clear h2 HN1 HX1
            go_wp2_with fail
            refine (HO1 _).mono ?_
            rintro e w1 ⟨rfl, hw⟩; subst w1
            go_wp2_with fail
            refine (HO2 _).mono ?_
            rintro e w1 ⟨rfl, hw⟩; subst w1
            go_wp2
            go_ret
            exact ⟨by rw [HF.out]; rfl, HB.out.trans ((((Below.refl _ _).alloc (Nat.le_refl _) _)).mono HB.out.size)⟩
          | true =>
            rw [h2] at HO2
            have HF : Hid (∀ p ∈ ps.take (k + 1), nameOK p.1 = true ∧ nameOK p.2 = true) := HN1.out h2
            clear h2 HN1 HX1
            go_wp2_with fail
            refine (HO1 _).mono ?_
            rintro e w1 ⟨rfl, hw⟩; subst w1
            go_wp2_with fail
            refine (HO2 _).mono ?_
            rintro e w1 ⟨rfl, hw⟩; subst w1
            go_wp2
            go_roundw
            case rel => exact ⟨k + 1, by omega, by go_num, HF.out, HB.out.trans ((((Below.refl _ _).alloc (Nat.le_refl _) _)).mono HB.out.size)⟩
            case measure => simp [intOf]; omega
      · have hall := HT.out
        rw [List.take_of_length_le (by omega)] at hall
        have HF : Hid (mayPairs ps = true) := mayPairs_end (by omega) hall
        clear hall
        go_wp2
        go_ret
        exact ⟨by rw [HF.out]; rfl, HB.out⟩

end Go.Proofs.Ytcafjjfaamjipaa

/-
  The contracts of package lines' Number and Name, as landed.
-/
import Derived.Test.YtomhmndpjkfppaaDoorRefWord
namespace Go.Proofs.YtomhmndpjkfppaaDoor
open Go.RowKit

theorem numL_acc_ge (l : List UInt8) (a : Nat) : a * 10 ^ l.length ≤ l.foldl (fun n b => n * 10 + (b.toNat - 48)) a := by
  induction l generalizing a with
  | nil => simp
  | cons b r ih =>
    rw [List.foldl_cons, List.length_cons, Nat.pow_succ, Nat.mul_comm (10 ^ r.length) 10, ← Nat.mul_assoc]
    exact Nat.le_trans (Nat.mul_le_mul_right _ (Nat.le_add_right _ _)) (ih _)
theorem numL_append_ge (a b : List UInt8) : numL a ≤ numL (a ++ b) := by
  unfold numL
  rw [List.foldl_append]
  refine Nat.le_trans ?_ (numL_acc_ge b _)
  exact Nat.le_mul_of_pos_right _ (Nat.pow_pos (by omega))
theorem numOK_much {s : ByteArray} (k : Nat) (h : 1000000 < numL (upto s k)) : numOK s = false := by
  have e : s.data.toList = upto s k ++ s.data.toList.drop k := (List.take_append_drop _ _).symm
  have hd : decide (numL s.data.toList ≤ 1000000) = false := by
    rw [decide_eq_false_iff_not, e]
    have := numL_append_ge (upto s k) (s.data.toList.drop k)
    omega
  unfold numOK
  rw [hd]; simp
theorem numOK_all {s : ByteArray} (h1 : 1 ≤ s.size) (h3 : ¬ (1 < s.size ∧ (s[0]).toNat = 48)) (h4 : ∀ b ∈ s.data.toList, isDig b = true) (h5 : numL s.data.toList ≤ 1000000) : numOK s = true := by
  by_cases h7 : s.size ≤ 7
  · rw [numOK_end h1 h7 h3 h4]; simpa using h5
  · exfalso
    have hl : s.data.toList.length = s.size := rfl
    obtain ⟨c, r, e⟩ : ∃ c r, s.data.toList = c :: r := by
      cases hh : s.data.toList with
      | nil => rw [hh] at hl; simp at hl; omega
      | cons c r => exact ⟨c, r, rfl⟩
    have hc : c = s[0] := by
      have := head_at s (by omega)
      rw [e] at this
      simpa using this
    have hd := h4 c (by rw [e]; simp)
    unfold isDig at hd
    rw [decide_eq_true_eq] at hd
    have hn : c.toNat ≠ 48 := fun h => h3 ⟨by omega, by rw [← hc]; exact h⟩
    rw [e] at h5 hl
    unfold numL at h5
    rw [List.foldl_cons] at h5
    have h6 := numL_acc_ge r (0 * 10 + (c.toNat - 48))
    have h8 : 10 ^ 7 ≤ 10 ^ r.length := Nat.pow_le_pow_right (by omega) (by simp at hl; omega)
    have h9 : 1 * 10 ^ r.length ≤ (0 * 10 + (c.toNat - 48)) * 10 ^ r.length := Nat.mul_le_mul_right _ (by omega)
    omega

set_option maxHeartbeats 1000000 in
theorem isDigit_any (b : UInt8) (w : World) :
    Calls Tryd.prog 48 #[.int .u8 (b.toNat : Int)] w fun e w' => e = .returned (.bool (isDig b)) ∧ w' = w := by
  have HD : Hid (isDig b = decide (48 ≤ b.toNat ∧ b.toNat ≤ 57)) := rfl
  have hub := b.toNat_lt
  by_cases h1 : (48 : Int) ≤ (b.toNat : Int)
  · by_cases h2 : (b.toNat : Int) ≤ 57
    · have HT : Hid (isDig b = true) := by show _ = _; rw [HD.out, decide_eq_true_eq]; omega
      go_enter Tryd.func48, Tryd.ntmps48
      go_wp2
      go_ret
      exact ⟨by rw [HT.out]; rfl, rfl⟩
    · have HT : Hid (isDig b = false) := by show _ = _; rw [HD.out, decide_eq_false_iff_not]; omega
      go_enter Tryd.func48, Tryd.ntmps48
      go_wp2
      go_ret
      exact ⟨by rw [HT.out]; rfl, rfl⟩
  · have HT : Hid (isDig b = false) := by show _ = _; rw [HD.out, decide_eq_false_iff_not]; omega
    go_enter Tryd.func48, Tryd.ntmps48
    go_wp2
    go_ret
    exact ⟨by rw [HT.out]; rfl, rfl⟩

set_option maxHeartbeats 2000000 in
theorem isOfName_any (b : UInt8) (w : World) :
    Calls Tryd.prog 47 #[.int .u8 (b.toNat : Int)] w fun e w' => e = .returned (.bool (nameB b)) ∧ w' = w := by
  have HN : Hid (nameB b = decide ((97 ≤ b.toNat ∧ b.toNat ≤ 122) ∨ (48 ≤ b.toNat ∧ b.toNat ≤ 57) ∨ b.toNat = 45 ∨ b.toNat = 46)) := rfl
  have HD : Hid (isDig b = decide (48 ≤ b.toNat ∧ b.toNat ≤ 57)) := rfl
  have hub := b.toNat_lt
  have hdig := isDigit_any b
  by_cases h1 : (97 : Int) ≤ (b.toNat : Int)
  · by_cases h2 : (b.toNat : Int) ≤ 122
    · have HT : Hid (nameB b = true) := by show _ = _; rw [HN.out, decide_eq_true_eq]; omega
      go_enter Tryd.func47, Tryd.ntmps47
      go_wp2
      go_ret
      exact ⟨by rw [HT.out]; rfl, rfl⟩
    · have HT : Hid (nameB b = false) := by show _ = _; rw [HN.out, decide_eq_false_iff_not]; omega
      have d0 : isDig b = false := by rw [HD.out, decide_eq_false_iff_not]; omega
      have d1 : ((b.toNat : Int) == 45) = false := by rw [beq_eq_false_iff_ne]; omega
      have d2 : ((b.toNat : Int) == 46) = false := by rw [beq_eq_false_iff_ne]; omega
      rw [d0] at hdig
      clear d0
      go_enter Tryd.func47, Tryd.ntmps47
      go_wp2_with fail
      refine (hdig _).mono ?_
      rintro e w1 ⟨rfl, hw⟩
      subst w1
      go_wp2
      go_ret
      exact ⟨by rw [HT.out]; rfl, rfl⟩
  · by_cases hd : isDig b = true
    · have hd' := hd
      rw [HD.out, decide_eq_true_eq] at hd'
      have HT : Hid (nameB b = true) := by show _ = _; rw [HN.out, decide_eq_true_eq]; omega
      rw [hd] at hdig
      clear hd hd'
      go_enter Tryd.func47, Tryd.ntmps47
      go_wp2_with fail
      refine (hdig _).mono ?_
      rintro e w1 ⟨rfl, hw⟩
      subst w1
      go_wp2
      go_ret
      exact ⟨by rw [HT.out]; rfl, rfl⟩
    · have hd0 : isDig b = false := by simpa using hd
      have hd' := hd0
      rw [HD.out, decide_eq_false_iff_not] at hd'
      rw [hd0] at hdig
      have key : (((b.toNat : Int) == 45) = true ∧ Hid (nameB b = true)) ∨ (((b.toNat : Int) == 45) = false ∧ ((b.toNat : Int) == 46) = true ∧ Hid (nameB b = true)) ∨ (((b.toNat : Int) == 45) = false ∧ ((b.toNat : Int) == 46) = false ∧ Hid (nameB b = false)) := by
        by_cases e1 : b.toNat = 45
        · exact .inl ⟨by rw [beq_iff_eq]; omega, by show _ = _; rw [HN.out, decide_eq_true_eq]; omega⟩
        · by_cases e2 : b.toNat = 46
          · exact .inr (.inl ⟨by rw [beq_eq_false_iff_ne]; omega, by rw [beq_iff_eq]; omega, by show _ = _; rw [HN.out, decide_eq_true_eq]; omega⟩)
          · exact .inr (.inr ⟨by rw [beq_eq_false_iff_ne]; omega, by rw [beq_eq_false_iff_ne]; omega, by show _ = _; rw [HN.out, decide_eq_false_iff_not]; omega⟩)
      clear hd hd0 hd'
      rcases key with ⟨k1, HT⟩ | ⟨k1, k2, HT⟩ | ⟨k1, k2, HT⟩
      all_goals
        go_enter Tryd.func47, Tryd.ntmps47
        go_wp2_with fail
        refine (hdig _).mono ?_
        rintro e w1 ⟨rfl, hw⟩
        subst w1
        go_wp2
        go_ret
        exact ⟨by rw [HT.out]; rfl, rfl⟩

theorem empty_list (x : ByteArray) (h : x.size = 0) : (x.toList == []) = true := by
  rw [ByteArray.toList_eq, List.eq_nil_of_length_eq_zero (show x.data.toList.length = 0 from h)]; rfl
theorem nonempty_list (x : ByteArray) (h : x.size ≠ 0) : (x.toList == []) = false := by
  rw [ByteArray.toList_eq, beq_eq_false_iff_ne]
  intro e
  exact h (show x.data.toList.length = 0 by rw [e]; rfl)

set_option maxHeartbeats 2000000 in
theorem number_same (s : ByteArray) (w : World) (hs : s.size ≤ 9223372036854775807) :
    Calls Tryd.prog 41 #[.string s] w fun e w' => e = .returned (.tuple #[.int .i64 (numV s), .bool (numOK s)]) ∧ w' = w := by
  have HV : Hid (numV s = if numOK s then (numL s.data.toList : Int) else 0) := rfl
  by_cases h0 : s.size = 0
  · have H : Hid (numOK s = false) := numOK_short (by omega)
    have hx1 := empty_list s h0
    have hx2 : s.toList = [] := by simpa using hx1
    clear h0 hx1
    go_enter Tryd.func41, Tryd.ntmps41
    go_wp2
    go_ret2
    exact ⟨by rw [HV.out, H.out]; rfl, rfl⟩
  · have hx1 := nonempty_list s h0
    have hx2 : s.toList.isEmpty = false := by simpa using hx1
    by_cases h3 : 1 < s.size ∧ (s[0]).toNat = 48
    · have H : Hid (numOK s = false) := numOK_nought h3.1 h3.2
      have z1 : (1 : Int) < (s.size : Int) := by omega
      have z2 : (((s[0]).toNat : Int) == 48) = true := by simp [h3.2]
      go_enter Tryd.func41, Tryd.ntmps41
      go_wp2
      go_ret2
      exact ⟨by rw [HV.out, H.out]; rfl, rfl⟩
    · have HE : Hid ((∀ b ∈ s.data.toList, isDig b = true) → numL s.data.toList ≤ 1000000 → numOK s = true) := numOK_all (by omega) h3
      have HBad : Hid (∀ k (h : k < s.size), isDig s[k] = false → numOK s = false) := fun k h hb => numOK_bad k h hb
      have HMuch : Hid (∀ k, 1000000 < numL (upto s k) → numOK s = false) := fun k h => numOK_much k h
      have key : ((1 : Int) < (s.size : Int) ∧ (((s[0]).toNat : Int) == 48) = false) ∨ ¬ (1 : Int) < (s.size : Int) := by
        by_cases h : (1 : Int) < (s.size : Int)
        · left
          exact ⟨h, by rw [beq_eq_false_iff_ne]; intro e; exact h3 ⟨by omega, by omega⟩⟩
        · exact .inr h
      rcases key with ⟨z1, z2⟩ | z1
      all_goals
        go_enter Tryd.func41, Tryd.ntmps41
        go_wp2
        go_loop [4, 20] (fun n i => ∃ k : Nat, k ≤ s.size ∧ i = .int .i64 k ∧ n = .int .i64 (numL (upto s k) : Nat) ∧ numL (upto s k) ≤ 1000000 ∧ ∀ b ∈ upto s k, isDig b = true) (fun _ i => s.size - (intOf i).toNat)
        case atStart => exact ⟨0, Nat.zero_le _, rfl, rfl, by simp [upto, numL], by simp [upto]⟩
        case round =>
          obtain ⟨k, hk, rfl, rfl, hb7, hd⟩ := hrel
          have HD : Hid (∀ b ∈ upto s k, isDig b = true) := hd
          clear hd
          by_cases hlt : k < s.size
          · have hsu := upto_succ s k hlt
            have HSu : Hid (numL (upto s (k + 1)) = numL (upto s k) * 10 + ((s[k]).toNat - 48)) := by show _ = _; rw [hsu, numL_snoc]
            have HDn : Hid (isDig s[k] = true → ∀ b ∈ upto s (k + 1), isDig b = true) := fun h b hb => by
              rw [hsu] at hb
              rcases List.mem_append.1 hb with h1 | h1
              · exact HD.out b h1
              · rw [List.mem_singleton] at h1; rw [h1]; exact h
            have HBk : Hid (isDig s[k] = false → numOK s = false) := HBad.out k hlt
            have HMk : Hid (1000000 < numL (upto s (k + 1)) → numOK s = false) := HMuch.out (k + 1)
            have HDg : Hid (isDig s[k] = decide (48 ≤ (s[k]).toNat ∧ (s[k]).toNat ≤ 57)) := rfl
            have hub := (s[k]).toNat_lt
            have hdig := isDigit_any s[k]
            clear hsu
            generalize numL (upto s k) = M at hb7 HSu ⊢
            by_cases hd1 : isDig s[k] = true
            · have hd' := hd1
              rw [HDg.out, decide_eq_true_eq] at hd'
              have HO : Hid (∀ b ∈ upto s (k + 1), isDig b = true) := HDn.out hd1
              rw [hd1] at hdig
              have d1 : ¬ ((s[k]).toNat : Int) < 48 := by omega
              have d2 : ¬ (57 : Int) < ((s[k]).toNat : Int) := by omega
              clear hd1 hd'
              by_cases hm : (1000000 : Int) < (M : Int) * 10 + (((s[k]).toNat : Int) - 48)
              · have HF : Hid (numOK s = false) := HMk.out (by rw [HSu.out]; omega)
                go_wp2_with fail
                refine (hdig _).mono ?_
                rintro e w1 ⟨rfl, hw⟩
                subst w1
                go_wp2
                go_ret2
                exact ⟨by rw [HV.out, HF.out]; rfl, rfl⟩
              · have HS2 : Hid (numL (upto s (k + 1)) ≤ 1000000) := by show _ ≤ _; rw [HSu.out]; omega
                go_wp2_with fail
                refine (hdig _).mono ?_
                rintro e w1 ⟨rfl, hw⟩
                subst w1
                go_wp2
                go_round
                case rel => exact ⟨k + 1, by omega, by go_num, by rw [HSu.out]; go_num, HS2.out, HO.out⟩
                case measure => simp [intOf]; omega
            · have hd0 : isDig s[k] = false := by simpa using hd1
              have HF : Hid (numOK s = false) := HBk.out hd0
              rw [hd0] at hdig
              clear hd1 hd0
              go_wp2_with fail
              refine (hdig _).mono ?_
              rintro e w1 ⟨rfl, hw⟩
              subst w1
              go_wp2
              go_ret2
              exact ⟨by rw [HV.out, HF.out]; rfl, rfl⟩
          · have hall := HD.out
            rw [upto_all s k (by omega)] at hall hb7 ⊢
            have HT : Hid (numOK s = true) := HE.out hall hb7
            clear hall
            go_wp2
            go_ret2
            exact ⟨by rw [HV.out, HT.out]; rfl, rfl⟩

set_option maxHeartbeats 1000000 in
theorem name_same (s : ByteArray) (w : World) (hs : s.size ≤ 9223372036854775807) :
    Calls Tryd.prog 40 #[.string s] w fun e w' => e = .returned (.bool (nameOK s)) ∧ w' = w := by
  by_cases h0 : s.size = 0
  · have H : Hid (nameOK s = false) := nameOK_short (by omega)
    have hx1 := empty_list s h0
    have hx2 : s.toList = [] := by simpa using hx1
    clear h0 hx1
    go_enter Tryd.func40, Tryd.ntmps40
    go_wp2
    go_ret
    exact ⟨by rw [H.out]; rfl, rfl⟩
  · have hx1 := nonempty_list s h0
    have hx2 : s.toList.isEmpty = false := by simpa using hx1
    by_cases h12 : (12 : Int) < (s.size : Int)
    · have H : Hid (nameOK s = false) := nameOK_short (by omega)
      go_enter Tryd.func40, Tryd.ntmps40
      go_wp2
      go_ret
      exact ⟨by rw [H.out]; rfl, rfl⟩
    · by_cases h3 : s.data.toList = [45]
      · have H : Hid (nameOK s = false) := nameOK_minus h3
        have z : (s.toList == [45]) = true := by rw [ByteArray.toList_eq, h3]; rfl
        clear h3
        go_enter Tryd.func40, Tryd.ntmps40
        go_wp2
        go_ret
        exact ⟨by rw [H.out]; rfl, rfl⟩
      · have z : (s.toList == [45]) = false := by rw [ByteArray.toList_eq]; simpa using h3
        have HE : Hid ((∀ b ∈ s.data.toList, nameB b = true) → nameOK s = true) := nameOK_end (by omega) (by omega) h3
        have HBad : Hid (∀ k (h : k < s.size), nameB s[k] = false → nameOK s = false) := fun k h hb => nameOK_bad k h hb
        clear h3
        go_enter Tryd.func40, Tryd.ntmps40
        go_wp2
        go_loop [17] (fun i => ∃ k : Nat, k ≤ s.size ∧ i = .int .i64 k ∧ ∀ b ∈ upto s k, nameB b = true) (fun i => s.size - (intOf i).toNat)
        case atStart => exact ⟨0, Nat.zero_le _, rfl, by simp [upto]⟩
        case round =>
          obtain ⟨k, hk, rfl, hd⟩ := hrel
          have HD : Hid (∀ b ∈ upto s k, nameB b = true) := hd
          clear hd
          by_cases hlt : k < s.size
          · have hsu := upto_succ s k hlt
            have HDn : Hid (nameB s[k] = true → ∀ b ∈ upto s (k + 1), nameB b = true) := fun h b hb => by
              rw [hsu] at hb
              rcases List.mem_append.1 hb with h1 | h1
              · exact HD.out b h1
              · rw [List.mem_singleton] at h1; rw [h1]; exact h
            have HBk : Hid (nameB s[k] = false → nameOK s = false) := HBad.out k hlt
            have hub := (s[k]).toNat_lt
            have hof := isOfName_any s[k]
            clear hsu
            by_cases hd1 : nameB s[k] = true
            · have HO : Hid (∀ b ∈ upto s (k + 1), nameB b = true) := HDn.out hd1
              rw [hd1] at hof
              clear hd1
              go_wp2_with fail
              refine (hof _).mono ?_
              rintro e w1 ⟨rfl, hw⟩
              subst w1
              go_wp2
              go_round
              case rel => exact ⟨k + 1, by omega, by go_num, HO.out⟩
              case measure => simp [intOf]; omega
            · have hd0 : nameB s[k] = false := by simpa using hd1
              have HF : Hid (nameOK s = false) := HBk.out hd0
              rw [hd0] at hof
              clear hd1 hd0
              go_wp2_with fail
              refine (hof _).mono ?_
              rintro e w1 ⟨rfl, hw⟩
              subst w1
              go_wp2
              go_ret
              exact ⟨by rw [HF.out]; rfl, rfl⟩
          · have hall := HD.out
            rw [upto_all s k (by omega)] at hall
            have HT : Hid (nameOK s = true) := HE.out hall
            clear hall
            go_wp2
            go_ret
            exact ⟨by rw [HT.out]; rfl, rfl⟩

end Go.Proofs.YtomhmndpjkfppaaDoor

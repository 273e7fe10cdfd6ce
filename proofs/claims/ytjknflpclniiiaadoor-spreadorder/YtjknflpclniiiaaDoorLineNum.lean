/-
  The contracts of package lines' Number and Name, as landed.
-/
import Derived.Test.YtjknflpclniiiaaDoorRefWord
namespace Go.Proofs.YtjknflpclniiiaaDoor
open Go.RowKit

theorem numL_acc_ge (l : List UInt8) (a : Nat) : a * 10 ^ l.length ≤ l.foldl (fun n b => n * 10 + (b.toNat - 48)) a := by
  induction l generalizing a with
  | nil => simp
  | cons b r ih =>
    rw [List.foldl_cons, List.length_cons, Nat.pow_succ, Nat.mul_comm (10 ^ r.length) 10, ← Nat.mul_assoc]
    exact Nat.le_trans (Nat.mul_le_mul_right _ (Nat.le_add_right _ _)) (ih _)
theorem numL_append_ge (a b : List UInt8) : numL a ≤ numL (a ++ b) := by
  unfold numL
  rw [List.foldl_append]
  refine Nat.le_trans ?_ (numL_acc_ge b _)
  exact Nat.le_mul_of_pos_right _ (Nat.pow_pos (by omega))
theorem numOK_much {s : ByteArray} (k : Nat) (h : 1000000 < numL (upto s k)) : numOK s = false := by
  have e : s.data.toList = upto s k ++ s.data.toList.drop k := (List.take_append_drop _ _).symm
  have hd : decide (numL s.data.toList ≤ 1000000) = false := by
    rw [decide_eq_false_iff_not, e]
    have := numL_append_ge (upto s k) (s.data.toList.drop k)
    omega
  unfold numOK
  rw [hd]; simp
theorem numOK_all {s : ByteArray} (h1 : 1 ≤ s.size) (h3 : ¬ (1 < s.size ∧ (s[0]).toNat = 48)) (h4 : ∀ b ∈ s.data.toList, isDig b = true) (h5 : numL s.data.toList ≤ 1000000) : numOK s = true := by
  by_cases h7 : s.size ≤ 7
  · rw [numOK_end h1 h7 h3 h4]; simpa using h5
  · exfalso
    have hl : s.data.toList.length = s.size := rfl
    obtain ⟨c, r, e⟩ : ∃ c r, s.data.toList = c :: r := by
      cases hh : s.data.toList with
      | nil => rw [hh] at hl; simp at hl; omega
      | cons c r => exact ⟨c, r, rfl⟩
    have hc : c = s[0] := by
      have := head_at s (by omega)
      rw [e] at this
      simpa using this
    have hd := h4 c (by rw [e]; simp)
    unfold isDig at hd
    rw [decide_eq_true_eq] at hd
    have hn : c.toNat ≠ 48 := fun h => h3 ⟨by omega, by rw [← hc]; exact h⟩
    rw [e] at h5 hl
    unfold numL at h5
    rw [List.foldl_cons] at h5
    have h6 := numL_acc_ge r (0 * 10 + (c.toNat - 48))
    have h8 : 10 ^ 7 ≤ 10 ^ r.length := Nat.pow_le_pow_right (by omega) (by simp at hl; omega)
    have h9 : 1 * 10 ^ r.length ≤ (0 * 10 + (c.toNat - 48)) * 10 ^ r.length := Nat.mul_le_mul_right _ (by omega)
    omega

set_option maxHeartbeats 1000000 in
theorem isDigit_any (b : UInt8) (w : World) :
    Calls Tryd.prog 60 #[.int .u8 (b.toNat : Int)] w fun e w' => e = .returned (.bool (isDig b)) ∧ w' = w := by
  have HD : Hid (isDig b = decide (48 ≤ b.toNat ∧ b.toNat ≤ 57)) := rfl
  have hub := b.toNat_lt
  by_cases h1 : (48 : Int) ≤ (b.toNat : Int)
  · by_cases h2 : (b.toNat : Int) ≤ 57
    · have HT : Hid (isDig b = true) := by show _ = _; rw [HD.out, decide_eq_true_eq]; omega
      go_enter Tryd.func60, Tryd.ntmps60
      go_wp2
      go_ret
      exact ⟨by rw [HT.out]; rfl, rfl⟩
    · have HT : Hid (isDig b = false) := by show _ = _; rw [HD.out, decide_eq_false_iff_not]; omega
      go_enter Tryd.func60, Tryd.ntmps60
      go_wp2
      go_ret
      exact ⟨by rw [HT.out]; rfl, rfl⟩
  · have HT : Hid (isDig b = false) := by show _ = _; rw [HD.out, decide_eq_false_iff_not]; omega
    go_enter Tryd.func60, Tryd.ntmps60
    go_wp2
    go_ret
    exact ⟨by rw [HT.out]; rfl, rfl⟩

set_option maxHeartbeats 2000000 in
theorem isOfName_any (b : UInt8) (w : World) :
    Calls Tryd.prog 59 #[.int .u8 (b.toNat : Int)] w fun e w' => e = .returned (.bool (nameB b)) ∧ w' = w := by
  have HN : Hid (nameB b = decide ((97 ≤ b.toNat ∧ b.toNat ≤ 122) ∨ (48 ≤ b.toNat ∧ b.toNat ≤ 57) ∨ b.toNat = 45 ∨ b.toNat = 46)) := rfl
  have HD : Hid (isDig b = decide (48 ≤ b.toNat ∧ b.toNat ≤ 57)) := rfl
  have hub := b.toNat_lt
  have hdig := isDigit_any b
  by_cases h1 : (97 : Int) ≤ (b.toNat : Int)
  · by_cases h2 : (b.toNat : Int) ≤ 122
    · have HT : Hid (nameB b = true) := by show _ = _; rw [HN.out, decide_eq_true_eq]; omega
      go_enter Tryd.func59, Tryd.ntmps59
      go_wp2
      go_ret
      exact ⟨by rw [HT.out]; rfl, rfl⟩
    · have HT : Hid (nameB b = false) := by show _ = _; rw [HN.out, decide_eq_false_iff_not]; omega
      have d0 : isDig b = false := by rw [HD.out, decide_eq_false_iff_not]; omega
      have d1 : ((b.toNat : Int) == 45) = false := by rw [beq_eq_false_iff_ne]; omega
      have d2 : ((b.toNat : Int) == 46) = false := by rw [beq_eq_false_iff_ne]; omega
      rw [d0] at hdig
      clear d0
      go_enter Tryd.func59, Tryd.ntmps59
      go_wp2_with fail
      refine (hdig _).mono ?_
      rintro e w1 ⟨rfl, hw⟩
      subst w1
      go_wp2
      go_ret
      exact ⟨by rw [HT.out]; rfl, rfl⟩
  · by_cases hd : isDig b = true
    · have hd' := hd
      rw [HD.out, decide_eq_true_eq] at hd'
      have HT : Hid (nameB b = true) := by show _ = _; rw [HN.out, decide_eq_true_eq]; omega
      rw [hd] at hdig
      clear hd hd'
      go_enter Tryd.func59, Tryd.ntmps59
      go_wp2_with fail
      refine (hdig _).mono ?_
      rintro e w1 ⟨rfl, hw⟩
      subst w1
      go_wp2
      go_ret
      exact ⟨by rw [HT.out]; rfl, rfl⟩
    · have hd0 : isDig b = false := by simpa using hd
      have hd' := hd0
      rw [HD.out, decide_eq_false_iff_not] at hd'
      rw [hd0] at hdig
      have key : (((b.toNat : Int) == 45) = true ∧ Hid (nameB b = true)) ∨ (((b.toNat : Int) == 45) = false ∧ ((b.toNat : Int) == 46) = true ∧ Hid (nameB b = true)) ∨ (((b.toNat : Int) == 45) = false ∧ ((b.toNat : Int) == 46) = false ∧ Hid (nameB b = false)) := by
        by_cases e1 : b.toNat = 45
        · exact .inl ⟨by rw [beq_iff_eq]; omega, by show _ = _; rw [HN.out, decide_eq_true_eq]; omega⟩
        · by_cases e2 : b.toNat = 46
          · exact .inr (.inl ⟨by rw [beq_eq_false_iff_ne]; omega, by rw [beq_iff_eq]; omega, by show _ = _; rw [HN.out, decide_eq_true_eq]; omega⟩)
          · exact .inr (.inr ⟨by rw [beq_eq_false_iff_ne]; omega, by rw [beq_eq_false_iff_ne]; omega, by show _ = _; rw [HN.out, decide_eq_false_iff_not]; omega⟩)
      clear hd hd0 hd'
      rcases key with ⟨k1, HT⟩ | ⟨k1, k2, HT⟩ | ⟨k1, k2, HT⟩
      all_goals
        go_enter Tryd.func59, Tryd.ntmps59
        go_wp2_with fail
        refine (hdig _).mono ?_
        rintro e w1 ⟨rfl, hw⟩
        subst w1
        go_wp2
        go_ret
        exact ⟨by rw [HT.out]; rfl, rfl⟩

theorem empty_list (x : ByteArray) (h : x.size = 0) : (x.toList == []) = true := by
  rw [ByteArray.toList_eq, List.eq_nil_of_length_eq_zero (show x.data.toList.length = 0 from h)]; rfl
theorem nonempty_list (x : ByteArray) (h : x.size ≠ 0) : (x.toList == []) = false := by
  rw [ByteArray.toList_eq, beq_eq_false_iff_ne]
  intro e
  exact h (show x.data.toList.length = 0 by rw [e]; rfl)


set_option maxHeartbeats 1000000 in
theorem name_same (s : ByteArray) (w : World) (hs : s.size ≤ 9223372036854775807) :
    Calls Tryd.prog 53 #[.string s] w fun e w' => e = .returned (.bool (nameOK s)) ∧ w' = w := by
  by_cases h0 : s.size = 0
  · have H : Hid (nameOK s = false) := nameOK_short (by omega)
    have hx1 := empty_list s h0
    have hx2 : s.toList = [] := by simpa using hx1
    clear h0 hx1
    go_enter Tryd.func53, Tryd.ntmps53
    go_wp2
    go_ret
    exact ⟨by rw [H.out]; rfl, rfl⟩
  · have hx1 := nonempty_list s h0
    have hx2 : s.toList.isEmpty = false := by simpa using hx1
    by_cases h12 : (12 : Int) < (s.size : Int)
    · have H : Hid (nameOK s = false) := nameOK_short (by omega)
      go_enter Tryd.func53, Tryd.ntmps53
      go_wp2
      go_ret
      exact ⟨by rw [H.out]; rfl, rfl⟩
    · by_cases h3 : s.data.toList = [45]
      · have H : Hid (nameOK s = false) := nameOK_minus h3
        have z : (s.toList == [45]) = true := by rw [ByteArray.toList_eq, h3]; rfl
        clear h3
        go_enter Tryd.func53, Tryd.ntmps53
        go_wp2
        go_ret
        exact ⟨by rw [H.out]; rfl, rfl⟩
      · have z : (s.toList == [45]) = false := by rw [ByteArray.toList_eq]; simpa using h3
        have HE : Hid ((∀ b ∈ s.data.toList, nameB b = true) → nameOK s = true) := nameOK_end (by omega) (by omega) h3
        have HBad : Hid (∀ k (h : k < s.size), nameB s[k] = false → nameOK s = false) := fun k h hb => nameOK_bad k h hb
        clear h3
        go_enter Tryd.func53, Tryd.ntmps53
        go_wp2
        go_loop [17] (fun i => ∃ k : Nat, k ≤ s.size ∧ i = .int .i64 k ∧ ∀ b ∈ upto s k, nameB b = true) (fun i => s.size - (intOf i).toNat)
        case atStart => exact ⟨0, Nat.zero_le _, rfl, by simp [upto]⟩
        case round =>
          obtain ⟨k, hk, rfl, hd⟩ := hrel
          have HD : Hid (∀ b ∈ upto s k, nameB b = true) := hd
          clear hd
          by_cases hlt : k < s.size
          · have hsu := upto_succ s k hlt
            have HDn : Hid (nameB s[k] = true → ∀ b ∈ upto s (k + 1), nameB b = true) := fun h b hb => by
              rw [hsu] at hb
              rcases List.mem_append.1 hb with h1 | h1
              · exact HD.out b h1
              · rw [List.mem_singleton] at h1; rw [h1]; exact h
            have HBk : Hid (nameB s[k] = false → nameOK s = false) := HBad.out k hlt
            have hub := (s[k]).toNat_lt
            have hof := isOfName_any s[k]
            clear hsu
            by_cases hd1 : nameB s[k] = true
            · have HO : Hid (∀ b ∈ upto s (k + 1), nameB b = true) := HDn.out hd1
              rw [hd1] at hof
              clear hd1
              go_wp2_with fail
              refine (hof _).mono ?_
              rintro e w1 ⟨rfl, hw⟩
              subst w1
              go_wp2
              go_round
              case rel => exact ⟨k + 1, by omega, by go_num, HO.out⟩
              case measure => simp [intOf]; omega
            · have hd0 : nameB s[k] = false := by simpa using hd1
              have HF : Hid (nameOK s = false) := HBk.out hd0
              rw [hd0] at hof
              clear hd1 hd0
              go_wp2_with fail
              refine (hof _).mono ?_
              rintro e w1 ⟨rfl, hw⟩
              subst w1
              go_wp2
              go_ret
              exact ⟨by rw [HF.out]; rfl, rfl⟩
          · have hall := HD.out
            rw [upto_all s k (by omega)] at hall
            have HT : Hid (nameOK s = true) := HE.out hall
            clear hall
            go_wp2
            go_ret
            exact ⟨by rw [HT.out]; rfl, rfl⟩

end Go.Proofs.YtjknflpclniiiaaDoor

/-
  The reference's answers to chapter 5: Number.
-/
import Derived.Test.YtkninlahlgipoaaDoorRefWord
namespace Go.Proofs.YtkninlahlgipoaaDoor
open Go.RowKit

set_option maxHeartbeats 1000000 in
theorem rNumber_any (s : ByteArray) (w : World) (hs : s.size ≤ 9223372036854775807) :
    Calls Tryd.prog 20 #[.string s] w fun e w' => e = .returned (.tuple #[.int .i64 (numV s), .bool (numOK s)]) ∧ w' = w := by
  by_cases h1 : 1 ≤ s.size ∧ s.size ≤ 7
  · by_cases h3 : 1 < s.size ∧ (s[0]).toNat = 48
    · have hk := numOK_nought h3.1 h3.2
      have hv : numV s = 0 := by unfold numV; rw [hk]; rfl
      have z1 : (1 : Int) < (s.size : Int) := by omega
      have z2 : (((s[0]).toNat : Int) == 48) = true := by simp [h3.2]
      have n1 : ¬ (s.size : Int) < 1 := by omega
      have n2 : ¬ (7 : Int) < (s.size : Int) := by omega
      have H : Hid (numOK s = false) := hk
      have HV : Hid (numV s = 0) := hv
      clear hk hv
      go_enter Tryd.func20, Tryd.ntmps20
      go_wp2
      go_ret2
      exact ⟨by rw [H.out, HV.out]; rfl, rfl⟩
    · have HE : Hid ((∀ b ∈ s.data.toList, isDig b = true) → numOK s = decide (numL s.data.toList ≤ 1000000)) := numOK_end h1.1 h1.2 h3
      have HBad : Hid (∀ k (h : k < s.size), isDig s[k] = false → numOK s = false) := fun k h hb => numOK_bad k h hb
      have n1 : ¬ (s.size : Int) < 1 := by omega
      have n2 : ¬ (7 : Int) < (s.size : Int) := by omega
      have key : ((1 : Int) < (s.size : Int) ∧ (((s[0]).toNat : Int) == 48) = false) ∨ ¬ (1 : Int) < (s.size : Int) := by
        by_cases h : (1 : Int) < (s.size : Int)
        · left
          exact ⟨h, by rw [beq_eq_false_iff_ne]; intro e; exact h3 ⟨by omega, by omega⟩⟩
        · exact .inr h
      have hs7 : s.size ≤ 7 := h1.2
      rcases key with ⟨z1, z2⟩ | z1
      all_goals
        go_enter Tryd.func20, Tryd.ntmps20
        go_wp2
        go_loop [4, 26] (fun n i => ∃ k : Nat, k ≤ s.size ∧ i = .int .i64 k ∧ n = .int .i64 (numL (upto s k) : Nat) ∧ ∀ b ∈ upto s k, isDig b = true) (fun _ i => s.size - (intOf i).toNat)
        case atStart => exact ⟨0, Nat.zero_le _, rfl, rfl, by simp [upto]⟩
        case round =>
          obtain ⟨k, hk, rfl, rfl, hd⟩ := hrel
          have HD : Hid (∀ b ∈ upto s k, isDig b = true) := hd
          have hlt7 : numL (upto s k) < 10 ^ k := by have := numL_lt _ hd; rwa [upto_length s k hk] at this
          have hp : 10 ^ k ≤ 10 ^ 7 := Nat.pow_le_pow_right (by omega) (by omega)
          have hb7 : numL (upto s k) < 10000000 := Nat.lt_of_lt_of_le hlt7 hp
          clear hd hlt7 hp
          by_cases hlt : k < s.size
          · have hsu := upto_succ s k hlt
            have HSu : Hid (numL (upto s (k + 1)) = numL (upto s k) * 10 + ((s[k]).toNat - 48)) := by show _ = _; rw [hsu, numL_snoc]
            have HDn : Hid (isDig s[k] = true → ∀ b ∈ upto s (k + 1), isDig b = true) := fun h b hb => by
              rw [hsu] at hb
              rcases List.mem_append.1 hb with h1 | h1
              · exact HD.out b h1
              · rw [List.mem_singleton] at h1; rw [h1]; exact h
            have HBk : Hid (isDig s[k] = false → numOK s = false) := HBad.out k hlt
            have HDg : Hid (isDig s[k] = decide (48 ≤ (s[k]).toNat ∧ (s[k]).toNat ≤ 57)) := rfl
            have hub := (s[k]).toNat_lt
            clear hsu
            generalize numL (upto s k) = M at hb7 HSu ⊢
            by_cases d1 : ((s[k]).toNat : Int) < 48
            · have HF : Hid (numOK s = false) := HBk.out (by rw [HDg.out, decide_eq_false_iff_not]; omega)
              go_wp2
              go_ret2
              exact ⟨by rw [HF.out]; unfold numV; rw [HF.out]; rfl, rfl⟩
            · by_cases d2 : (57 : Int) < ((s[k]).toNat : Int)
              · have HF : Hid (numOK s = false) := HBk.out (by rw [HDg.out, decide_eq_false_iff_not]; omega)
                go_wp2
                go_ret2
                exact ⟨by rw [HF.out]; unfold numV; rw [HF.out]; rfl, rfl⟩
              · have hok : isDig s[k] = true := by rw [HDg.out, decide_eq_true_eq]; omega
                have HO : Hid (∀ b ∈ upto s (k + 1), isDig b = true) := HDn.out hok
                clear hok
                go_wp2
                go_round
                case rel => exact ⟨k + 1, by omega, by go_num, by rw [HSu.out]; go_num, HO.out⟩
                case measure => simp [intOf]; omega
          · have hall := HD.out
            rw [upto_all s k (by omega)] at hall hb7 ⊢
            have hE := HE.out hall
            clear hall
            have hvv : numV s = if numL s.data.toList ≤ 1000000 then (numL s.data.toList : Int) else 0 := by
              unfold numV; rw [hE]; simp
            have H1 : Hid (numOK s = decide (numL s.data.toList ≤ 1000000)) := hE
            have H2 : Hid (numV s = if numL s.data.toList ≤ 1000000 then (numL s.data.toList : Int) else 0) := hvv
            clear hE hvv
            generalize numL s.data.toList = M at hb7 H1 H2 ⊢
            by_cases hm : (1000000 : Int) < (M : Int)
            · go_wp2
              go_ret2
              exact ⟨by rw [H1.out, H2.out, if_neg (by omega), decide_eq_false (by omega)]; rfl, rfl⟩
            · go_wp2
              go_ret2
              exact ⟨by rw [H1.out, H2.out, if_pos (by omega), decide_eq_true (by omega)]; rfl, rfl⟩
  · have hk := numOK_short h1
    have hv : numV s = 0 := by unfold numV; rw [hk]; rfl
    have H : Hid (numOK s = false) := hk
    have HV : Hid (numV s = 0) := hv
    clear hk hv
    have key : ((s.size : Int) < 1) ∨ (¬ (s.size : Int) < 1 ∧ (7 : Int) < (s.size : Int)) := by omega
    rcases key with z1 | ⟨z1, z2⟩
    all_goals
      go_enter Tryd.func20, Tryd.ntmps20
      go_wp2
      go_ret2
      exact ⟨by rw [H.out, HV.out]; rfl, rfl⟩

end Go.Proofs.YtkninlahlgipoaaDoor

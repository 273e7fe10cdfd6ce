/-
  The reference's answers to chapter 5: Word.
-/
import Derived.Test.YtomhmndpjkfppaaDoorBase
import Derived.Test.YtomhmndpjkfppaaDoorChecked
import Derived.WalkSmall
namespace Go.Proofs.YtomhmndpjkfppaaDoor
open Go.RowKit

theorem byte_name (c : Nat) :
    ((¬ (c : Int) < 97 ∧ ¬ (122 : Int) < (c : Int)) ∨ ((c : Int) < 97 ∧ ¬ (c : Int) < 48 ∧ ¬ (57 : Int) < (c : Int)) ∨ ((c : Int) < 97 ∧ (c : Int) < 48 ∧ ((c : Int) != 45) = false) ∨ ((c : Int) < 97 ∧ (c : Int) < 48 ∧ ((c : Int) != 45) = true ∧ ((c : Int) != 46) = false)) ∨
    (((c : Int) < 97 ∧ (c : Int) < 48 ∧ ((c : Int) != 45) = true ∧ ((c : Int) != 46) = true) ∨ ((c : Int) < 97 ∧ ¬ (c : Int) < 48 ∧ (57 : Int) < (c : Int) ∧ ((c : Int) != 45) = true ∧ ((c : Int) != 46) = true) ∨
      (¬ (c : Int) < 97 ∧ (122 : Int) < (c : Int) ∧ ¬ (c : Int) < 48 ∧ (57 : Int) < (c : Int) ∧ ((c : Int) != 45) = true ∧ ((c : Int) != 46) = true)) := by
  simp only [bne_iff_ne, ne_eq, bne_eq_false_iff_eq]
  omega
theorem byte_name_ok (b : UInt8) (h : (¬ (b.toNat : Int) < 97 ∧ ¬ (122 : Int) < (b.toNat : Int)) ∨ ((b.toNat : Int) < 97 ∧ ¬ (b.toNat : Int) < 48 ∧ ¬ (57 : Int) < (b.toNat : Int)) ∨ ((b.toNat : Int) < 97 ∧ (b.toNat : Int) < 48 ∧ ((b.toNat : Int) != 45) = false) ∨ ((b.toNat : Int) < 97 ∧ (b.toNat : Int) < 48 ∧ ((b.toNat : Int) != 45) = true ∧ ((b.toNat : Int) != 46) = false)) : nameB b = true := by
  unfold nameB
  simp only [bne_iff_ne, ne_eq, bne_eq_false_iff_eq] at h
  rw [decide_eq_true_eq]
  omega
theorem byte_name_bad (b : UInt8) (h : ((b.toNat : Int) < 97 ∧ (b.toNat : Int) < 48 ∧ ((b.toNat : Int) != 45) = true ∧ ((b.toNat : Int) != 46) = true) ∨ ((b.toNat : Int) < 97 ∧ ¬ (b.toNat : Int) < 48 ∧ (57 : Int) < (b.toNat : Int) ∧ ((b.toNat : Int) != 45) = true ∧ ((b.toNat : Int) != 46) = true) ∨
      (¬ (b.toNat : Int) < 97 ∧ (122 : Int) < (b.toNat : Int) ∧ ¬ (b.toNat : Int) < 48 ∧ (57 : Int) < (b.toNat : Int) ∧ ((b.toNat : Int) != 45) = true ∧ ((b.toNat : Int) != 46) = true)) : nameB b = false := by
  unfold nameB
  simp only [bne_iff_ne, ne_eq] at h
  rw [decide_eq_false_iff_not]
  omega

set_option maxHeartbeats 1000000 in
theorem rWord_any (s : ByteArray) (w : World) (hs : s.size ≤ 9223372036854775807) :
    Calls Tryd.prog 17 #[.string s] w fun e w' => e = .returned (.bool (nameOK s)) ∧ w' = w := by
  by_cases h1 : 1 ≤ s.size ∧ s.size ≤ 12
  · have n1 : ¬ (s.size : Int) < 1 := by omega
    have n2 : ¬ (12 : Int) < (s.size : Int) := by omega
    have h12 : s.size ≤ 12 := h1.2
    by_cases h3 : s.data.toList = [45]
    · have H : Hid (nameOK s = false) := nameOK_minus h3
      have z : (s.toList == [45]) = true := by rw [ByteArray.toList_eq, h3]; rfl
      clear h3
      go_enter Tryd.func17, Tryd.ntmps17
      go_wp2
      go_ret
      exact ⟨by rw [H.out]; rfl, rfl⟩
    · have z : (s.toList == [45]) = false := by rw [ByteArray.toList_eq]; simpa using h3
      have HE : Hid ((∀ b ∈ s.data.toList, nameB b = true) → nameOK s = true) := nameOK_end h1.1 h1.2 h3
      have HBad : Hid (∀ k (h : k < s.size), nameB s[k] = false → nameOK s = false) := fun k h hb => nameOK_bad k h hb
      clear h3 h1
      go_enter Tryd.func17, Tryd.ntmps17
      go_wp2
      go_loop [19] (fun i => ∃ k : Nat, k ≤ s.size ∧ i = .int .i64 k ∧ ∀ b ∈ upto s k, nameB b = true) (fun i => s.size - (intOf i).toNat)
      case atStart => exact ⟨0, Nat.zero_le _, rfl, by simp [upto]⟩
      case round =>
        obtain ⟨k, hk, rfl, hd⟩ := hrel
        have HD : Hid (∀ b ∈ upto s k, nameB b = true) := hd
        clear hd
        by_cases hlt : k < s.size
        · have hsu := upto_succ s k hlt
          have HDn : Hid (nameB s[k] = true → ∀ b ∈ upto s (k + 1), nameB b = true) := fun h b hb => by
            rw [hsu] at hb
            rcases List.mem_append.1 hb with h1 | h1
            · exact HD.out b h1
            · rw [List.mem_singleton] at h1; rw [h1]; exact h
          have HBk : Hid (nameB s[k] = false → nameOK s = false) := HBad.out k hlt
          have hub := (s[k]).toNat_lt
          clear hsu
          rcases byte_name (s[k]).toNat with hok | hbad
          · have HO : Hid (∀ b ∈ upto s (k + 1), nameB b = true) := HDn.out (byte_name_ok _ hok)
            rcases hok with ⟨a1, a2⟩ | ⟨a1, a2, a3⟩ | ⟨a1, a2, a3⟩ | ⟨a1, a2, a3, a4⟩
            all_goals
              go_wp2
              go_round
              case rel => exact ⟨k + 1, by omega, by go_num, HO.out⟩
              case measure => simp [intOf]; omega
          · have HF : Hid (nameOK s = false) := HBk.out (byte_name_bad _ hbad)
            rcases hbad with ⟨a1, a2, a3, a4⟩ | ⟨a1, a2, a3, a4, a5⟩ | ⟨a1, a2, a3, a4, a5, a6⟩
            all_goals
              go_wp2
              go_ret
              exact ⟨by rw [HF.out]; rfl, rfl⟩
        · have hall := HD.out
          rw [upto_all s k (by omega)] at hall
          have HT : Hid (nameOK s = true) := HE.out hall
          clear hall
          go_wp2
          go_ret
          exact ⟨by rw [HT.out]; rfl, rfl⟩
  · have H : Hid (nameOK s = false) := nameOK_short h1
    have key : ((s.size : Int) < 1) ∨ (¬ (s.size : Int) < 1 ∧ (12 : Int) < (s.size : Int)) := by omega
    rcases key with z1 | ⟨z1, z2⟩
    all_goals
      go_enter Tryd.func17, Tryd.ntmps17
      go_wp2
      go_ret
      exact ⟨by rw [H.out]; rfl, rfl⟩

end Go.Proofs.YtomhmndpjkfppaaDoor

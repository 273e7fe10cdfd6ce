/-
  The contracts of package config's small functions: where a field lies; words of choices, policies, zones.
-/
import Derived.Test.YtomhmndpjkfppaaDoorConfTab
import Derived.Test.YtomhmndpjkfppaaDoorRefMayKit
import Derived.Test.YtomhmndpjkfppaaDoorRefSplitKit
import Derived.BigQuiet
import Derived.Laws.CopyOwn
namespace Go.Proofs.YtomhmndpjkfppaaDoor
open Go.RowKit

set_option maxRecDepth 100000 in
set_option maxHeartbeats 1000000 in
theorem numberIn_0 (b : Nat) (w : World) : Calls Tryd.prog 39 #[.pointer (some ⟨b, 0, none⟩), .string ⟨#[105, 110, 116, 101, 114, 118, 97, 108]⟩] w fun e w' => e = .returned (.pointer (some ⟨b, 0, none⟩)) ∧ w' = w := by
  go_enter Tryd.func39, Tryd.ntmps39
  go_wp2
  go_ret
  exact ⟨rfl, rfl⟩
set_option maxRecDepth 100000 in
set_option maxHeartbeats 1000000 in
theorem numberIn_1 (b : Nat) (w : World) : Calls Tryd.prog 39 #[.pointer (some ⟨b, 0, none⟩), .string ⟨#[116, 105, 109, 101, 111, 117, 116]⟩] w fun e w' => e = .returned (.pointer (some ⟨b, 1, none⟩)) ∧ w' = w := by
  go_enter Tryd.func39, Tryd.ntmps39
  go_wp2
  go_ret
  exact ⟨rfl, rfl⟩
set_option maxRecDepth 100000 in
set_option maxHeartbeats 1000000 in
theorem numberIn_2 (b : Nat) (w : World) : Calls Tryd.prog 39 #[.pointer (some ⟨b, 0, none⟩), .string ⟨#[106, 105, 116, 116, 101, 114]⟩] w fun e w' => e = .returned (.pointer (some ⟨b, 2, none⟩)) ∧ w' = w := by
  go_enter Tryd.func39, Tryd.ntmps39
  go_wp2
  go_ret
  exact ⟨rfl, rfl⟩
set_option maxRecDepth 100000 in
set_option maxHeartbeats 1000000 in
theorem numberIn_3 (b : Nat) (w : World) : Calls Tryd.prog 39 #[.pointer (some ⟨b, 0, none⟩), .string ⟨#[114, 105, 115, 101]⟩] w fun e w' => e = .returned (.pointer (some ⟨b, 3, none⟩)) ∧ w' = w := by
  go_enter Tryd.func39, Tryd.ntmps39
  go_wp2
  go_ret
  exact ⟨rfl, rfl⟩
set_option maxRecDepth 100000 in
set_option maxHeartbeats 1000000 in
theorem numberIn_4 (b : Nat) (w : World) : Calls Tryd.prog 39 #[.pointer (some ⟨b, 0, none⟩), .string ⟨#[102, 97, 108, 108]⟩] w fun e w' => e = .returned (.pointer (some ⟨b, 4, none⟩)) ∧ w' = w := by
  go_enter Tryd.func39, Tryd.ntmps39
  go_wp2
  go_ret
  exact ⟨rfl, rfl⟩
set_option maxRecDepth 100000 in
set_option maxHeartbeats 1000000 in
theorem numberIn_5 (b : Nat) (w : World) : Calls Tryd.prog 39 #[.pointer (some ⟨b, 0, none⟩), .string ⟨#[112, 97, 110, 105, 99]⟩] w fun e w' => e = .returned (.pointer (some ⟨b, 5, none⟩)) ∧ w' = w := by
  go_enter Tryd.func39, Tryd.ntmps39
  go_wp2
  go_ret
  exact ⟨rfl, rfl⟩
set_option maxRecDepth 100000 in
set_option maxHeartbeats 1000000 in
theorem numberIn_6 (b : Nat) (w : World) : Calls Tryd.prog 39 #[.pointer (some ⟨b, 0, none⟩), .string ⟨#[111, 118, 101, 114]⟩] w fun e w' => e = .returned (.pointer (some ⟨b, 6, none⟩)) ∧ w' = w := by
  go_enter Tryd.func39, Tryd.ntmps39
  go_wp2
  go_ret
  exact ⟨rfl, rfl⟩
set_option maxRecDepth 100000 in
set_option maxHeartbeats 1000000 in
theorem numberIn_7 (b : Nat) (w : World) : Calls Tryd.prog 39 #[.pointer (some ⟨b, 0, none⟩), .string ⟨#[101, 114, 114, 111, 114, 115]⟩] w fun e w' => e = .returned (.pointer (some ⟨b, 7, none⟩)) ∧ w' = w := by
  go_enter Tryd.func39, Tryd.ntmps39
  go_wp2
  go_ret
  exact ⟨rfl, rfl⟩
set_option maxRecDepth 100000 in
set_option maxHeartbeats 1000000 in
theorem numberIn_8 (b : Nat) (w : World) : Calls Tryd.prog 39 #[.pointer (some ⟨b, 0, none⟩), .string ⟨#[115, 119, 101, 101, 112]⟩] w fun e w' => e = .returned (.pointer (some ⟨b, 8, none⟩)) ∧ w' = w := by
  go_enter Tryd.func39, Tryd.ntmps39
  go_wp2
  go_ret
  exact ⟨rfl, rfl⟩
set_option maxRecDepth 100000 in
set_option maxHeartbeats 1000000 in
theorem numberIn_9 (b : Nat) (w : World) : Calls Tryd.prog 39 #[.pointer (some ⟨b, 0, none⟩), .string ⟨#[104, 111, 115, 116, 115]⟩] w fun e w' => e = .returned (.pointer (some ⟨b, 9, none⟩)) ∧ w' = w := by
  go_enter Tryd.func39, Tryd.ntmps39
  go_wp2
  go_ret
  exact ⟨rfl, rfl⟩
set_option maxRecDepth 100000 in
set_option maxHeartbeats 1000000 in
theorem numberIn_10 (b : Nat) (w : World) : Calls Tryd.prog 39 #[.pointer (some ⟨b, 0, none⟩), .string ⟨#[114, 101, 113, 117, 101, 115, 116, 115]⟩] w fun e w' => e = .returned (.pointer (some ⟨b, 10, none⟩)) ∧ w' = w := by
  go_enter Tryd.func39, Tryd.ntmps39
  go_wp2
  go_ret
  exact ⟨rfl, rfl⟩
set_option maxRecDepth 100000 in
set_option maxHeartbeats 1000000 in
theorem numberIn_11 (b : Nat) (w : World) : Calls Tryd.prog 39 #[.pointer (some ⟨b, 0, none⟩), .string ⟨#[102, 97, 99, 116, 111, 114]⟩] w fun e w' => e = .returned (.pointer (some ⟨b, 11, none⟩)) ∧ w' = w := by
  go_enter Tryd.func39, Tryd.ntmps39
  go_wp2
  go_ret
  exact ⟨rfl, rfl⟩
set_option maxRecDepth 100000 in
set_option maxHeartbeats 1000000 in
theorem numberIn_12 (b : Nat) (w : World) : Calls Tryd.prog 39 #[.pointer (some ⟨b, 0, none⟩), .string ⟨#[102, 97, 105, 108, 115]⟩] w fun e w' => e = .returned (.pointer (some ⟨b, 12, none⟩)) ∧ w' = w := by
  go_enter Tryd.func39, Tryd.ntmps39
  go_wp2
  go_ret
  exact ⟨rfl, rfl⟩
set_option maxRecDepth 100000 in
set_option maxHeartbeats 1000000 in
theorem numberIn_13 (b : Nat) (w : World) : Calls Tryd.prog 39 #[.pointer (some ⟨b, 0, none⟩), .string ⟨#[98, 97, 115, 101]⟩] w fun e w' => e = .returned (.pointer (some ⟨b, 13, none⟩)) ∧ w' = w := by
  go_enter Tryd.func39, Tryd.ntmps39
  go_wp2
  go_ret
  exact ⟨rfl, rfl⟩
set_option maxRecDepth 100000 in
set_option maxHeartbeats 1000000 in
theorem numberIn_14 (b : Nat) (w : World) : Calls Tryd.prog 39 #[.pointer (some ⟨b, 0, none⟩), .string ⟨#[101, 106, 101, 99, 116]⟩] w fun e w' => e = .returned (.pointer (some ⟨b, 14, none⟩)) ∧ w' = w := by
  go_enter Tryd.func39, Tryd.ntmps39
  go_wp2
  go_ret
  exact ⟨rfl, rfl⟩
set_option maxRecDepth 100000 in
set_option maxHeartbeats 1000000 in
theorem numberIn_16 (b : Nat) (w : World) : Calls Tryd.prog 39 #[.pointer (some ⟨b, 0, none⟩), .string ⟨#[115, 108, 111, 119]⟩] w fun e w' => e = .returned (.pointer (some ⟨b, 16, none⟩)) ∧ w' = w := by
  go_enter Tryd.func39, Tryd.ntmps39
  go_wp2
  go_ret
  exact ⟨rfl, rfl⟩
set_option maxRecDepth 100000 in
set_option maxHeartbeats 1000000 in
theorem numberIn_17 (b : Nat) (w : World) : Calls Tryd.prog 39 #[.pointer (some ⟨b, 0, none⟩), .string ⟨#[100, 114, 97, 105, 110]⟩] w fun e w' => e = .returned (.pointer (some ⟨b, 17, none⟩)) ∧ w' = w := by
  go_enter Tryd.func39, Tryd.ntmps39
  go_wp2
  go_ret
  exact ⟨rfl, rfl⟩
set_option maxRecDepth 100000 in
set_option maxHeartbeats 1000000 in
theorem numberIn_18 (b : Nat) (w : World) : Calls Tryd.prog 39 #[.pointer (some ⟨b, 0, none⟩), .string ⟨#[104, 111, 115, 116, 108, 105, 109, 105, 116]⟩] w fun e w' => e = .returned (.pointer (some ⟨b, 18, none⟩)) ∧ w' = w := by
  go_enter Tryd.func39, Tryd.ntmps39
  go_wp2
  go_ret
  exact ⟨rfl, rfl⟩
set_option maxRecDepth 100000 in
set_option maxHeartbeats 1000000 in
theorem numberIn_19 (b : Nat) (w : World) : Calls Tryd.prog 39 #[.pointer (some ⟨b, 0, none⟩), .string ⟨#[112, 111, 111, 108, 108, 105, 109, 105, 116]⟩] w fun e w' => e = .returned (.pointer (some ⟨b, 19, none⟩)) ∧ w' = w := by
  go_enter Tryd.func39, Tryd.ntmps39
  go_wp2
  go_ret
  exact ⟨rfl, rfl⟩
set_option maxRecDepth 100000 in
set_option maxHeartbeats 1000000 in
theorem numberIn_20 (b : Nat) (w : World) : Calls Tryd.prog 39 #[.pointer (some ⟨b, 0, none⟩), .string ⟨#[112, 111, 108, 105, 99, 121]⟩] w fun e w' => e = .returned (.pointer (some ⟨b, 20, none⟩)) ∧ w' = w := by
  go_enter Tryd.func39, Tryd.ntmps39
  go_wp2
  go_ret
  exact ⟨rfl, rfl⟩

theorem numberIn_any (i : Nat) (hi : i < 21 ∧ i ≠ 15) (b : Nat) (w : World) : Calls Tryd.prog 39 #[.pointer (some ⟨b, 0, none⟩), .string (nameC i)] w fun e w' => e = .returned (.pointer (some ⟨b, i, none⟩)) ∧ w' = w := by
  have h : i = 0 ∨ i = 1 ∨ i = 2 ∨ i = 3 ∨ i = 4 ∨ i = 5 ∨ i = 6 ∨ i = 7 ∨ i = 8 ∨ i = 9 ∨ i = 10 ∨ i = 11 ∨ i = 12 ∨ i = 13 ∨ i = 14 ∨ i = 16 ∨ i = 17 ∨ i = 18 ∨ i = 19 ∨ i = 20 := by omega
  rcases h with rfl | rfl | rfl | rfl | rfl | rfl | rfl | rfl | rfl | rfl | rfl | rfl | rfl | rfl | rfl | rfl | rfl | rfl | rfl | rfl
  · exact numberIn_0 b w
  · exact numberIn_1 b w
  · exact numberIn_2 b w
  · exact numberIn_3 b w
  · exact numberIn_4 b w
  · exact numberIn_5 b w
  · exact numberIn_6 b w
  · exact numberIn_7 b w
  · exact numberIn_8 b w
  · exact numberIn_9 b w
  · exact numberIn_10 b w
  · exact numberIn_11 b w
  · exact numberIn_12 b w
  · exact numberIn_13 b w
  · exact numberIn_14 b w
  · exact numberIn_16 b w
  · exact numberIn_17 b w
  · exact numberIn_18 b w
  · exact numberIn_19 b w
  · exact numberIn_20 b w

set_option maxHeartbeats 1000000 in
theorem choiceIn_one (b : Nat) (w : World) : Calls Tryd.prog 43 #[.pointer (some ⟨b, 0, none⟩), .string ⟨#[111, 110, 101]⟩] w fun e w' => e = .returned (.pointer (some ⟨b, 15, none⟩)) ∧ w' = w := by
  go_enter Tryd.func43, Tryd.ntmps43
  go_wp2
  go_ret
  exact ⟨rfl, rfl⟩
set_option maxHeartbeats 1000000 in
theorem choiceIn_fb (b : Nat) (w : World) : Calls Tryd.prog 43 #[.pointer (some ⟨b, 0, none⟩), .string ⟨#[102, 97, 108, 108, 98, 97, 99, 107]⟩] w fun e w' => e = .returned (.pointer (some ⟨b, 22, none⟩)) ∧ w' = w := by
  go_enter Tryd.func43, Tryd.ntmps43
  go_wp2
  go_ret
  exact ⟨rfl, rfl⟩
theorem choiceIn_any (i : Nat) (hi : i = 15 ∨ i = 22) (b : Nat) (w : World) : Calls Tryd.prog 43 #[.pointer (some ⟨b, 0, none⟩), .string (nameC i)] w fun e w' => e = .returned (.pointer (some ⟨b, i, none⟩)) ∧ w' = w := by
  rcases hi with rfl | rfl
  · exact choiceIn_one b w
  · exact choiceIn_fb b w

theorem eq_of_list {z : ByteArray} {l : List UInt8} (h : z.toList = l) : z = mkS l := by
  rw [ByteArray.toList_eq] at h
  unfold mkS
  rw [← h]
theorem ne_of_list {z : ByteArray} {l : List UInt8} (h : (z.toList == l) = false) : z ≠ mkS l := by
  rintro rfl
  rw [ByteArray.toList_eq] at h
  simp [mkS] at h
set_option maxHeartbeats 1000000 in
theorem zoneOf_any (z : ByteArray) (w : World) : Calls Tryd.prog 45 #[.string z] w fun e w' => e = .returned (.string (if z = mkS [45] then ByteArray.empty else z)) ∧ w' = w := by
  by_cases hz : (z.toList == [45]) = true
  · have hx : z.toList = [45] := by simpa using hz
    rw [if_pos (eq_of_list hx)]
    go_enter Tryd.func45, Tryd.ntmps45
    go_wp2
    go_ret
    exact ⟨rfl, rfl⟩
  · have hx : (z.toList == [45]) = false := by simpa using hz
    rw [if_neg (ne_of_list hx)]
    clear hz
    go_enter Tryd.func45, Tryd.ntmps45
    go_wp2
    go_ret
    exact ⟨rfl, rfl⟩

theorem place_yes (w : ByteArray) : placeW w yesW = if w.toList == [110, 111] then 1 else if w.toList == [121, 101, 115] then 2 else 0 := by
  unfold placeW yesW
  simp only [List.findIdx?_cons, List.findIdx?_nil, Go.Proofs.YtomhmndpjkfppaaDoor.beqB]
  rw [show (mkS [110, 111]).toList = [110, 111] from by rw [ByteArray.toList_eq]; rfl, show (mkS [121, 101, 115]).toList = [121, 101, 115] from by rw [ByteArray.toList_eq]; rfl]
  rw [show ([110, 111] == w.toList) = (w.toList == [110, 111]) from BEq.comm, show (([121, 101, 115] : List UInt8) == w.toList) = (w.toList == [121, 101, 115]) from BEq.comm]
  cases (w.toList == [110, 111]) <;> cases (w.toList == [121, 101, 115]) <;> rfl
theorem place_pol (w : ByteArray) : placeW w polW = if w.toList == [114, 111, 117, 110, 100] then 1 else if w.toList == [108, 101, 97, 115, 116] then 2 else if w.toList == [114, 105, 110, 103] then 3 else 0 := by
  unfold placeW polW
  simp only [List.findIdx?_cons, List.findIdx?_nil, Go.Proofs.YtomhmndpjkfppaaDoor.beqB]
  rw [show (mkS [114, 111, 117, 110, 100]).toList = [114, 111, 117, 110, 100] from by rw [ByteArray.toList_eq]; rfl, show (mkS [108, 101, 97, 115, 116]).toList = [108, 101, 97, 115, 116] from by rw [ByteArray.toList_eq]; rfl, show (mkS [114, 105, 110, 103]).toList = [114, 105, 110, 103] from by rw [ByteArray.toList_eq]; rfl]
  rw [show (([114, 111, 117, 110, 100] : List UInt8) == w.toList) = (w.toList == [114, 111, 117, 110, 100]) from BEq.comm, show (([108, 101, 97, 115, 116] : List UInt8) == w.toList) = (w.toList == [108, 101, 97, 115, 116]) from BEq.comm, show (([114, 105, 110, 103] : List UInt8) == w.toList) = (w.toList == [114, 105, 110, 103]) from BEq.comm]
  cases (w.toList == [114, 111, 117, 110, 100]) <;> cases (w.toList == [108, 101, 97, 115, 116]) <;> cases (w.toList == [114, 105, 110, 103]) <;> rfl

set_option maxHeartbeats 1000000 in
theorem choiceOf_any (z : ByteArray) (w : World) : Calls Tryd.prog 42 #[.string z] w fun e w' => e = .returned (.tuple #[.bool (placeW z yesW == 2), .bool (decide (placeW z yesW ≠ 0))]) ∧ w' = w := by
  have HP : Hid _ := place_yes z
  by_cases h1 : (z.toList == [121, 101, 115]) = true
  · have h1' : z.toList = [121, 101, 115] := by simpa using h1
    have h2 : (z.toList == [110, 111]) = false := by rw [h1']; rfl
    have HR : Hid (placeW z yesW = 2) := by show _ = _; rw [HP.out, h1, h2]; rfl
    clear h2 HP h1
    go_enter Tryd.func42, Tryd.ntmps42
    go_wp2
    go_ret2
    exact ⟨by rw [HR.out]; rfl, rfl⟩
  · have h1' : (z.toList == [121, 101, 115]) = false := by simpa using h1
    by_cases h2 : (z.toList == [110, 111]) = true
    · have HR : Hid (placeW z yesW = 1) := by show _ = _; rw [HP.out, h2]; rfl
      clear HP h1
      go_enter Tryd.func42, Tryd.ntmps42
      go_wp2
      go_ret2
      exact ⟨by rw [HR.out]; rfl, rfl⟩
    · have h2' : (z.toList == [110, 111]) = false := by simpa using h2
      have HR : Hid (placeW z yesW = 0) := by show _ = _; rw [HP.out, h2', h1']; rfl
      clear HP h1 h2
      go_enter Tryd.func42, Tryd.ntmps42
      go_wp2
      go_ret2
      exact ⟨by rw [HR.out]; rfl, rfl⟩
set_option maxHeartbeats 1000000 in
theorem policyOf_any (z : ByteArray) (w : World) : Calls Tryd.prog 44 #[.string z] w fun e w' => e = .returned (.tuple #[.int .i64 (placeW z polW), .bool (decide (placeW z polW ≠ 0))]) ∧ w' = w := by
  have HP : Hid _ := place_pol z
  by_cases h1 : (z.toList == [114, 111, 117, 110, 100]) = true
  · have HR : Hid (placeW z polW = 1) := by show _ = _; rw [HP.out, h1]; rfl
    clear HP
    go_enter Tryd.func44, Tryd.ntmps44
    go_wp2
    go_ret2
    exact ⟨by rw [HR.out]; rfl, rfl⟩
  · have h1' : (z.toList == [114, 111, 117, 110, 100]) = false := by simpa using h1
    by_cases h2 : (z.toList == [108, 101, 97, 115, 116]) = true
    · have HR : Hid (placeW z polW = 2) := by show _ = _; rw [HP.out, h1', h2]; rfl
      clear HP h1
      go_enter Tryd.func44, Tryd.ntmps44
      go_wp2
      go_ret2
      exact ⟨by rw [HR.out]; rfl, rfl⟩
    · have h2' : (z.toList == [108, 101, 97, 115, 116]) = false := by simpa using h2
      by_cases h3 : (z.toList == [114, 105, 110, 103]) = true
      · have HR : Hid (placeW z polW = 3) := by show _ = _; rw [HP.out, h1', h2', h3]; rfl
        clear HP h1 h2
        go_enter Tryd.func44, Tryd.ntmps44
        go_wp2
        go_ret2
        exact ⟨by rw [HR.out]; rfl, rfl⟩
      · have h3' : (z.toList == [114, 105, 110, 103]) = false := by simpa using h3
        have HR : Hid (placeW z polW = 0) := by show _ = _; rw [HP.out, h1', h2', h3']; rfl
        clear HP h1 h2 h3
        go_enter Tryd.func44, Tryd.ntmps44
        go_wp2
        go_ret2
        exact ⟨by rw [HR.out]; rfl, rfl⟩

end Go.Proofs.YtomhmndpjkfppaaDoor

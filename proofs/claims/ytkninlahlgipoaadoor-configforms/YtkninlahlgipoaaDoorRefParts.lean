/-
  The contract of the statements' own Parts (package triageref1): the parts of a text.
-/
import Derived.Test.YtkninlahlgipoaaDoorBase
import Derived.Test.YtkninlahlgipoaaDoorChecked
import Derived.WalkSmall
namespace Go.Proofs.YtkninlahlgipoaaDoor
open Go.RowKit

theorem infoStr0 : (Tryd.prog.info? 9).map (fun i => (i.zero, i.size, i.bytes)) = some (some (.string ByteArray.empty), 1, 16) := by kernel_rfl

set_option maxHeartbeats 1000000 in
theorem rParts_any (s : ByteArray) (c : Int) (w : World) (hs : s.size ≤ 1000000) :
    Calls Tryd.prog 31 #[.string s, .int .u8 c] w fun e w' => ∃ v', e = .returned v' ∧ IsRow 1 w' v' (partsV s c).length ((partsV s c).map Value.string) ∧ Below w.heap.size w w' := by
  obtain ⟨i0, hi, hz0, hz1, hz2⟩ := info_parts infoStr0
  go_enter Tryd.func31, Tryd.ntmps31
  go_wp2
  go_loopw [5, 6, 10] (fun o f i wr => ∃ (D : List ByteArray) (a k : Nat), f = .int .i64 a ∧ i = .int .i64 k ∧ Parting s c D a k ∧ wr.ownsRow w.heap.size 9 1 o D.length (D.map Value.string) ∧ Below w.heap.size w wr) (fun _ _ i _ => s.size - (intOf i).toNat)
  case atStart => exact ⟨[], 0, 0, rfl, rfl, parting_start s c, World.ownsRow_nil _ _ _ _, Below.refl _ _⟩
  case round =>
    obtain ⟨D, a, k, rfl, rfl, hp, ho, hb⟩ := hrel
    have HP : Hid (Parting s c D a k) := hp
    have HO : Hid (wr.ownsRow w.heap.size 9 1 u5 D.length (D.map Value.string)) := ho
    have HB : Hid (Below w.heap.size w wr) := hb
    obtain ⟨h1, h2, h3, _⟩ := hp
    clear ho hb
    by_cases hlt : k < s.size
    · by_cases hc : ((s[k]).toNat : Int) = c
      · have HN : Hid (Parting s c (D ++ [s.extract a k]) (k + 1) (k + 1)) := parting_hit HP.out hlt hc
        have hcb : (((s[k]).toNat : Int) == c) = true := by simpa using hc
        have j1 : (a : Int) ≤ (k : Int) := by omega
        have j2 : (k : Int) ≤ (s.size : Int) := by omega
        clear hc
        go_wp2_with (at_builtin; refine wpList_append_row rfl (.tmp 18) (.tmp 23) 36 rfl w.heap.size 9 i0 _ 1 16 Tryd.underlying36 hi hz0 hz1 hz2 rfl (by decide) _ D.length _ rfl (HO.out.alloc _) _ 1 [.string (s.extract a k)] rfl (one_cell _ _ _ _ (by simp)) (by simp [Value.oneCell']) (by unfold maxLen; omega) (by omega) (by have := HB.out.size; simp; omega) ?_)
        intro v' w1 hown hgrow _
        have HO1 : Hid (w1.ownsRow w.heap.size 9 1 v' (D ++ [s.extract a k]).length ((D ++ [s.extract a k]).map Value.string)) := by
          show World.ownsRow _ _ _ _ _ _ _
          rw [List.length_append, List.map_append]; exact hown
        have HB1 : Hid (Below w.heap.size w w1) := (HB.out.alloc HB.out.size _).grown hgrow (by have := HB.out.size; simp; omega) (own_base HO.out)
        clear hown hgrow
        go_wp2
        go_roundw
        case rel => exact ⟨D ++ [s.extract a k], k + 1, k + 1, by go_num, by go_num, HN.out, HO1.out, HB1.out⟩
        case measure => simp [intOf]; omega
      · have HN : Hid (Parting s c D a (k + 1)) := parting_miss HP.out hlt hc
        have hcb : (((s[k]).toNat : Int) == c) = false := by simpa using hc
        clear hc
        go_wp2
        go_roundw
        case rel => exact ⟨D, a, k + 1, rfl, by go_num, HN.out, HO.out, HB.out⟩
        case measure => simp [intOf]; omega
    · have HE : Hid (D ++ [s.extract a s.size] = partsV s c) := parting_end HP.out hlt
      have j1 : (a : Int) ≤ (s.size : Int) := by omega
      go_wp2_with (at_builtin; refine wpList_append_row rfl (.tmp 28) (.tmp 32) 36 rfl w.heap.size 9 i0 _ 1 16 Tryd.underlying36 hi hz0 hz1 hz2 rfl (by decide) _ D.length _ rfl (HO.out.alloc _) _ 1 [.string (s.extract a s.size)] rfl (one_cell _ _ _ _ (by simp)) (by simp [Value.oneCell']) (by unfold maxLen; omega) (by omega) (by have := HB.out.size; simp; omega) ?_)
      intro v' w1 hown hgrow _
      have HO1 : Hid (w1.ownsRow w.heap.size 9 1 v' (partsV s c).length ((partsV s c).map Value.string)) := by
        show World.ownsRow _ _ _ _ _ _ _
        rw [← HE.out, List.length_append, List.map_append]; exact hown
      have HB1 : Hid (Below w.heap.size w w1) := (HB.out.alloc HB.out.size _).grown hgrow (by have := HB.out.size; simp; omega) (own_base HO.out)
      clear hown hgrow
      go_wp2
      go_ret
      exact ⟨_, rfl, isRow_own HO1.out, HB1.out⟩

end Go.Proofs.YtkninlahlgipoaaDoor

/-
  The reference's answers to chapter 6: by itself; a word's place in a row; what may be.
-/
import Derived.Test.YtomhmndpjkfppaaDoorRefMade
import Derived.Test.YtomhmndpjkfppaaDoorRefMayKit
import Derived.BigQuiet
import Derived.Deep.QuietTactic
namespace Go.Proofs.YtomhmndpjkfppaaDoor
open Go.RowKit

theorem find_hit (l : List ByteArray) (s : ByteArray) (k : Nat) (hk : k < l.length) (hn : ∀ j, j < k → (l.getD j ByteArray.empty == s) = false) (hy : (l.getD k ByteArray.empty == s) = true) : placeW s l = k + 1 := by
  unfold placeW
  have h : l.findIdx? (· == s) = some k := by
    rw [List.findIdx?_eq_some_iff_getElem]
    refine ⟨hk, by simpa [hk] using hy, fun j hj => ?_⟩
    have := hn j hj
    have hj2 : j < l.length := by omega
    simpa [hj2] using this
  rw [h]
theorem find_none (l : List ByteArray) (s : ByteArray) (hn : ∀ j, j < l.length → (l.getD j ByteArray.empty == s) = false) : placeW s l = 0 := by
  unfold placeW
  have h : l.findIdx? (· == s) = none := by
    rw [List.findIdx?_eq_none_iff]
    intro x hx
    obtain ⟨j, hj, rfl⟩ := List.mem_iff_getElem.1 hx
    have := hn j hj
    simpa [hj] using this
  rw [h]


theorem selves_next (k : Nat) (hk : k < 23) : (defNums.take (k + 1)).map (Value.int .i64) = (defNums.take k).map (Value.int .i64) ++ [.int .i64 (selfC k)] := by
  have hl : defNums.length = 23 := rfl
  rw [List.take_succ_eq_append_getElem (by omega), List.map_append]
  have e : defNums[k]'(by omega) = selfC k := by
    have h2 : k < tabC.length := hk
    unfold selfC rowC defNums
    rw [List.getElem_map]
    simp [h2]
  rw [e]; rfl

set_option maxRecDepth 100000 in
set_option maxHeartbeats 2000000 in
theorem rDefault_any (w : World) :
    Calls Tryd.prog 18 #[] w fun e w' => e = .returned defC.val ∧ Below w.heap.size w w' := by
  obtain ⟨i0, hi, hz0, hz1, hz2⟩ := info_parts infoInt0
  have HS : Hid (∀ k, k < 23 → (defNums.take (k + 1)).map (Value.int .i64) = (defNums.take k).map (Value.int .i64) ++ [.int .i64 (selfC k)]) := selves_next
  have HL : Hid (defNums.take 23 = defNums) := rfl
  have HV : Hid ((ofNums defNums ByteArray.empty).val = defC.val) := rfl
  obtain ⟨cells, hcells, hsz, hone⟩ : ∃ cs : Array Value, defC.val = .agg cs ∧ cs.size = 23 ∧ cs.all (·.oneCell') = true := ⟨_, rfl, rfl, by simp [Value.oneCell']⟩
  rw [hcells]
  have HMade := fun (v : Value) (W : World) (h : IsRow 1 W v 23 (defNums.map (Value.int .i64))) => rMade_any defNums ByteArray.empty v W h
  rw [show (ofNums defNums ByteArray.empty).val = Value.agg cells from hcells] at HMade
  have hD : Hid (∀ k, k ≤ 23 → (defNums.take k).length = k) := fun k hk => by rw [List.length_take]; show min k 23 = k; omega
  clear hcells HV
  generalize defNums = D at HS HL HMade hD
  go_enter Tryd.func18, Tryd.ntmps18
  go_wp2_with fail
  generalize hW0 : w.alloc _ = W0
  obtain ⟨old, hold, hg0⟩ : ∃ old : Array Value, old.size = 23 ∧ W0.heap[w.heap.size]? = some (.cells old 23 (0, 0)) := ⟨_, rfl, by rw [← hW0]; exact heap_alloc_new w _⟩
  have HG0 : Hid (W0.heap[w.heap.size]? = some (.cells old 23 (0, 0))) := hg0
  clear hg0
  have HB0 : Hid (Below w.heap.size w W0) := by show Below _ _ _; rw [← hW0]; exact (Below.refl _ _).alloc (Nat.le_refl _) _
  have HN0 : Hid (W0.heap.size = w.heap.size + 1) := by show _ = _; rw [← hW0]; simp
  clear hW0
  refine (rRows_any _).mono ?_
  rintro e w1 ⟨v, rfl, hr, hb⟩
  obtain ⟨ao, cap, rfl⟩ := hr.shaped
  have HR : Hid (IsRow 4 w1 (.slice ao 23 cap) 23 rowsV) := hr
  have HB1 : Hid (Below W0.heap.size W0 w1) := hb
  clear hr hb
  go_wp2
  go_loopw [1, 6] (fun o q wr => ∃ k : Nat, k ≤ 23 ∧ q = .int .i64 k ∧ wr.ownsRow w1.heap.size 3 1 o k ((D.take k).map (Value.int .i64)) ∧ Below w1.heap.size w1 wr) (fun _ q _ => 23 - (intOf q).toNat)
  case atStart => exact ⟨0, Nat.zero_le _, rfl, World.ownsRow_nil _ _ _ _, Below.refl _ _⟩
  case round =>
    obtain ⟨k, hk, rfl, ho, hb⟩ := hrel
    have HO : Hid (wr.ownsRow w1.heap.size 3 1 u1 k ((D.take k).map (Value.int .i64))) := ho
    have HB : Hid (Below w1.heap.size w1 wr) := hb
    clear ho hb
    by_cases hlt : k < 23
    · obtain ⟨b, off, rfl, hbl, g0, g1, g2, g3⟩ := rowsAt (HR.out.below HB.out) k hlt
      have HN := HS.out k hlt
      have HNx : Hid ((D.take (k + 1)).map (Value.int .i64) = (D.take k).map (Value.int .i64) ++ [.int .i64 (selfC k)]) := HN
      clear HN
      generalize selfC k = sv at g3 HNx
      generalize nameC k = nv at g0
      generalize lowC k = lv at g1
      generalize highC k = hv at g2
      generalize (D.take k).map (Value.int .i64) = Dk at HO HNx
      go_wp2_with (at_builtin; refine wpList_append_row rfl (.tmp 10) (.tmp 13) 24 rfl w1.heap.size 3 i0 _ 1 8 Tryd.underlying24 hi hz0 hz1 hz2 rfl (by decide) _ k _ rfl ((HO.out.alloc _).alloc _) _ 1 [.int .i64 sv] rfl (one_cell _ _ _ _ (by simp)) (by simp [Value.oneCell']) (by unfold maxLen; omega) (by omega) (by have := HB.out.size; simp; omega) ?_)
      intro v' w6 hown hgrow _
      have HO6 : Hid (w6.ownsRow w1.heap.size 3 1 v' (k + 1) ((D.take (k + 1)).map (Value.int .i64))) := by
        show World.ownsRow _ _ _ _ _ _ _
        rw [HNx.out]; exact hown
      have HB6 : Hid (Below w1.heap.size w1 w6) := ((HB.out.alloc HB.out.size _).alloc (by have := HB.out.size; simp; omega) _).grown hgrow (by have := HB.out.size; simp; omega) (own_base HO.out)
      clear hown hgrow
      go_wp2
      go_roundw
      case rel => exact ⟨k + 1, by omega, by go_num, HO6.out, HB6.out⟩
      case measure => simp [intOf]; omega
    · obtain rfl : k = 23 := by omega
      have hO := HO.out
      rw [HL.out] at hO
      have HO2 : Hid (IsRow 1 wr u1 23 (D.map (Value.int .i64))) := isRow_own hO
      have HBa : Hid (Below w.heap.size w wr) := HB0.out.trans ((HB1.out.mono (by have := HN0.out; omega)).trans (HB.out.mono (by have := HB1.out.size; have := HN0.out; omega)))
      have HG : Hid (wr.heap[w.heap.size]? = some (.cells old 23 (0, 0))) := by
        show _ = _
        exact (HB.out.block _ (by have := HB1.out.size; have := HN0.out; omega)).trans ((HB1.out.block _ (by have := HN0.out; omega)).trans HG0.out)
      clear hO HO
      go_wp2_with fail
      refine (HMade _ _ HO2.out).mono ?_
      rintro e w7 ⟨rfl, hb7⟩
      have HG7 : Hid (w7.heap[w.heap.size]? = some (.cells old 23 (0, 0))) := by
        show _ = _
        exact (hb7.block _ (by have := HB.out.size; have := HB1.out.size; have := HN0.out; omega)).trans HG.out
      have HB7 : Hid (Below w.heap.size w w7) := HBa.out.trans (hb7.mono HBa.out.size)
      clear hb7
      go_wp2_with (refine wpList_store_row rfl 23 (.tmp 0) (.tmp 17) rfl w.heap.size cells rfl rfl 23 _ HG7.out (by rw [hsz]; kernel_rfl) (by rw [hsz]; exact hold) hone ?_)
      try simp only [Exit.inBlock, Exit.then]
      refine bodyPost_ret (results_cell_row rfl _ _ w.heap.size 23 _ _ _ rfl (setRow_heap w7 _ _ _ _ _ HG7.out) Tryd.underlying23 rfl (by rw [hsz]; kernel_rfl)) rfl ?_
      exact ⟨rfl, below_setRow HB7.out (Nat.le_refl _) _⟩

end Go.Proofs.YtomhmndpjkfppaaDoor

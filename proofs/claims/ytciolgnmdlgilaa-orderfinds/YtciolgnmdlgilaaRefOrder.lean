/-
  Contracts of the reference's answers to chapter 3 (Less, Sort) and of the statements' own functions (same, keys).
-/
import Derived.Test.YtciolgnmdlgilaaKeyKit
import Derived.Test.YtciolgnmdlgilaaChecked
import Derived.WalkSmall
namespace Go.Proofs.Ytciolgnmdlgilaa
open Go.RowKit

set_option maxHeartbeats 1000000 in
theorem refLess_any (k l : Int × Int) (w : World) :
    Calls Try.prog 20 #[kval k, kval l] w fun e w' => e = .returned (.bool (ltK k l)) ∧ Below w.heap.size w w' := by
  unfold kval
  obtain ⟨a, b⟩ := k
  obtain ⟨c, d⟩ := l
  by_cases h1 : a < c
  · have hl : ltK (a, b) (c, d) = true := by rw [ltK_iff]; exact .inl h1
    go_enter Try.func20, Try.ntmps20
    go_wp2
    go_ret
    exact ⟨ret_bool (by rw [hl]), ((Below.refl _ _).alloc (Nat.le_refl _) _).alloc (by simp) _⟩
  · by_cases h2 : a = c
    · subst h2
      have hl : ltK (a, b) (a, d) = decide (b < d) := by unfold ltK; simp
      go_enter Try.func20, Try.ntmps20
      go_wp2
      go_ret
      exact ⟨rfl, ((Below.refl _ _).alloc (Nat.le_refl _) _).alloc (by simp) _⟩
    · have hl : ltK (a, b) (c, d) = false := by unfold ltK; simp [h2]; omega
      go_enter Try.func20, Try.ntmps20
      go_wp2
      go_ret
      exact ⟨rfl, ((Below.refl _ _).alloc (Nat.le_refl _) _).alloc (by simp) _⟩

theorem take_same {ks js : List (Int × Int)} {k : Nat} (h1 : k < ks.length) (h2 : k < js.length) (ht : ks.take k = js.take k) (h : ks.getD k (0, 0) = js.getD k (0, 0)) : ks.take (k + 1) = js.take (k + 1) := by
  rw [kgetD k h1, kgetD k h2] at h
  rw [List.take_succ_eq_append_getElem h1, List.take_succ_eq_append_getElem h2, ht, h]

set_option maxHeartbeats 1000000 in
theorem same_any (ks js : List (Int × Int)) (v u : Value) (w : World) (hv : IsKeys w v ks) (hu : IsKeys w u js) :
    Calls Try.prog 10 #[v, u] w fun e w' => e = .returned (.bool (decide (ks = js))) ∧ Below w.heap.size w w' := by
  obtain ⟨ao, c1, rfl⟩ := hv.shape
  obtain ⟨bo, c2, rfl⟩ := hu.shape
  have hl1 := hv.2.1.1
  have hl2 := hu.2.1.1
  by_cases hl : ks.length = js.length
  · go_enter Try.func10, Try.ntmps10
    go_wp2
    have HL : Hid (ks.length = js.length) := hl
    clear hl
    go_loopw [13] (fun i wr => ∃ k : Nat, k ≤ ks.length ∧ i = .int .i64 k ∧ ks.take k = js.take k ∧ Below w.heap.size w wr) (fun i _ => ks.length - (intOf i).toNat)
    case atStart => exact ⟨0, Nat.zero_le _, rfl, by simp, Below.refl _ _⟩
    case round =>
      obtain ⟨k, hk, rfl, ht, hb⟩ := hrel
      by_cases hlt : k < ks.length
      · have hlj : k < js.length := by have := HL.out; omega
        rcases (hv.below hb).2.2 with ⟨h0, _⟩ | ⟨_, b1, o1, c1', e1, hlt1, hc1⟩
        · rw [h0] at hlt; simp at hlt
        rcases (hu.below hb).2.2 with ⟨h0, _⟩ | ⟨_, b2, o2, c2', e2, hlt2, hc2⟩
        · have hl := HL.out; rw [h0] at hl; simp at hl; rw [hl] at hlt; simp at hlt
        simp only [Value.slice.injEq] at e1 e2
        obtain ⟨rfl, _, rfl⟩ := e1
        obtain ⟨rfl, _, rfl⟩ := e2
        obtain ⟨g1, g2⟩ := hc1 k hlt
        obtain ⟨g3, g4⟩ := hc2 k (by have := HL.out; omega)
        clear hc1 hc2
        have HB : Hid (Below w.heap.size w wr) := hb
        have HT : Hid (ks.take k = js.take k) := ht
        have HN : Hid (ks.getD k (0, 0) = js.getD k (0, 0) → ks.take (k + 1) = js.take (k + 1)) := take_same hlt (by have := HL.out; omega) ht
        have HX : Hid (ks.getD k (0, 0) ≠ js.getD k (0, 0) → ks ≠ js) := fun h e => h (by rw [e])
        clear hb ht
        generalize ks.getD k (0, 0) = x at g1 g2 HN HX
        generalize js.getD k (0, 0) = y at g3 g4 HN HX
        obtain ⟨x1, x2⟩ := x
        obtain ⟨y1, y2⟩ := y
        simp only at g1 g2 g3 g4
        by_cases e1 : x1 = y1
        · subst e1
          by_cases e2 : x2 = y2
          · subst e2
            go_wp2
            go_quiet (fail)
            go_wp2
            go_roundw
            case rel => exact ⟨k + 1, by omega, by go_num, HN.out (by first | rfl | trivial), below_drewN HB.out _⟩
            case measure => simp [intOf]; omega
          · have b2 : (x2 != y2) = true := bne_iff_ne.2 e2
            go_wp2
            go_quiet (fail)
            go_wp2
            go_ret
            exact ⟨ret_bool (by symm; rw [decide_eq_false_iff_not]; exact HX.out (by simp [e2])), below_drewN HB.out _⟩
        · have b1 : (x1 != y1) = true := bne_iff_ne.2 e1
          go_wp2
          go_quiet (fail)
          go_wp2
          go_ret
          exact ⟨ret_bool (by symm; rw [decide_eq_false_iff_not]; exact HX.out (by simp [e1])), below_drewN HB.out _⟩
      · have hlj : ¬ k < js.length := by have := HL.out; omega
        go_wp2
        go_ret
        have hl := HL.out
        rw [List.take_of_length_le (by omega), List.take_of_length_le (by omega)] at ht
        exact ⟨ret_bool (by simp [ht]), hb⟩
  · go_enter Try.func10, Try.ntmps10
    go_wp2
    go_ret
    exact ⟨ret_bool (by symm; rw [decide_eq_false_iff_not]; intro h; exact hl (by rw [h])), Below.refl _ _⟩

theorem infoKey46 : (Try.prog.info? 46).map (fun i => (i.zero, i.size, i.bytes)) = some (some (.agg #[.int .i64 0, .int .i64 0]), 2, 16) := by kernel_rfl

set_option maxHeartbeats 1000000 in
theorem keys_any (ks : List (Int × Int)) (v : Value) (w : World) (hv : IsKeys w v ks) (hlen : ks.length ≤ 1000000) :
    Calls Try.prog 12 #[v] w fun e w' => ∃ v', e = .returned v' ∧ IsKeys w' v' ks ∧ Below w.heap.size w w' := by
  obtain ⟨ao, c1, rfl⟩ := hv.shape
  obtain ⟨i0, hi, hz0, hz1, hz2⟩ := info_parts infoKey46
  go_enter Try.func12, Try.ntmps12
  go_wp2
  go_loopw [3, 8] (fun o i wr => ∃ k : Nat, k ≤ ks.length ∧ i = .int .i64 k ∧ wr.ownsRow w.heap.size 46 2 o k (keyCells (ks.take k)) ∧ Below w.heap.size w wr) (fun _ i _ => ks.length - (intOf i).toNat)
  case atStart => exact ⟨0, Nat.zero_le _, rfl, World.ownsRow_nil _ _ _ _, Below.refl _ _⟩
  case round =>
    obtain ⟨k, hk, rfl, ho, hb⟩ := hrel
    have HO : Hid (wr.ownsRow w.heap.size 46 2 u3 k (keyCells (ks.take k))) := ho
    have HB : Hid (Below w.heap.size w wr) := hb
    by_cases hlt : k < ks.length
    · rcases (hv.below hb).2.2 with ⟨h0, _⟩ | ⟨_, b1, o1, c1', e1, hlt1, hc1⟩
      · rw [h0] at hlt; simp at hlt
      simp only [Value.slice.injEq] at e1
      obtain ⟨rfl, _, rfl⟩ := e1
      obtain ⟨g1, g2⟩ := hc1 k hlt
      clear hc1 ho hb
      have HN : Hid (keyCells (ks.take (k + 1)) = keyCells (ks.take k) ++ keyCells [ks.getD k (0, 0)]) := keyCells_take hlt
      generalize ks.getD k (0, 0) = x at g1 g2 HN
      go_wp2_with (at_builtin; refine wpList_append_row rfl (.tmp 12) (.tmp 18) 28 rfl w.heap.size 46 i0 _ 2 16 Try.underlying28 hi hz0 hz1 hz2 rfl (by decide) _ k _ rfl ((HO.out.alloc _).alloc _) _ 1 (keyCells [x]) rfl (one_key _ x _ _ (by simp)) (keyCells_one _) (by unfold maxLen; omega) (by omega) (by have := HB.out.size; simp; omega) ?_)
      intro v' w1 hown hgrow _
      have HO1 : Hid (w1.ownsRow w.heap.size 46 2 v' (k + 1) (keyCells (ks.take (k + 1)))) := by
        show World.ownsRow _ _ _ _ _ _ _
        rw [HN.out]; exact hown
      have HB1 : Hid (Below w.heap.size w w1) := ((HB.out.alloc HB.out.size _).alloc (by have := HB.out.size; simp; omega) _).grown hgrow (by have := HB.out.size; simp; omega) (own_base HO.out)
      clear hown hgrow
      go_wp2
      go_roundw
      case rel => exact ⟨k + 1, by omega, by go_num, HO1.out, HB1.out⟩
      case measure => simp [intOf]; omega
    · go_wp2
      go_ret
      rw [List.take_of_length_le (by omega)] at ho
      exact ⟨_, rfl, isKeys_own ho (by omega) (by omega) hv.1, hb⟩

end Go.Proofs.Ytciolgnmdlgilaa

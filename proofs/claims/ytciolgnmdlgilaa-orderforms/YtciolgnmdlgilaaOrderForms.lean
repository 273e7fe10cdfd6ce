/-
  OrderForms, for any two rows and any key: Sort and Merge are as the document's own Sort; Find tells how many are less and whether the key is there; Rising as the pages say. No condition.
-/
import Derived.Test.YtciolgnmdlgilaaOrderFrame
import Derived.WalkSmall
namespace Go.Proofs.Ytciolgnmdlgilaa
open Go.ChangeShapes Go.WideShapes Go.ChangeAt Go.RowKit

theorem findV_take {l : List (Int × Int)} {i : Nat} (hi : i < l.length) (k : Int × Int) : Hid (findV (l.take (i + 1)) k = findV (l.take i) k + if ltK (l.getD i (0, 0)) k then 1 else 0) := by
  show _ = _
  unfold findV
  rw [List.take_succ_eq_append_getElem hi, List.countP_append, List.countP_singleton, kgetD i hi]

theorem ltK_parts (a b c d : Int) : (ltK (a, b) (c, d) = true ∧ decide (a < c) = true) ∨ (ltK (a, b) (c, d) = true ∧ a = c ∧ decide (b < d) = true) ∨ (ltK (a, b) (c, d) = false ∧ a = c ∧ decide (b < d) = false) ∨ (ltK (a, b) (c, d) = false ∧ decide (a < c) = false ∧ (a == c) = false) := by
  unfold ltK
  simp only [decide_eq_true_eq, decide_eq_false_iff_not, beq_eq_false_iff_ne]
  omega

/-- Rising up to place j. -/
def risesTo (l : List (Int × Int)) (j : Nat) : Bool := (List.range (j - 1)).all fun i => ltK (l.getD i (0, 0)) (l.getD (i + 1) (0, 0))
theorem risesTo_next (l : List (Int × Int)) (j : Nat) (hj : 1 ≤ j) : Hid (risesTo l (j + 1) = (risesTo l j && ltK (l.getD (j - 1) (0, 0)) (l.getD j (0, 0)))) := by
  show _ = _
  unfold risesTo
  rw [show j + 1 - 1 = (j - 1) + 1 by omega, List.range_succ, List.all_append]
  simp only [List.all_cons, List.all_nil, Bool.and_true]
  rw [show j - 1 + 1 = j by omega]
theorem risesTo_end (l : List (Int × Int)) (j : Nat) (h : ¬ j < l.length) (h1 : 1 ≤ j) (h2 : j ≤ l.length ∨ j = 1) : risesTo l j = risingV l := by
  unfold risesTo risingV
  rw [show j - 1 = l.length - 1 by omega]

set_option maxHeartbeats 8000000 in
set_option maxRecDepth 100000 in
theorem walk_OrderForms (v : Value) (l : List (Int × Int)) {w : World} (hv : IsKeys w v l) (hl : l.length ≤ 8796093022208) (u : Value) (m : List (Int × Int)) (hu : IsKeys w u m) (hm : m.length ≤ 8796093022208) (k : Int × Int) (_ : inK k) (_ : World) :
    Calls Try.prog 3 #[v, u, kval k] w fun e w' => e = .returned (.bool true) ∧ Below w.heap.size w w' := by
  obtain ⟨k1, k2⟩ := k
  unfold kval
  obtain ⟨lo, lc, rfl⟩ := hv.shape
  obtain ⟨mo, mc, rfl⟩ := hu.shape
  have HV : Hid (IsKeys w (.slice lo l.length lc) l) := hv
  have HU : Hid (IsKeys w (.slice mo m.length mc) m) := hu
  clear hv hu
  have HB0 : Hid (Below w.heap.size w (w.alloc (.cells #[.int .i64 k1, .int .i64 k2] 24))) := (Below.refl _ _).alloc (Nat.le_refl _) _
  by_cases hs : 300 < l.length + m.length
  · go_enter Try.func3, Try.ntmps3
    go_wp2_with fail
    refine (awake_any _).mono ?_
    rintro e w1 ⟨rfl, hb1⟩
    have HB : Hid (Below w.heap.size w w1) := HB0.out.trans (hb1.mono HB0.out.size)
    clear hb1
    go_wp2
    go_ret
    exact ⟨rfl, HB.out⟩
  · obtain ⟨i0, hi, hz0, hz1, hz2⟩ := info_parts infoKey
    obtain ⟨A, hA⟩ : ∃ A, sortV l = A := ⟨_, rfl⟩
    obtain ⟨B, hB⟩ : ∃ B, sortV m = B := ⟨_, rfl⟩
    obtain ⟨Z, hZ⟩ : ∃ Z, sortV (l ++ m) = Z := ⟨_, rfl⟩
    have HA : Hid (sortV l = A ∧ SortedK A ∧ A.length = l.length) := ⟨hA, hA ▸ sortV_sorted l, hA ▸ sortV_length l⟩
    have HB : Hid (sortV m = B ∧ SortedK B ∧ B.length = m.length) := ⟨hB, hB ▸ sortV_sorted m, hB ▸ sortV_length m⟩
    have HZ : Hid (sortV (A ++ B) = Z ∧ sortV (l ++ m) = Z ∧ Z.length = l.length + m.length) := by
      refine ⟨?_, hZ, ?_⟩
      · rw [← hA, ← hB, sortV_append, hZ]
      · rw [← hZ, sortV_length, List.length_append]
    clear hA hB hZ
    go_enter Try.func3, Try.ntmps3
    go_wp2_with fail
    refine (sort_any l _ _ (HV.out.below HB0.out) (by omega)).mono ?_
    rintro e w1 ⟨va, rfl, hk1, hb1⟩
    rw [HA.out.1] at hk1
    have HB1 : Hid (Below w.heap.size w w1) := HB0.out.trans (hb1.mono HB0.out.size)
    have HG : Hid (w.heap.size < w1.heap.size ∧ w1.cell? ⟨w.heap.size, 0, none⟩ = some (.int .i64 k1) ∧ w1.cell? ⟨w.heap.size, 1, none⟩ = some (.int .i64 k2)) :=
      ⟨Nat.lt_of_lt_of_le (by simp) hb1.size, (hb1.cell (p := ⟨w.heap.size, 0, none⟩) (by simp)).trans (by simp), (hb1.cell (p := ⟨w.heap.size, 1, none⟩) (by simp)).trans (by simp)⟩
    have HK1 : Hid (IsKeys w1 va A) := hk1
    clear hb1 hk1
    go_wp2_with fail
    refine (sort_any m _ _ (HU.out.below HB1.out) (by omega)).mono ?_
    rintro e w2 ⟨vb, rfl, hk2, hb2⟩
    rw [HB.out.1] at hk2
    have H12 : Hid (Below w1.heap.size w1 w2) := hb2
    have HK2 : Hid (IsKeys w2 vb B) := hk2
    clear hb2 hk2
    go_wp2_with fail
    refine (keys_any l _ _ ((HV.out.below HB1.out).below H12.out) (by omega)).mono ?_
    rintro e w3 ⟨v3, rfl, hk3, hb3⟩
    have H13 : Hid (Below w1.heap.size w1 w3) := H12.out.trans (hb3.mono H12.out.size)
    have HK23 : Hid (IsKeys w3 vb B) := HK2.out.below hb3
    have HK3 : Hid (IsKeys w3 v3 l) := hk3
    clear hb3 hk3
    go_wp2_with fail
    refine (refSort_any l _ _ HK3.out (by omega)).mono ?_
    rintro e w4 ⟨v4, rfl, hk4, hb4⟩
    rw [HA.out.1] at hk4
    have H14 : Hid (Below w1.heap.size w1 w4) := H13.out.trans (hb4.mono H13.out.size)
    have HK24 : Hid (IsKeys w4 vb B) := HK23.out.below hb4
    have HK4 : Hid (IsKeys w4 v4 A) := hk4
    clear hb4 hk4
    go_wp2_with fail
    refine (same_any A A _ _ _ (HK1.out.below H14.out) HK4.out).mono ?_
    rintro e w5 ⟨rfl, hb5⟩
    rw [show decide (A = A) = true by simp]
    have H15 : Hid (Below w1.heap.size w1 w5) := H14.out.trans (hb5.mono H14.out.size)
    have HK25 : Hid (IsKeys w5 vb B) := HK24.out.below hb5
    clear hb5
    go_wp2_with fail
    refine (merge_any A B _ _ _ (HK1.out.below H15.out) HK25.out HA.out.2.1 HB.out.2.1 (by rw [HA.out.2.2, HB.out.2.2]; omega)).mono ?_
    rintro e w6 ⟨vx, rfl, hk6, hb6⟩
    rw [HZ.out.1] at hk6
    have H16 : Hid (Below w1.heap.size w1 w6) := H15.out.trans (hb6.mono H15.out.size)
    have HK6 : Hid (IsKeys w6 vx Z) := hk6
    clear hb6 hk6
    have HB6 : Hid (Below w.heap.size w w6) := HB1.out.trans (H16.out.mono HB1.out.size)
    go_wp2_with (at_builtin; refine wpList_append_row rfl (.tmp 37) (.tmp 38) 22 rfl w.heap.size 24 i0 _ 2 16 Try.underlying22 hi hz0 hz1 hz2 rfl (by decide) _ 0 _ rfl (own_empty w6 _ 2 _ HB6.out.size) _ l.length (keyCells l) rfl (HV.out.below (HB6.out.alloc HB6.out.size _)).row (keyCells_one _) (by unfold maxLen; omega) (by omega) (by have := HB6.out.size; simp; omega) ?_)
    intro v7 w7 hown7 hgrow7 hat7
    have h67 : Below w6.heap.size w6 w7 := ((Below.refl _ _).alloc (Nat.le_refl _) _).grown hgrow7 (by simp) (fun k hk => by simp [Value.ownBlock] at hk; omega)
    have HO7 : Hid (w7.ownsRow w.heap.size 24 2 v7 l.length (keyCells l)) := by
      show World.ownsRow _ _ _ _ _ _ _
      simpa using hown7
    have HN7 : Hid (∀ k, v7.ownBlock = some k → w6.heap.size ≤ k) := fun k hk => by
      rcases hat7 with h | h
      · rw [h] at hk; simp [Value.ownBlock] at hk; omega
      · rw [h] at hk; simp at hk; omega
    have H67 : Hid (Below w6.heap.size w6 w7) := h67
    have HB7 : Hid (Below w.heap.size w w7) := HB6.out.trans (h67.mono HB6.out.size)
    clear hown7 hgrow7 hat7 h67
    go_wp2_with (at_builtin; refine wpList_append_row rfl (.tmp 39) (.tmp 40) 22 rfl w.heap.size 24 i0 _ 2 16 Try.underlying22 hi hz0 hz1 hz2 rfl (by decide) _ l.length _ rfl HO7.out _ m.length (keyCells m) rfl (HU.out.below HB7.out).row (keyCells_one _) (by unfold maxLen; omega) (by omega) HB7.out.size ?_)
    intro v8 w8 hown8 hgrow8 _
    have h68 : Below w6.heap.size w6 w8 := H67.out.grown hgrow8 H67.out.size HN7.out
    have H18 : Hid (Below w1.heap.size w1 w8) := H16.out.trans (h68.mono H16.out.size)
    have HK68 : Hid (IsKeys w8 vx Z) := HK6.out.below h68
    have HK8 : Hid (IsKeys w8 v8 (l ++ m)) := isKeys_own (by rw [keyCells_append]; exact hown8) (by simp) (by simp; omega) (fun x hx => by
      rcases List.mem_append.1 hx with h | h
      · exact HV.out.1 x h
      · exact HU.out.1 x h)
    clear hown8 hgrow8 h68 H67 HN7 HO7 HB7
    go_wp2_with fail
    refine (keys_any (l ++ m) _ _ HK8.out (by simp; omega)).mono ?_
    rintro e w9 ⟨v9, rfl, hk9, hb9⟩
    have H19 : Hid (Below w1.heap.size w1 w9) := H18.out.trans (hb9.mono H18.out.size)
    have HK69 : Hid (IsKeys w9 vx Z) := HK68.out.below hb9
    have HK9 : Hid (IsKeys w9 v9 (l ++ m)) := hk9
    clear hb9 hk9
    go_wp2_with fail
    refine (refSort_any (l ++ m) _ _ HK9.out (by simp; omega)).mono ?_
    rintro e wA ⟨vA, rfl, hkA, hbA⟩
    rw [HZ.out.2.1] at hkA
    have H1A : Hid (Below w1.heap.size w1 wA) := H19.out.trans (hbA.mono H19.out.size)
    have HK6A : Hid (IsKeys wA vx Z) := HK69.out.below hbA
    have HKA : Hid (IsKeys wA vA Z) := hkA
    clear hbA hkA
    go_wp2_with fail
    refine (same_any Z Z _ _ _ HK6A.out HKA.out).mono ?_
    rintro e wB ⟨rfl, hbB⟩
    rw [show decide (Z = Z) = true by simp]
    have H1B : Hid (Below w1.heap.size w1 wB) := H1A.out.trans (hbB.mono H1A.out.size)
    clear hbB HK6A HKA HK69 HK9 HK68 HK8 HK6 HK25 HK24 HK4 HK23 HK3 HK2 H12 H13 H14 H15 H16 H18 H19 H1A HB6
    obtain ⟨ao, ac, rfl⟩ := HK1.out.shape
    have hAl : A.length ≤ 300 := by have := HA.out.2.2; omega
    have hll : l.length ≤ 300 := by omega
    have HV1 : Hid (IsKeys w1 (.slice lo l.length lc) l) := HV.out.below HB1.out
    go_wp2
    go_loopw [9, 49] (fun n c wr => ∃ i : Nat, i ≤ l.length ∧ c = .int .i64 i ∧ n = .int .i64 (findV (l.take i) (k1, k2) : Nat) ∧ Below w1.heap.size w1 wr) (fun _ c _ => l.length - (intOf c).toNat)
    case atStart => exact ⟨0, Nat.zero_le _, rfl, by simp [findV], H1B.out⟩
    case round =>
      obtain ⟨i, hil, rfl, rfl, hb⟩ := hrel
      have H2 : Hid (Below w1.heap.size w1 wr) := hb
      clear hb
      by_cases hlt : i < l.length
      · have HT := findV_take hlt (k1, k2)
        have hN := findV_le (l.take i) (k1, k2)
        have hN2 : (l.take i).length ≤ i := List.length_take_le _ _
        obtain ⟨ba, oa, rfl, la, x1, x2⟩ := (HV1.out.below H2.out).at i hlt
        have g1 : wr.cell? ⟨w.heap.size, 0, none⟩ = some (.int .i64 k1) := (H2.out.cell (p := ⟨w.heap.size, 0, none⟩) HG.out.1).trans HG.out.2.1
        have g2 : wr.cell? ⟨w.heap.size, 1, none⟩ = some (.int .i64 k2) := (H2.out.cell (p := ⟨w.heap.size, 1, none⟩) HG.out.1).trans HG.out.2.2
        have hgl : w.heap.size < wr.heap.size := Nat.lt_of_lt_of_le HG.out.1 H2.out.size
        generalize l.getD i (0, 0) = x at x1 x2 HT
        obtain ⟨xa, xb⟩ := x
        have hp := ltK_parts xa xb k1 k2
        generalize findV (l.take i) (k1, k2) = n at HT hN ⊢
        generalize ltK (xa, xb) (k1, k2) = q at HT hp
        rcases hp with ⟨rfl, hp1⟩ | ⟨rfl, rfl, hp2⟩ | ⟨rfl, rfl, hp2⟩ | ⟨rfl, hp1, hp2⟩
        all_goals
          go_wp2
          go_roundw
          case rel => exact ⟨i + 1, by omega, by go_num, by rw [HT.out]; simp, H2.out.alloc H2.out.size _⟩
          case measure => simp [intOf]; omega
      · have g1 : wr.cell? ⟨w.heap.size, 0, none⟩ = some (.int .i64 k1) := (H2.out.cell (p := ⟨w.heap.size, 0, none⟩) HG.out.1).trans HG.out.2.1
        have g2 : wr.cell? ⟨w.heap.size, 1, none⟩ = some (.int .i64 k2) := (H2.out.cell (p := ⟨w.heap.size, 1, none⟩) HG.out.1).trans HG.out.2.2
        rw [List.take_of_length_le (by omega)]
        obtain ⟨n, hn⟩ : ∃ n, findV l (k1, k2) = n := ⟨_, rfl⟩
        have HN : Hid (findV A (k1, k2) = n) := by
          show _ = _
          rw [← HA.out.1, findV_sort, hn]
        rw [hn]
        have hnl : n ≤ A.length := by have := findV_le A (k1, k2); rw [HN.out] at this; exact this
        clear hn
        obtain ⟨o, ho⟩ : ∃ o, decide ((k1, k2) ∈ A) = o := ⟨_, rfl⟩
        have HO : Hid (decide ((k1, k2) ∈ A) = o) := ho
        clear ho
        go_wp2_with fail
        refine (find_to A k1 k2 _ _ (HK1.out.below H2.out) HA.out.2.1 (by omega) n o HN.out HO.out).mono ?_
        rintro e w2 ⟨rfl, hb2⟩
        have H3 : Hid (Below w1.heap.size w1 w2) := H2.out.trans (hb2.mono H2.out.size)
        clear hb2 g1 g2 H2
        go_wp2
        go_loopw [14, 15] (fun r c wq => ∃ j : Nat, 1 ≤ j ∧ (j ≤ l.length ∨ j = 1) ∧ c = .int .i64 j ∧ r = .bool (risesTo l j) ∧ Below w1.heap.size w1 wq) (fun _ c _ => l.length - (intOf c).toNat)
        case atStart => exact ⟨1, Nat.le_refl _, .inr rfl, rfl, by simp [risesTo], H3.out⟩
        case round =>
          obtain ⟨j, hj1, hj2, rfl, rfl, hb⟩ := hrel
          have H4 : Hid (Below w1.heap.size w1 wr) := hb
          clear hb
          by_cases hjl : j < l.length
          · have HT := risesTo_next l j hj1
            obtain ⟨ba, oa, rfl, la, x1, x2⟩ := (HV1.out.below H4.out).at j hjl
            obtain ⟨bb, ob, hbb, _, y1, y2⟩ := (HV1.out.below H4.out).at (j - 1) (by omega)
            simp only [Option.some.injEq, Addr.mk.injEq, and_true] at hbb
            obtain ⟨rfl, rfl⟩ := hbb
            obtain ⟨E, hE⟩ : ∃ E : Nat, E = j - 1 := ⟨_, rfl⟩
            rw [← hE] at y1 y2 HT
            have e1 : (j : Int) - 1 = (E : Int) := by omega
            have e2 : (E : Int) < (l.length : Int) := by omega
            clear hE
            generalize l.getD j (0, 0) = x at x1 x2 HT
            generalize l.getD E (0, 0) = y at y1 y2 HT
            obtain ⟨xa, xb⟩ := x
            obtain ⟨ya, yb⟩ := y
            have hp := ltK_parts ya yb xa xb
            generalize risesTo l j = r at HT ⊢
            generalize ltK (ya, yb) (xa, xb) = q at HT hp
            cases r
            · clear hp
              go_wp2
              go_quiet (fail)
              go_wp2
              go_roundw
              case rel => exact ⟨j + 1, by omega, .inl (by omega), by go_num, by rw [HT.out]; rfl, below_drewN H4.out _⟩
              case measure => simp [intOf]; omega
            · rcases hp with ⟨rfl, hp1⟩ | ⟨rfl, rfl, hp2⟩ | ⟨rfl, rfl, hp2⟩ | ⟨rfl, hp1, hp2⟩
              all_goals
                go_wp2
                go_quiet (fail)
                go_wp2
                go_roundw
                case rel => exact ⟨j + 1, by omega, .inl (by omega), by go_num, by rw [HT.out]; rfl, below_drewN H4.out _⟩
                case measure => simp [intOf]; omega
          · rw [risesTo_end l j hjl hj1 hj2]
            obtain ⟨r, hr⟩ : ∃ r, risingV l = r := ⟨_, rfl⟩
            have HR : Hid (risingV l = r) := hr
            rw [hr]
            clear hr
            have hmem := mem_iff_findV (k := (k1, k2)) HA.out.2.1
            have HL : Hid (∀ s : WB wr.heap.size wr, IsKeys s.w (.slice lo l.length lc) l) := fun s => (HV1.out.below H4.out).below s.h
            have g1 : ∀ s : WB wr.heap.size wr, s.w.cell? ⟨w.heap.size, 0, none⟩ = some (.int .i64 k1) := fun s => (s.h.cell (p := ⟨w.heap.size, 0, none⟩) (Nat.lt_of_lt_of_le HG.out.1 H4.out.size)).trans ((H4.out.cell (p := ⟨w.heap.size, 0, none⟩) HG.out.1).trans HG.out.2.1)
            have g2 : ∀ s : WB wr.heap.size wr, s.w.cell? ⟨w.heap.size, 1, none⟩ = some (.int .i64 k2) := fun s => (s.h.cell (p := ⟨w.heap.size, 1, none⟩) (Nat.lt_of_lt_of_le HG.out.1 H4.out.size)).trans ((H4.out.cell (p := ⟨w.heap.size, 1, none⟩) HG.out.1).trans HG.out.2.2)
            have : Nonempty (WB wr.heap.size wr) := ⟨⟨wr, Below.refl _ _⟩⟩
            have hcase : (o = false ∧ decide (n < A.length) = false) ∨ (decide (n < A.length) = true ∧ (n : Int) < (A.length : Int) ∧ ∃ ya yb b off, ao = some ⟨b, off, none⟩ ∧ (∀ s : WB wr.heap.size wr, s.w.cell? ⟨b, off + n * 2, none⟩ = some (.int .i64 ya) ∧ s.w.cell? ⟨b, off + n * 2 + 1, none⟩ = some (.int .i64 yb)) ∧
                ((o = true ∧ (ya == k1) = true ∧ (yb == k2) = true) ∨ (o = false ∧ (ya == k1) = false) ∨ (o = false ∧ (ya == k1) = true ∧ (yb == k2) = false))) := by
              rw [HN.out] at hmem
              by_cases hnA : n < A.length
              · obtain ⟨b, off, rfl, hlt, c1, c2⟩ := (HK1.out.below H4.out).at n hnA
                refine .inr ⟨decide_eq_true hnA, by omega, (A.getD n (0, 0)).1, (A.getD n (0, 0)).2, b, off, rfl, fun s => ⟨(s.h.cell (p := ⟨b, off + n * 2, none⟩) hlt).trans c1, (s.h.cell (p := ⟨b, off + n * 2 + 1, none⟩) hlt).trans c2⟩, ?_⟩
                have ho : o = decide (A.getD n (0, 0) = (k1, k2)) := by
                  rw [← HO.out, decide_eq_decide, hmem, kgetD n hnA]
                  exact ⟨fun ⟨_, e⟩ => e, fun e => ⟨hnA, e⟩⟩
                rw [ho]
                exact eq_parts _ _ k1 k2
              · refine .inl ⟨?_, decide_eq_false hnA⟩
                rw [← HO.out, decide_eq_false_iff_not, hmem]
                exact fun ⟨h, _⟩ => hnA h
            clear hmem
            rcases hcase with ⟨rfl, d1⟩ | ⟨d1, d2, ya, yb, b, off, rfl, hcell, hcase⟩
            · cases r
              all_goals
                go_wp2
                refine wp_region_below wr.heap.size wr (by kernel_rfl) (by kernel_rfl) (Below.refl _ _) ?_
                repeat (go_big_quiet_step (first
                  | (go_at_call 15; exact calls_below (Nat.le_refl _) (rising_to l _ _ (HL.out _) (by omega) _ HR.out))
                  | (go_at_call 8; exact calls_below (Nat.le_refl _) (awake_any _))))
                refine wpQuiet_nil ?_
                rintro _ ⟨s, rfl⟩
                have HE : Hid (Below w.heap.size w s.w) := (HB1.out.trans (H4.out.mono HB1.out.size)).trans (s.h.mono (Nat.le_trans HB1.out.size H4.out.size))
                go_wp2
                go_ret
                exact ⟨rfl, HE.out⟩
            · have c1 := fun s => (hcell s).1
              have c2 := fun s => (hcell s).2
              clear hcell
              rcases hcase with ⟨rfl, q1, q2⟩ | ⟨rfl, q1⟩ | ⟨rfl, q1, q2⟩
              all_goals
                cases r
                all_goals
                  go_wp2
                  refine wp_region_below wr.heap.size wr (by kernel_rfl) (by kernel_rfl) (Below.refl _ _) ?_
                  repeat (go_big_quiet_step (first
                    | (go_at_call 15; exact calls_below (Nat.le_refl _) (rising_to l _ _ (HL.out _) (by omega) _ HR.out))
                    | (go_at_call 8; exact calls_below (Nat.le_refl _) (awake_any _))))
                  refine wpQuiet_nil ?_
                  rintro _ ⟨s, rfl⟩
                  have HE : Hid (Below w.heap.size w s.w) := (HB1.out.trans (H4.out.mono HB1.out.size)).trans (s.h.mono (Nat.le_trans HB1.out.size H4.out.size))
                  go_wp2
                  go_ret
                  exact ⟨rfl, HE.out⟩

set_option maxRecDepth 100000 in
theorem lifted_OrderForms (os : Os) (started : os.Started) (H : Type) (enc : TypeId × Value → H) :
    ReturnsInHanded {} Try.checked os 3 .any (Rows.orderFormsSpec.pre6 enc Try.prog Try.f3 Rows.orderFormsRow.domain false) (Rows.orderFormsSpec.post enc Try.prog Try.f3 false true false false) := by
  refine returnsInHanded_of_change_sized (C := Try.checked) own started (by kernel_rfl) Try.func3
    (ChangeSpec.witness6 (enc := enc) (C := Try.checked) false ⟨#[], #[.slice none 0 0, .slice none 0 0, .agg #[.int .i64 0, .int .i64 0]], []⟩ 8 (by kernel_rfl) (by kernel_rfl) (by kernel_rfl) (by kernel_rfl)) ?_
  intro W base args ds gs before hval0 hW hcnd hsz0 hholds
  have hval : ∀ (j : Nat) t v, Try.f3.params[j]? = some t → args[j]? = some v → Value.okWide Try.prog W .any base t v := hval0
  have hW' := hW
  obtain ⟨p, q, hA0, hV, rfl, hfz, hnd⟩ := hW
  have hA : DataW.TrodAll enc Try.prog W 0 (fun _ => true) true Try.f3.params.toList args.toList ds p := hA0
  have hsz : (DataW.weightsEach Try.prog (Try.f3.params.toList ++ Rows.orderFormsSpec.plain.varTypes Try.prog) (ds ++ gs)).all (· ≤ reachBytes) = true := hsz0
  rw [Try.params3] at hA hval hsz
  obtain ⟨v0, vs0, d0, ds0, p0, q0, hargs, rfl, rfl, h0, r0⟩ := trodAll_cons hA
  obtain ⟨v1, vs1, d1, ds1, p1, q1, rfl, rfl, rfl, h1, r1⟩ := trodAll_cons r0
  obtain ⟨v2, vs2, d2, ds2, p2, q2, rfl, rfl, rfl, h2, r2⟩ := trodAll_cons r1
  obtain ⟨rfl, rfl, rfl⟩ := trodAll_nil r2
  obtain rfl : args = #[v0, v1, v2] := by cases args; simp_all
  obtain ⟨rfl, rfl⟩ := trodVars_none hV
  have k0 := h0
  have lt0 : ∀ x ∈ p0, x.block < W.heap.size := by obtain ⟨m, hm⟩ := k0; exact DataW.trod_lt m _ _ _ hm
  obtain ⟨z0, w0, y0⟩ := open_keys Try.underlying22 Try.underlying24 (by kernel_rfl) rfl rfl (by kernel_rfl) (by kernel_rfl) Try.underlying3 Try.underlying3 (hval 0 22 v0 rfl rfl) h0
  have x0 : z0.length ≤ 8796093022208 := by
    rcases y0 with rfl | ⟨el, sp, rfl, hel⟩
    · simp
    · have hs := sized_slice hsz (j := 0) (t := 22) (e := 24) rfl rfl Try.underlying22
      rw [show Try.prog.bytesOf 24 = 16 by kernel_rfl] at hs
      simp only [reachBytes] at hs
      omega
  have k1 := h1
  have lt1 : ∀ x ∈ p1, x.block < W.heap.size := by obtain ⟨m, hm⟩ := k1; exact DataW.trod_lt m _ _ _ hm
  obtain ⟨z1, w1, y1⟩ := open_keys Try.underlying22 Try.underlying24 (by kernel_rfl) rfl rfl (by kernel_rfl) (by kernel_rfl) Try.underlying3 Try.underlying3 (hval 1 22 v1 rfl rfl) h1
  have x1 : z1.length ≤ 8796093022208 := by
    rcases y1 with rfl | ⟨el, sp, rfl, hel⟩
    · simp
    · have hs := sized_slice hsz (j := 1) (t := 22) (e := 24) rfl rfl Try.underlying22
      rw [show Try.prog.bytesOf 24 = 16 by kernel_rfl] at hs
      simp only [reachBytes] at hs
      omega
  have k2 := h2
  have lt2 : ∀ x ∈ p2, x.block < W.heap.size := by obtain ⟨m, hm⟩ := k2; exact DataW.trod_lt m _ _ _ hm
  obtain ⟨z2, rfl, w2, _⟩ := open_key Try.underlying24 (by kernel_rfl) (by kernel_rfl) Try.underlying3 Try.underlying3 (hval 2 24 v2 rfl rfl) h2
  clear hA0 hval0
  refine (walk_OrderForms _ z0 (w0 (by omega)) x0 _ z1 (w1 (by omega)) x1 z2 w2 W).mono fun e W' ⟨he, bel⟩ => ?_
  subst he
  exact ⟨_, rfl, _, _, _, [], _, [], hW', trodAll_mk1 (shut_bool Try.underlying4 _), (trodAll_cons_mk (Below.trod laidOut (by kernel_rfl) (of_decide_eq_true (by kernel_rfl)) k0 bel lt0) (trodAll_cons_mk (Below.trod laidOut (by kernel_rfl) (of_decide_eq_true (by kernel_rfl)) k1 bel lt1) (trodAll_cons_mk (Below.trod laidOut (by kernel_rfl) (of_decide_eq_true (by kernel_rfl)) k2 bel lt2) trodAll_mk0))), rfl, bel.frame _, fun h => by cases h⟩

theorem over_OrderForms : Rows.orderFormsRow.holds Try.pinned (OpenSpec.ofChange Rows.orderFormsSpec) :=
  OpenClaim.holds_of_wide 3 Try.f3 rfl rfl rfl rfl rfl rfl rfl ⟨rfl, rfl, rfl, rfl, rfl⟩ rfl rfl rfl rfl rfl (by kernel_rfl) Try.func3 (by kernel_rfl)
    (of_decide_eq_true (by kernel_rfl)) (by unfold Func.isWrapper; first | (rw [if_pos (by decide +kernel)]; kernel_rfl) | (rw [if_neg (by decide +kernel)]; exact ⟨rfl, rfl⟩))
    (fun os started H enc _ => lifted_OrderForms os started H enc)

/-- The statement. -/
theorem orderForms_holds : Rows.OrderFormsSaid := over_OrderForms
#print axioms orderForms_holds

end Go.Proofs.Ytciolgnmdlgilaa

/-
  The contract of the reference's Far; the statement's own bools.
-/
import Derived.Test.YtjknflpclniiiaaDoorSpread1
import Derived.Test.YtjknflpclniiiaaDoorRefCompare
import Derived.WalkSmall
import Derived.BigQuiet
namespace Go.Proofs.YtjknflpclniiiaaDoor
open Go.RowKit

/-- The numbers of one rate: what is reckoned stays within an int. -/
theorem far_nums {n s q r f : Int} (hn : 0 ≤ n ∧ n ≤ 64) (hs : 0 ≤ s ∧ s ≤ 640000) (hq : 0 ≤ q ∧ q ≤ 6400000000) (hc : s * s ≤ n * q) (hr : 0 ≤ r ∧ r ≤ 10000) (hf : 1 ≤ f ∧ f ≤ 10000) :
    ∃ P d, IntKind.i64.wrap (n * r) = P ∧ IntKind.i64.wrap (s - P) = d ∧ ((d ≤ 0 ∧ farV s q n r f = false) ∨ (0 < d ∧ ∃ D F N S V, IntKind.i64.wrap (d * d) = D ∧ IntKind.i64.wrap (f * f) = F ∧ IntKind.i64.wrap (n * q) = N ∧ IntKind.i64.wrap (s * s) = S ∧ IntKind.i64.wrap (N - S) = V ∧
      (D ≤ 9223372036854775807 ∧ F ≤ 9223372036854775807 ∧ V ≤ 9223372036854775807) ∧ farV s q n r f = decide (0 < cmpV (oz D * oz 1000000) (oz F * oz V)))) := by
  obtain ⟨P, hP⟩ : ∃ P, n * r = P := ⟨_, rfl⟩
  have hPb : 0 ≤ P ∧ P ≤ 640000 := by
    rw [← hP]
    exact ⟨Int.mul_nonneg hn.1 hr.1, Int.le_trans (Int.mul_le_mul hn.2 hr.2 hr.1 (by omega)) (by omega)⟩
  obtain ⟨d, hd⟩ : ∃ d, s - P = d := ⟨_, rfl⟩
  refine ⟨P, d, by rw [hP]; exact wrap_at (by omega) (by omega), by rw [hd]; exact wrap_at (by omega) (by omega), ?_⟩
  by_cases h0 : d ≤ 0
  · refine .inl ⟨h0, ?_⟩
    unfold farV
    rw [hP, hd, decide_eq_false (by omega)]
    rfl
  · obtain ⟨D, hD⟩ : ∃ D, d * d = D := ⟨_, rfl⟩
    have hDb : 0 ≤ D ∧ D ≤ 409600000000 := by
      rw [← hD]
      exact ⟨sq_nonneg d, Int.le_trans (Int.mul_le_mul (b := d) (c := 640000) (d := 640000) (by omega) (by omega) (by omega) (by omega)) (by omega)⟩
    obtain ⟨F, hF⟩ : ∃ F, f * f = F := ⟨_, rfl⟩
    have hFb : 0 ≤ F ∧ F ≤ 100000000 := by rw [← hF]; exact sq_bd (by omega) hf.2
    obtain ⟨N, hN⟩ : ∃ N, n * q = N := ⟨_, rfl⟩
    have hNb : 0 ≤ N ∧ N ≤ 409600000000 := by
      rw [← hN]
      exact ⟨Int.mul_nonneg hn.1 hq.1, Int.le_trans (Int.mul_le_mul hn.2 hq.2 hq.1 (by omega)) (by omega)⟩
    obtain ⟨S, hS⟩ : ∃ S, s * s = S := ⟨_, rfl⟩
    have hSb : 0 ≤ S := by rw [← hS]; exact sq_nonneg s
    rw [hN, hS] at hc
    obtain ⟨V, hV⟩ : ∃ V, N - S = V := ⟨_, rfl⟩
    refine .inr ⟨by omega, D, F, N, S, V, by rw [hD]; exact wrap_at (by omega) (by omega), by rw [hF]; exact wrap_at (by omega) (by omega), by rw [hN]; exact wrap_at (by omega) (by omega), by rw [hS]; exact wrap_at (by omega) (by omega), by rw [hV]; exact wrap_at (by omega) (by omega), by omega, ?_⟩
    rw [oz_pos (n := D) (by omega), oz_pos (n := 1000000) (by omega), oz_pos (n := F) (by omega), oz_pos (n := V) (by omega)]
    unfold farV
    rw [hP, hd, decide_eq_true (show 0 < d by omega), hF, hN, hS, hV, hD, Bool.true_and]
    unfold cmpV
    refine decide_eq_decide.2 ?_
    generalize F * V = x
    generalize D * 1000000 = y
    split
    · omega
    · split <;> omega
theorem one_bool (w : World) (x : Bool) (t g : Nat) (hg : g = w.heap.size) : IsRow 1 (w.alloc (.cells #[.bool x] t)) (.slice (some ⟨g, 0, none⟩) 1 1) 1 [.bool x] := one_val w _ t g hg

set_option maxRecDepth 100000 in
set_option maxHeartbeats 4000000 in
theorem rFar_any (l : List Int) (f : Int) (v : Value) (w : World) (hv : IsInts w v l) (hlen : l.length ≤ 100) :
    Calls Tryd.prog 10 #[v, .int .i64 f] w fun e w' => ∃ v', e = .returned v' ∧ IsBools w' v' (farA l f) ∧ Below w.heap.size w w' := by
  obtain ⟨ao, cap, rfl⟩ := hv.shape
  have HL : Hid (IsInts w (.slice ao l.length cap) l) := hv
  have HLen : Hid (l.length ≤ 100) := hlen
  have HBad : Hid (∀ k, k < l.length → l.getD k 0 < 0 ∨ 10000 < l.getD k 0 → farA l f = []) := fun k hk h => farA_no (mayFarK_bad k hk h)
  obtain ⟨i0, hi, hz0, hz1, hz2⟩ := info_parts infoBool
  clear hv
  go_enter Tryd.func10, Tryd.ntmps10
  go_wp2
  clear hlen
  go_loopw [5, 6, 16] (fun s q i wr => ∃ k : Nat, k ≤ l.length ∧ i = .int .i64 k ∧ s = .int .i64 (sumL (l.take k)) ∧ q = .int .i64 (sqL (l.take k)) ∧ (∀ j, j < k → 0 ≤ l.getD j 0 ∧ l.getD j 0 ≤ 10000) ∧ Below w.heap.size w wr) (fun _ _ i _ => l.length - (intOf i).toNat)
  case atStart => exact ⟨0, Nat.zero_le _, rfl, rfl, rfl, by omega, Below.refl _ _⟩
  case round =>
    obtain ⟨k, hk, rfl, rfl, rfl, hs, hb⟩ := hrel
    have HS : Hid (∀ j, j < k → 0 ≤ l.getD j 0 ∧ l.getD j 0 ≤ 10000) := hs
    have HB : Hid (Below w.heap.size w wr) := hb
    have hlen := HLen.out
    clear hs hb
    by_cases hlt : k < l.length
    · obtain ⟨b, off, rfl, hbl, g⟩ := (HL.out.below HB.out).hit k hlt
      have HE : Hid (l.getD k 0 < 0 ∨ 10000 < l.getD k 0 → farA l f = []) := HBad.out k hlt
      have HN : Hid (0 ≤ l.getD k 0 ∧ l.getD k 0 ≤ 10000 → ∀ j, j < k + 1 → 0 ≤ l.getD j 0 ∧ l.getD j 0 ≤ 10000) := fun h j hj => by
        by_cases e : j = k
        · subst e; exact h
        · exact HS.out j (by omega)
      have hok : okRates (l.take k) := fun r hr => by
        obtain ⟨j, hj, rfl⟩ := mem_getD hr 0
        rw [List.length_take] at hj
        have e : (l.take k).getD j 0 = l.getD j 0 := by
          rw [List.getD_eq_getElem?_getD, List.getD_eq_getElem?_getD, List.getElem?_take, if_pos (by omega)]
        rw [e]; exact HS.out j (by omega)
      have h2 := sumL_bd hok
      have h3 := sqL_bd hok
      have h4 : ((l.take k).length : Int) ≤ 100 := by rw [List.length_take]; omega
      have n1 : Hid (sumL (l.take (k + 1)) = sumL (l.take k) + l.getD k 0) := sumL_next l k hlt
      have n2 : Hid (sqL (l.take (k + 1)) = sqL (l.take k) + l.getD k 0 * l.getD k 0) := sqL_next l k hlt
      have h5 : 0 ≤ sumL (l.take k) ∧ sumL (l.take k) ≤ 1000000 := by omega
      have h6 : 0 ≤ sqL (l.take k) ∧ sqL (l.take k) ≤ 10000000000 := by omega
      clear h2 h3 h4 hok HS
      generalize sumL (l.take k) = S at *
      generalize sqL (l.take k) = Q at *
      generalize l.getD k 0 = x at *
      by_cases hx1 : x < 0
      · go_wp2
        go_ret
        exact ⟨_, rfl, by rw [HE.out (.inl hx1)]; exact isBools_nil _, HB.out⟩
      · by_cases hx2 : 10000 < x
        · go_wp2
          go_ret
          exact ⟨_, rfl, by rw [HE.out (.inr hx2)]; exact isBools_nil _, HB.out⟩
        · have hsq := sq_bd (r := x) (by omega) (by omega)
          have hw1 : IntKind.i64.wrap (x * x) = x * x := wrap_at (by omega) (by omega)
          have hw2 : IntKind.i64.wrap (Q + x * x) = Q + x * x := wrap_at (by omega) (by omega)
          have hw3 : IntKind.i64.wrap (S + x) = S + x := wrap_at (by omega) (by omega)
          have HX : Hid (0 ≤ x ∧ x ≤ 10000) := ⟨by omega, by omega⟩
          clear hsq h5 h6
          go_wp2
          go_roundw
          case rel => exact ⟨k + 1, by omega, by go_num, by rw [n1.out], by rw [n2.out], HN.out HX.out, HB.out⟩
          case measure => simp [intOf]; omega
    · obtain rfl : k = l.length := by omega
      rw [List.take_of_length_le (Nat.le_refl _)]
      have hok := okRates_of HS.out
      clear HBad HS
      by_cases c1 : 64 < l.length ∨ f < 1 ∨ 10000 < f
      · have HE : Hid (farA l f = []) := farA_no (mayFarK_off c1)
        clear hok
        generalize sumL l = S at *
        generalize sqL l = Q at *
        by_cases d1 : 64 < l.length
        · have d1' : (64 : Int) < (l.length : Int) := by omega
          clear c1 d1
          go_wp2
          go_ret
          exact ⟨_, rfl, by rw [HE.out]; exact isBools_nil _, HB.out⟩
        · have d1' : ¬ (64 : Int) < (l.length : Int) := by omega
          by_cases d2 : f < 1
          · clear c1 d1
            go_wp2
            go_ret
            exact ⟨_, rfl, by rw [HE.out]; exact isBools_nil _, HB.out⟩
          · have d3 : 10000 < f := by omega
            clear c1 d1
            go_wp2
            go_ret
            exact ⟨_, rfl, by rw [HE.out]; exact isBools_nil _, HB.out⟩
      · have d1' : ¬ (64 : Int) < (l.length : Int) := by omega
        have d2 : ¬ f < 1 := by omega
        have d3 : ¬ 10000 < f := by omega
        have HE : Hid (farA l f = farK l f) := farA_yes ((mayFarK_iff l f).2 ⟨by omega, by omega, by omega, hok⟩)
        have HNx : Hid (∀ k, k < l.length → ((farK l f).take (k + 1)).map Value.bool = ((farK l f).take k).map Value.bool ++ [.bool (farV (sumL l) (sqL l) l.length (l.getD k 0) f)]) := fun k hk => by rw [farK_take l f k hk]; simp
        have HNm : Hid (∀ k, k < l.length → _) := fun k hk => far_nums (n := l.length) (s := sumL l) (q := sqL l) (r := l.getD k 0) (f := f) (by omega) (by have := sumL_bd hok; omega) (by have := sqL_bd hok; omega) (cauchy l) (hok.at k hk) (by omega)
        have HFl : Hid ((farK l f).length = l.length) := farK_length l f
        clear c1 hok
        generalize sumL l = S at *
        generalize sqL l = Q at *
        generalize farK l f = R at *
        go_wp2
        clear d1' d2 d3
        go_loopw [10, 49] (fun o i wr => ∃ k : Nat, k ≤ l.length ∧ i = .int .i64 k ∧ wr.ownsRow w.heap.size 4 1 o k ((R.take k).map Value.bool) ∧ Below w.heap.size w wr) (fun _ i _ => l.length - (intOf i).toNat)
        case atStart => exact ⟨0, Nat.zero_le _, rfl, World.ownsRow_nil _ _ _ _, HB.out⟩
        case round =>
          obtain ⟨k, hk, rfl, ho, hb⟩ := hrel
          have HO : Hid (wr.ownsRow w.heap.size 4 1 u10 k ((R.take k).map Value.bool)) := ho
          have HBr : Hid (Below w.heap.size w wr) := hb
          clear ho hb HB
          have hlen := HLen.out
          by_cases hlt : k < l.length
          · obtain ⟨b, off, rfl, hbl, g⟩ := (HL.out.below HBr.out).hit k hlt
            have hNx : Hid _ := HNx.out k hlt
            obtain ⟨P, d, w1, w2, hcase⟩ := HNm.out k hlt
            clear HNx HNm HE
            generalize farV S Q l.length (l.getD k 0) f = y at *
            generalize l.getD k 0 = x at *
            rcases hcase with ⟨h0, rfl⟩ | ⟨h0, D, F, N, T, V, w3, w4, w5, w6, w7, ⟨b1, b2, b3⟩, rfl⟩
            · have h0' : ¬ 0 < d := by omega
              clear h0
              go_wp2_with (at_builtin; refine wpList_append_row rfl (.tmp 58) (.tmp 78) 28 rfl w.heap.size 4 i0 _ 1 1 Tryd.underlying28 hi hz0 hz1 hz2 rfl (by decide) _ k _ rfl (HO.out.alloc _) _ 1 [.bool false] rfl (one_bool _ _ _ _ rfl) (by simp [Value.oneCell']) (by unfold maxLen; omega) (by omega) (by have := HBr.out.size; simp; omega) ?_)
              intro v' w2 hown hgrow _
              have HO2 : Hid (w2.ownsRow w.heap.size 4 1 v' (k + 1) ((R.take (k + 1)).map Value.bool)) := by
                show World.ownsRow _ _ _ _ _ _ _
                rw [hNx.out, List.map_take]; exact hown
              have HB2 : Hid (Below w.heap.size w w2) := (HBr.out.alloc HBr.out.size _).grown hgrow (by have := HBr.out.size; simp; omega) (own_base HO.out)
              clear hown hgrow
              go_wp2
              go_roundw
              case rel => exact ⟨k + 1, by omega, by go_num, HO2.out, HB2.out⟩
              case measure => simp [intOf]; omega
            · have HC : Hid (∀ W : World, Calls Tryd.prog 23 #[.int .i64 D, .int .i64 1000000, .int .i64 F, .int .i64 V] W fun e w' => e = .returned (.int .i64 (cmpV (oz D * oz 1000000) (oz F * oz V))) ∧ Below W.heap.size W w') := fun W => (rCompare_any D 1000000 F V W b1 (by omega) b2 b3).mono fun e w' h => ⟨h.1, by rw [h.2]; exact Below.refl _ _⟩
              clear b1 b2 b3
              generalize cmpV (oz D * oz 1000000) (oz F * oz V) = c at *
              go_wp2_with fail
              refine (HC.out _).mono ?_
              rintro e w5 ⟨rfl, hb5⟩
              have HO5 : Hid (w5.ownsRow w.heap.size 4 1 u10 k ((R.take k).map Value.bool)) := own_below HO.out hb5
              have HB5 : Hid (Below w.heap.size w w5) := HBr.out.trans (hb5.mono HBr.out.size)
              clear hb5 HC HO HBr g hbl w1 w2 w3 w4 w6 w7
              go_wp2_with (at_builtin; refine wpList_append_row rfl (.tmp 58) (.tmp 78) 28 rfl w.heap.size 4 i0 _ 1 1 Tryd.underlying28 hi hz0 hz1 hz2 rfl (by decide) _ k _ rfl (HO5.out.alloc _) _ 1 [.bool (decide (0 < c))] rfl (one_bool _ _ _ _ rfl) (by simp [Value.oneCell']) (by unfold maxLen; omega) (by omega) (by have := HB5.out.size; simp; omega) ?_)
              intro v' w2 hown hgrow _
              have HO2 : Hid (w2.ownsRow w.heap.size 4 1 v' (k + 1) ((R.take (k + 1)).map Value.bool)) := by
                show World.ownsRow _ _ _ _ _ _ _
                rw [hNx.out, List.map_take]; exact hown
              have HB2 : Hid (Below w.heap.size w w2) := (HB5.out.alloc HB5.out.size _).grown hgrow (by have := HB5.out.size; simp; omega) (own_base HO5.out)
              clear hown hgrow
              go_wp2
              go_roundw
              case rel => exact ⟨k + 1, by omega, by go_num, HO2.out, HB2.out⟩
              case measure => simp [intOf]; omega
          · obtain rfl : k = l.length := by omega
            go_wp2
            go_ret
            have hh := HO.out
            have e : R.take l.length = R := List.take_of_length_le (by rw [HFl.out]; exact Nat.le_refl _)
            rw [e] at hh
            refine ⟨_, rfl, ?_, HBr.out⟩
            rw [HE.out]
            exact own_bools hh HFl.out.symm

set_option maxRecDepth 100000 in
set_option maxHeartbeats 2000000 in
/-- bools: are they the same? -/
theorem bools_any (xs ys : List Bool) (v u : Value) (w : World) (hv : IsBools w v xs) (hu : IsBools w u ys) (hx : xs.length ≤ 1000000) :
    Calls Tryd.prog 8 #[v, u] w fun e w' => e = .returned (.bool (decide (xs = ys))) ∧ Below w.heap.size w w' := by
  obtain ⟨ao, c1, rfl⟩ := hv.shaped
  obtain ⟨bo, c2, rfl⟩ := hu.shaped
  by_cases hl : xs.length = ys.length
  · have HL : Hid (xs.length = ys.length) := hl
    have HLen : Hid (xs.length ≤ 1000000) := hx
    have HV : Hid (IsBools w (.slice ao xs.length c1) xs) := hv
    have HU : Hid (IsBools w (.slice bo ys.length c2) ys) := hu
    clear hv hu
    go_enter Tryd.func8, Tryd.ntmps8
    go_wp2
    clear hl hx
    go_loopw [13] (fun i wr => ∃ k : Nat, k ≤ xs.length ∧ i = .int .i64 k ∧ xs.take k = ys.take k ∧ Below w.heap.size w wr) (fun i _ => xs.length - (intOf i).toNat)
    case atStart => exact ⟨0, Nat.zero_le _, rfl, by simp, Below.refl _ _⟩
    case round =>
      obtain ⟨k, hk, rfl, ht, hb⟩ := hrel
      have HB : Hid (Below w.heap.size w wr) := hb
      have HT : Hid (xs.take k = ys.take k) := ht
      have hlen := HLen.out
      clear ht hb
      by_cases hlt : k < xs.length
      · have hlj : k < ys.length := by have := HL.out; omega
        obtain ⟨b1, o1, rfl, hb1, g1⟩ := (HV.out.below HB.out).at k hlt
        obtain ⟨b2, o2, rfl, hb2, g2⟩ := (HU.out.below HB.out).at k hlj
        have HN : Hid (xs.getD k false = ys.getD k false → xs.take (k + 1) = ys.take (k + 1)) := fun h => by rw [take_next xs k hlt false, take_next ys k hlj false, HT.out, h]
        have HX : Hid (xs.getD k false ≠ ys.getD k false → decide (xs = ys) = false) := fun h => decide_eq_false fun e => h (by rw [e])
        generalize xs.getD k false = x at *
        generalize ys.getD k false = y at *
        rcases x with _ | _ <;> rcases y with _ | _
        · go_wp2
          go_quiet (fail)
          go_wp2
          go_roundw
          case rel => exact ⟨k + 1, by omega, by go_num, HN.out (by first | rfl | trivial), below_drewN HB.out _⟩
          case measure => simp [intOf]; omega
        · have HE : Hid (decide (xs = ys) = false) := HX.out (by simp)
          clear HN HX
          go_wp2
          go_quiet (fail)
          go_wp2
          go_ret
          exact ⟨ret_bool HE.out.symm, below_drewN HB.out _⟩
        · have HE : Hid (decide (xs = ys) = false) := HX.out (by simp)
          clear HN HX
          go_wp2
          go_quiet (fail)
          go_wp2
          go_ret
          exact ⟨ret_bool HE.out.symm, below_drewN HB.out _⟩
        · go_wp2
          go_quiet (fail)
          go_wp2
          go_roundw
          case rel => exact ⟨k + 1, by omega, by go_num, HN.out (by first | rfl | trivial), below_drewN HB.out _⟩
          case measure => simp [intOf]; omega
      · have hl := HL.out
        have HE : Hid (decide (xs = ys) = true) := decide_eq_true (by have ht := HT.out; rwa [List.take_of_length_le (by omega), List.take_of_length_le (by omega)] at ht)
        have hlj : ¬ k < ys.length := by omega
        clear hl
        go_wp2
        go_ret
        exact ⟨ret_bool HE.out.symm, HB.out⟩
  · have e : decide (xs = ys) = false := decide_eq_false fun h => hl (by rw [h])
    rw [e]
    clear e hv hu
    go_enter Tryd.func8, Tryd.ntmps8
    go_wp2
    go_ret
    exact ⟨rfl, Below.refl _ _⟩

end Go.Proofs.YtjknflpclniiiaaDoor

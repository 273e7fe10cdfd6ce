/-
  The contracts of package spread: mayFar, sumUp, farBelow, Far.
-/
import Derived.Test.YtjknflpclniiiaaDoorRatedKit
import Derived.Test.YtjknflpclniiiaaDoorBoolChain
import Derived.Test.YtjknflpclniiiaaDoorRatio2
namespace Go.Proofs.YtjknflpclniiiaaDoor
open Go.RowKit

theorem isBools_nil (w : World) : IsBools w (.slice none 0 0) [] := ⟨rfl, ⟨by unfold maxLen; simp, by unfold roomy maxLen; omega⟩, .inl ⟨rfl, _, _, rfl, fun _ => rfl⟩⟩
theorem IsInts.hit {w : World} {ao : Option Addr} {n cap : Nat} {zs : List Int} (h : IsInts w (.slice ao n cap) zs) (i : Nat) (hi : i < zs.length) : ∃ b off, ao = some ⟨b, off, none⟩ ∧ b < w.heap.size ∧ w.cell? ⟨b, off + i, none⟩ = some (.int .i64 (zs.getD i 0)) := by
  rcases h.2.2 with ⟨h0, _⟩ | ⟨_, b, off, c, e, hlt, hc⟩
  · rw [h0] at hi; cases hi
  · simp only [Value.slice.injEq] at e
    exact ⟨b, off, e.1, hlt, hc i hi⟩
theorem wrap_at {x : Int} (h0 : -9223372036854775808 ≤ x) (h1 : x ≤ 9223372036854775807) : IntKind.i64.wrap x = x := by rw [IntKind.wrap_i64]; omega
theorem mayFarK_bad {l : List Int} {f : Int} (k : Nat) (hk : k < l.length) (h : l.getD k 0 < 0 ∨ 10000 < l.getD k 0) : mayFarK l f = false := by
  rw [Bool.eq_false_iff]
  intro h2
  have := ((mayFarK_iff l f).1 h2).2.2.2.at k hk
  omega
theorem mayFarK_off {l : List Int} {f : Int} (h : 64 < l.length ∨ f < 1 ∨ 10000 < f) : mayFarK l f = false := by
  rw [Bool.eq_false_iff]
  intro h2
  have := (mayFarK_iff l f).1 h2
  omega
theorem okRates_of {l : List Int} (h : ∀ j, j < l.length → 0 ≤ l.getD j 0 ∧ l.getD j 0 ≤ 10000) : okRates l := by
  intro r hr
  obtain ⟨i, hi, rfl⟩ := mem_getD hr 0
  exact h i hi

set_option maxRecDepth 100000 in
set_option maxHeartbeats 2000000 in
theorem mayFar_any (l : List Int) (f : Int) (v : Value) (w : World) (hv : IsInts w v l) :
    Calls Tryd.prog 20 #[v, .int .i64 f] w fun e w' => e = .returned (.bool (mayFarK l f)) ∧ Below w.heap.size w w' := by
  obtain ⟨ao, cap, rfl⟩ := hv.shape
  have HL : Hid (IsInts w (.slice ao l.length cap) l) := hv
  have hlen := hv.2.1
  clear hv
  by_cases h1 : 64 < l.length
  · have h1' : (64 : Int) < (l.length : Int) := by omega
    rw [mayFarK_off (.inl h1)]
    clear h1
    go_enter Tryd.func20, Tryd.ntmps20
    go_wp2
    go_ret
    exact ⟨rfl, Below.refl _ _⟩
  have h1' : ¬ (64 : Int) < (l.length : Int) := by omega
  by_cases h2 : f < 1
  · rw [mayFarK_off (.inr (.inl h2))]
    clear h1
    go_enter Tryd.func20, Tryd.ntmps20
    go_wp2
    go_ret
    exact ⟨rfl, Below.refl _ _⟩
  by_cases h3 : 10000 < f
  · rw [mayFarK_off (.inr (.inr h3))]
    clear h1
    go_enter Tryd.func20, Tryd.ntmps20
    go_wp2
    go_ret
    exact ⟨rfl, Below.refl _ _⟩
  have HBad : Hid (∀ k, k < l.length → l.getD k 0 < 0 ∨ 10000 < l.getD k 0 → mayFarK l f = false) := fun k hk h => mayFarK_bad k hk h
  have HGood : Hid ((∀ j, j < l.length → 0 ≤ l.getD j 0 ∧ l.getD j 0 ≤ 10000) → mayFarK l f = true) := fun h => (mayFarK_iff l f).2 ⟨by omega, by omega, by omega, okRates_of h⟩
  have HLen : Hid (l.length ≤ 64) := by show _ ≤ _; omega
  clear h1
  go_enter Tryd.func20, Tryd.ntmps20
  go_wp2
  clear h1' h2 h3 hlen
  go_loopw [20] (fun i wr => ∃ k : Nat, k ≤ l.length ∧ i = .int .i64 k ∧ (∀ j, j < k → 0 ≤ l.getD j 0 ∧ l.getD j 0 ≤ 10000) ∧ Below w.heap.size w wr) (fun i _ => l.length - (intOf i).toNat)
  case atStart => exact ⟨0, Nat.zero_le _, rfl, by omega, Below.refl _ _⟩
  case round =>
    obtain ⟨k, hk, rfl, hs, hb⟩ := hrel
    have HS : Hid (∀ j, j < k → 0 ≤ l.getD j 0 ∧ l.getD j 0 ≤ 10000) := hs
    have HB : Hid (Below w.heap.size w wr) := hb
    clear hs hb
    have hlen := HLen.out
    by_cases hlt : k < l.length
    · obtain ⟨b, off, rfl, hbl, g⟩ := (HL.out.below HB.out).hit k hlt
      have HX : Hid (l.getD k 0 < 0 ∨ 10000 < l.getD k 0 → mayFarK l f = false) := HBad.out k hlt
      have HN : Hid (0 ≤ l.getD k 0 ∧ l.getD k 0 ≤ 10000 → ∀ j, j < k + 1 → 0 ≤ l.getD j 0 ∧ l.getD j 0 ≤ 10000) := fun h j hj => by
        by_cases e : j = k
        · subst e; exact h
        · exact HS.out j (by omega)
      generalize l.getD k 0 = x at g HX HN
      by_cases hx1 : x < 0
      · go_wp2
        go_ret
        exact ⟨ret_bool (HX.out (.inl hx1)).symm, HB.out⟩
      · by_cases hx2 : 10000 < x
        · go_wp2
          go_ret
          exact ⟨ret_bool (HX.out (.inr hx2)).symm, HB.out⟩
        · go_wp2
          go_roundw
          case rel => exact ⟨k + 1, by omega, by go_num, HN.out ⟨by omega, by omega⟩, HB.out⟩
          case measure => simp [intOf]; omega
    · go_wp2
      go_ret
      exact ⟨ret_bool (HGood.out fun j hj => HS.out j (by omega)).symm, HB.out⟩

theorem infoSums : (Tryd.prog.info? 48).map (·.size) = some 3 := by kernel_rfl
abbrev sval (n s q : Int) : Value := .agg #[.int .i64 n, .int .i64 s, .int .i64 q]
set_option maxRecDepth 100000 in
set_option maxHeartbeats 2000000 in
theorem sumUp_any (l : List Int) (v : Value) (w : World) (hv : IsInts w v l) (hlen : l.length ≤ 64) (hr : okRates l) :
    Calls Tryd.prog 21 #[v] w fun e w' => e = .returned (sval l.length (sumL l) (sqL l)) ∧ Below w.heap.size w w' := by
  obtain ⟨ao, cap, rfl⟩ := hv.shape
  have HL : Hid (IsInts w (.slice ao l.length cap) l) := hv
  have HR : Hid (okRates l) := hr
  have HLen : Hid (l.length ≤ 64) := hlen
  clear hv hr
  have HN : Hid (∀ k, k < l.length → sumL (l.take (k + 1)) = sumL (l.take k) + l.getD k 0 ∧ sqL (l.take (k + 1)) = sqL (l.take k) + l.getD k 0 * l.getD k 0 ∧ (0 ≤ l.getD k 0 ∧ l.getD k 0 ≤ 10000) ∧ (0 ≤ sumL (l.take k) ∧ sumL (l.take k) ≤ 640000) ∧ (0 ≤ sqL (l.take k) ∧ sqL (l.take k) ≤ 6400000000) ∧ IntKind.i64.wrap (l.getD k 0 * l.getD k 0) = l.getD k 0 * l.getD k 0) := fun k hk => by
    have h1 := (HR.out.take k)
    have h2 := sumL_bd h1
    have h3 := sqL_bd h1
    have h4 : ((l.take k).length : Int) ≤ 64 := by rw [List.length_take]; omega
    have h5 := HR.out.at k hk
    have h6 := sq_bd h5.1 h5.2
    exact ⟨sumL_next l k hk, sqL_next l k hk, h5, by omega, by omega, wrap_at (by omega) (by omega)⟩
  clear hlen
  go_enter Tryd.func21, Tryd.ntmps21
  go_upto_region 2 with fail
  generalize hW0 : World.alloc _ _ = W0
  have HZ : Hid (HasBox W0 w.heap.size 48 #[.int .i64 0, .int .i64 0, .int .i64 0]) := by show HasBox _ _ _ _; rw [← hW0]; exact (hasBox_new w _ _).alloc _
  have HX : Hid (HasBox W0 (w.heap.size + 1) 48 #[.int .i64 l.length, .int .i64 0, .int .i64 0]) := by show HasBox _ _ _ _; rw [← hW0]; exact hasBox_new' _ _ _ _ (by simp)
  have HB0 : Hid (Below w.heap.size w W0) := by show Below _ _ _; rw [← hW0]; exact ((Below.refl _ _).alloc (Nat.le_refl _) _).alloc (by simp) _
  clear hW0
  go_wp2
  go_loopw [11] (fun i wr => ∃ k : Nat, k ≤ l.length ∧ i = .int .i64 k ∧ HasBox wr (w.heap.size + 1) 48 #[.int .i64 l.length, .int .i64 (sumL (l.take k)), .int .i64 (sqL (l.take k))] ∧ HasBox wr w.heap.size 48 #[.int .i64 0, .int .i64 0, .int .i64 0] ∧ Below w.heap.size w wr) (fun i _ => l.length - (intOf i).toNat)
  case atStart => exact ⟨0, Nat.zero_le _, rfl, HX.out, HZ.out, HB0.out⟩
  case round =>
    obtain ⟨k, hk, rfl, hx, hz, hb⟩ := hrel
    have HXr : Hid (HasBox wr (w.heap.size + 1) 48 #[.int .i64 l.length, .int .i64 (sumL (l.take k)), .int .i64 (sqL (l.take k))]) := hx
    have HZr : Hid (HasBox wr w.heap.size 48 #[.int .i64 0, .int .i64 0, .int .i64 0]) := hz
    have HB : Hid (Below w.heap.size w wr) := hb
    clear hx hz hb HX HZ HB0
    have hlen := HLen.out
    by_cases hlt : k < l.length
    · obtain ⟨b, off, rfl, hbl, g⟩ := (HL.out.below HB.out).hit k hlt
      obtain ⟨n1, n2, n3, n4, n5, n6⟩ := HN.out k hlt
      have hw1 : IntKind.i64.wrap (sumL (l.take k) + l.getD k 0) = sumL (l.take k) + l.getD k 0 := wrap_at (by omega) (by omega)
      have hw2 : IntKind.i64.wrap (sqL (l.take k) + l.getD k 0 * l.getD k 0) = sqL (l.take k) + l.getD k 0 * l.getD k 0 := by
        have h6 := sq_bd n3.1 n3.2
        exact wrap_at (by omega) (by omega)
      have HN1 : Hid (sumL (l.take (k + 1)) = sumL (l.take k) + l.getD k 0) := n1
      have HN2 : Hid (sqL (l.take (k + 1)) = sqL (l.take k) + l.getD k 0 * l.getD k 0) := n2
      clear n1 n2 n3 n4 n5 HN HR
      generalize sumL (l.take k) = S at *
      generalize sqL (l.take k) = Q at *
      generalize l.getD k 0 = x at *
      have c1 : wr.cell? ⟨w.heap.size + 1, 1, none⟩ = some (.int .i64 S) := HXr.out.cell 1
      have c2 : wr.cell? ⟨w.heap.size + 1, 2, none⟩ = some (.int .i64 Q) := HXr.out.cell 2
      have f1 : wr.frozen? ⟨w.heap.size + 1, 1, none⟩ = false := HXr.out.frozen 1
      have f2 : wr.frozen? ⟨w.heap.size + 1, 2, none⟩ = false := HXr.out.frozen 2
      go_wp2
      have HB2 : Hid (Below w.heap.size w ((wr.setCell ⟨w.heap.size + 1, 1, none⟩ (.int .i64 (S + x))).setCell ⟨w.heap.size + 1, 2, none⟩ (.int .i64 (Q + x * x)))) := (HB.out.setCell (by simp) _).setCell (by simp) _
      have HX2 : Hid (HasBox ((wr.setCell ⟨w.heap.size + 1, 1, none⟩ (.int .i64 (S + x))).setCell ⟨w.heap.size + 1, 2, none⟩ (.int .i64 (Q + x * x))) (w.heap.size + 1) 48 #[.int .i64 l.length, .int .i64 (S + x), .int .i64 (Q + x * x)]) := (HXr.out.set 1 _).set 2 _
      have HZ2 : Hid (HasBox ((wr.setCell ⟨w.heap.size + 1, 1, none⟩ (.int .i64 (S + x))).setCell ⟨w.heap.size + 1, 2, none⟩ (.int .i64 (Q + x * x))) w.heap.size 48 #[.int .i64 0, .int .i64 0, .int .i64 0]) := (HZr.out.setOther _ (by simp) _).setOther _ (by simp) _
      go_roundw
      case rel => exact ⟨k + 1, by omega, by go_num, by rw [HN1.out, HN2.out]; exact HX2.out, HZ2.out, HB2.out⟩
      case measure => simp [intOf]; omega
    · have hk2 : l.take k = l := List.take_of_length_le (by omega)
      rw [hk2] at HXr
      have c0 : wr.cell? ⟨w.heap.size + 1, 0, none⟩ = some (.int .i64 l.length) := HXr.out.cell 0
      have c1 : wr.cell? ⟨w.heap.size + 1, 1, none⟩ = some (.int .i64 (sumL l)) := HXr.out.cell 1
      have c2 : wr.cell? ⟨w.heap.size + 1, 2, none⟩ = some (.int .i64 (sqL l)) := HXr.out.cell 2
      have d0 : wr.cell? ⟨w.heap.size, 0, none⟩ = some (.int .i64 0) := HZr.out.cell 0
      have d1 : wr.cell? ⟨w.heap.size, 1, none⟩ = some (.int .i64 0) := HZr.out.cell 1
      have d2 : wr.cell? ⟨w.heap.size, 2, none⟩ = some (.int .i64 0) := HZr.out.cell 2
      have f0 : wr.frozen? ⟨w.heap.size, 0, none⟩ = false := HZr.out.frozen 0
      have f1 : wr.frozen? ⟨w.heap.size, 1, none⟩ = false := HZr.out.frozen 1
      have f2 : wr.frozen? ⟨w.heap.size, 2, none⟩ = false := HZr.out.frozen 2
      clear hk2 HN HR
      go_wp2
      refine bodyPost_ret (results_cell_row rfl _ _ w.heap.size 48 #[.int .i64 l.length, .int .i64 (sumL l), .int .i64 (sqL l)] (0, 0) _ rfl (by have hR := ((HZr.out.set 0 (.int .i64 l.length)).set 1 (.int .i64 (sumL l))).set 2 (.int .i64 (sqL l)); simpa [HasBox] using hR) Tryd.underlying48 rfl infoSums) rfl ?_
      exact ⟨rfl, ((HB.out.setCell (by simp) _).setCell (by simp) _).setCell (by simp) _⟩

set_option maxRecDepth 100000 in
set_option maxHeartbeats 2000000 in
theorem farBelow_any (n s q r f : Int) (w : World) (hn : 0 ≤ n ∧ n ≤ 64) (hs : 0 ≤ s ∧ s ≤ 640000) (hq : 0 ≤ q ∧ q ≤ 6400000000) (hc : s * s ≤ n * q) (hr : 0 ≤ r ∧ r ≤ 10000) (hf : 1 ≤ f ∧ f ≤ 10000) :
    Calls Tryd.prog 22 #[sval n s q, .int .i64 r, .int .i64 f] w fun e w' => e = .returned (.bool (farV s q n r f)) ∧ Below w.heap.size w w' := by
  obtain ⟨P, hP⟩ : ∃ P, n * r = P := ⟨_, rfl⟩
  have hPb : 0 ≤ P ∧ P ≤ 640000 := by
    rw [← hP]
    exact ⟨Int.mul_nonneg hn.1 hr.1, Int.le_trans (Int.mul_le_mul hn.2 hr.2 hr.1 (by omega)) (by omega)⟩
  have hw1 : IntKind.i64.wrap (n * r) = P := by rw [hP]; exact wrap_at (by omega) (by omega)
  obtain ⟨d, hd⟩ : ∃ d, s - P = d := ⟨_, rfl⟩
  have hw2 : IntKind.i64.wrap (s - P) = d := by rw [hd]; exact wrap_at (by omega) (by omega)
  by_cases h0 : d ≤ 0
  · have e : farV s q n r f = false := by
      unfold farV
      rw [hP, hd, decide_eq_false (by omega)]
      rfl
    rw [e]
    clear hc hq hs hr hf hn hPb hP hd
    go_enter Tryd.func22, Tryd.ntmps22
    go_wp2
    go_ret
    exact ⟨rfl, (Below.refl _ _).alloc (Nat.le_refl _) _⟩
  · obtain ⟨D, hD⟩ : ∃ D, d * d = D := ⟨_, rfl⟩
    have hDb : 0 ≤ D ∧ D ≤ 409600000000 := by
      rw [← hD]
      exact ⟨sq_nonneg d, Int.le_trans (Int.mul_le_mul (b := d) (c := 640000) (d := 640000) (by omega) (by omega) (by omega) (by omega)) (by omega)⟩
    obtain ⟨F, hF⟩ : ∃ F, f * f = F := ⟨_, rfl⟩
    have hFb : 0 ≤ F ∧ F ≤ 100000000 := by rw [← hF]; exact sq_bd (by omega) hf.2
    obtain ⟨N, hN⟩ : ∃ N, n * q = N := ⟨_, rfl⟩
    have hNb : 0 ≤ N ∧ N ≤ 409600000000 := by
      rw [← hN]
      exact ⟨Int.mul_nonneg hn.1 hq.1, Int.le_trans (Int.mul_le_mul hn.2 hq.2 hq.1 (by omega)) (by omega)⟩
    obtain ⟨S, hS⟩ : ∃ S, s * s = S := ⟨_, rfl⟩
    have hSb : 0 ≤ S := by rw [← hS]; exact sq_nonneg s
    rw [hN, hS] at hc
    have w1 : IntKind.i64.wrap (d * d) = D := by rw [hD]; exact wrap_at (by omega) (by omega)
    have w2 : IntKind.i64.wrap (f * f) = F := by rw [hF]; exact wrap_at (by omega) (by omega)
    have w3 : IntKind.i64.wrap (n * q) = N := by rw [hN]; exact wrap_at (by omega) (by omega)
    have w4 : IntKind.i64.wrap (s * s) = S := by rw [hS]; exact wrap_at (by omega) (by omega)
    obtain ⟨V, hV⟩ : ∃ V, N - S = V := ⟨_, rfl⟩
    have w5 : IntKind.i64.wrap (N - S) = V := by rw [hV]; exact wrap_at (by omega) (by omega)
    have hCmp : ∀ W : World, Calls Tryd.prog 37 #[.int .i64 D, .int .i64 1000000, .int .i64 F, .int .i64 V] W fun e w' => e = .returned (.int .i64 (cmpV (D * 1000000) (F * V))) ∧ Below W.heap.size W w' := fun W => by
      have := compare_any D 1000000 F V W (by omega) (by omega) (by omega) (by omega)
      rwa [oz_pos (n := D) (by omega), oz_pos (n := 1000000) (by omega), oz_pos (n := F) (by omega), oz_pos (n := V) (by omega)] at this
    have e : farV s q n r f = decide (0 < cmpV (D * 1000000) (F * V)) := by
      unfold farV
      rw [hP, hd, decide_eq_true (show 0 < d by omega), hF, hN, hS, hV, hD, Bool.true_and]
      unfold cmpV
      refine decide_eq_decide.2 ?_
      generalize F * V = x
      generalize D * 1000000 = y
      split
      · omega
      · split <;> omega
    rw [e]
    have HC : Hid _ := hCmp
    clear e hCmp hV hSb hS hNb hN hFb hF hDb hD hd hPb hP hc hq hs hr hf hn
    generalize cmpV (D * 1000000) (F * V) = c at HC
    go_enter Tryd.func22, Tryd.ntmps22
    go_wp2_with fail
    refine (HC.out _).mono ?_
    rintro e w2 ⟨rfl, hb⟩
    go_wp2
    go_ret
    exact ⟨rfl, ((Below.refl _ _).alloc (Nat.le_refl _) _).trans (hb.mono (by simp))⟩

theorem farA_yes {l : List Int} {f : Int} (h : mayFarK l f = true) : farA l f = farK l f := if_pos h
theorem farA_no {l : List Int} {f : Int} (h : mayFarK l f = false) : farA l f = [] := by unfold farA; rw [h]; rfl
set_option maxRecDepth 100000 in
set_option maxHeartbeats 2000000 in
/-- Far: the answer is a row of the call's own. -/
theorem far_any (l : List Int) (f : Int) (v : Value) (w : World) (hv : IsInts w v l) :
    Calls Tryd.prog 9 #[v, .int .i64 f] w fun e w' => ∃ v', e = .returned v' ∧ IsBools w' v' (farA l f) ∧ Below w.heap.size w w' := by
  have HMay : Hid (Calls Tryd.prog 20 #[v, .int .i64 f] w fun e w' => e = .returned (.bool (mayFarK l f)) ∧ Below w.heap.size w w') := mayFar_any l f v w hv
  obtain ⟨ao, cap, rfl⟩ := hv.shape
  have HL : Hid (IsInts w (.slice ao l.length cap) l) := hv
  clear hv
  by_cases h : mayFarK l f = true
  · rw [h] at HMay
    have h2 := (mayFarK_iff l f).1 h
    rw [farA_yes h]
    have HLen : Hid (l.length ≤ 64) := h2.1
    have HR : Hid (okRates l) := h2.2.2.2
    have HF : Hid (1 ≤ f ∧ f ≤ 10000) := ⟨h2.2.1, h2.2.2.1⟩
    clear h h2
    go_enter Tryd.func9, Tryd.ntmps9
    go_wp2_with fail
    refine (HMay.out).mono ?_
    rintro e w1 ⟨rfl, hb1⟩
    have HB1 : Hid (Below w.heap.size w w1) := hb1
    have HL1 : Hid (IsInts w1 (.slice ao l.length cap) l) := HL.out.below hb1
    clear hb1
    go_wp2_with fail
    refine (sumUp_any l _ _ HL1.out HLen.out HR.out).mono ?_
    rintro e w2 ⟨rfl, hb2⟩
    have HB2 : Hid (Below w.heap.size w w2) := HB1.out.trans (hb2.mono HB1.out.size)
    clear hb2 HB1 HL1
    have hm := run_make_flat (P := Tryd.prog) 28 4 (.bool false) (.bool false) 1 1 Tryd.underlying28 infoBool rfl (by omega) l.length (by have := HLen.out; omega) (by have := HLen.out; omega)
    go_upto_region 5 with fail
    generalize hW3 : World.alloc _ _ = W3
    have HS : Hid (HasBox W3 w2.heap.size 48 #[.int .i64 l.length, .int .i64 (sumL l), .int .i64 (sqL l)]) := by show HasBox _ _ _ _; rw [← hW3]; exact (hasBox_new w2 _ _).alloc _
    have HX : Hid (HasBox W3 (w2.heap.size + 1) 4 (fillV ((farK l f).map Value.bool) (.bool false) 0)) := by
      show HasBox _ _ _ _
      rw [← hW3, fill_start, List.length_map, farK_length]
      simpa using hasBox_new' (w2.alloc _) 4 (w2.heap.size + 1) (List.replicate l.length (Value.bool false)).toArray (by simp)
    have HB3 : Hid (Below w.heap.size w W3) := by show Below _ _ _; rw [← hW3]; exact (HB2.out.alloc HB2.out.size _).alloc (by have := HB2.out.size; simp; omega) _
    have HLo : Hid (w.heap.size ≤ w2.heap.size) := HB2.out.size
    clear hW3 HB2 hm
    generalize w2.heap.size = B at HS HX HLo ⊢
    have hlen := HLen.out
    go_wp2
    go_loopw [20] (fun i wr => ∃ k : Nat, k ≤ l.length ∧ i = .int .i64 k ∧ HasBox wr (B + 1) 4 (fillV ((farK l f).map Value.bool) (.bool false) k) ∧ HasBox wr B 48 #[.int .i64 l.length, .int .i64 (sumL l), .int .i64 (sqL l)] ∧ Below w.heap.size w wr) (fun i _ => l.length - (intOf i).toNat)
    case atStart => exact ⟨0, Nat.zero_le _, rfl, HX.out, HS.out, HB3.out⟩
    case round =>
      obtain ⟨k, hk, rfl, hx, hs, hb⟩ := hrel
      have HXr : Hid (HasBox wr (B + 1) 4 (fillV ((farK l f).map Value.bool) (.bool false) k)) := hx
      have HSr : Hid (HasBox wr B 48 #[.int .i64 l.length, .int .i64 (sumL l), .int .i64 (sqL l)]) := hs
      have HB : Hid (Below w.heap.size w wr) := hb
      clear hx hs hb HX HS HB3
      by_cases hlt : k < l.length
      · obtain ⟨b, off, rfl, hbl, g⟩ := (HL.out.below HB.out).hit k hlt
        have HC : Hid (∀ W : World, Calls Tryd.prog 22 #[sval l.length (sumL l) (sqL l), .int .i64 (l.getD k 0), .int .i64 f] W fun e w' => e = .returned (.bool (farV (sumL l) (sqL l) l.length (l.getD k 0) f)) ∧ Below W.heap.size W w') := fun W => by
          have h1 := sumL_bd HR.out
          have h2 := sqL_bd HR.out
          have h3 := HR.out.at k hlt
          have h4 := cauchy l
          exact farBelow_any l.length (sumL l) (sqL l) (l.getD k 0) f W (by omega) (by omega) (by omega) h4 h3 HF.out
        have HAt : Hid ((fillV ((farK l f).map Value.bool) (.bool false) k)[k]? = some (.bool false)) := fill_at (by rw [List.length_map, farK_length]; exact hlt)
        have HSet : Hid ((fillV ((farK l f).map Value.bool) (.bool false) k).setIfInBounds k (.bool (farV (sumL l) (sqL l) l.length (l.getD k 0) f)) = fillV ((farK l f).map Value.bool) (.bool false) (k + 1)) := fill_set (by rw [List.length_map, farK_length]; exact hlt) (by
          rw [List.getElem?_map]
          have : (farK l f)[k]? = some (farV (sumL l) (sqL l) l.length (l.getD k 0) f) := by
            rw [← farK_get l f k hlt]; simp [farK_length, hlt]
          rw [this]; rfl)
        generalize hA2 : fillV ((farK l f).map Value.bool) (.bool false) (k + 1) = A2 at *
        generalize fillV ((farK l f).map Value.bool) (.bool false) k = A1 at *
        unfold sval at HC
        generalize farV (sumL l) (sqL l) l.length (l.getD k 0) f = y at *
        generalize l.getD k 0 = x at *
        generalize sumL l = S at *
        generalize sqL l = Q at *
        have c0 : wr.cell? ⟨B, 0, none⟩ = some (.int .i64 l.length) := HSr.out.cell 0
        have c1 : wr.cell? ⟨B, 1, none⟩ = some (.int .i64 S) := HSr.out.cell 1
        have c2 : wr.cell? ⟨B, 2, none⟩ = some (.int .i64 Q) := HSr.out.cell 2
        go_wp2_with fail
        refine (HC.out _).mono ?_
        rintro e w5 ⟨rfl, hb5⟩
        have HX5 : Hid (HasBox w5 (B + 1) 4 A1) := HXr.out.below hb5
        have HS5 : Hid (HasBox w5 B 48 #[.int .i64 l.length, .int .i64 S, .int .i64 Q]) := HSr.out.below hb5
        have HB5 : Hid (Below w.heap.size w w5) := HB.out.trans (hb5.mono HB.out.size)
        clear hb5 c0 c1 c2 HXr HSr HB HC g hbl
        have gk : w5.cell? ⟨B + 1, k, none⟩ = some (.bool false) := (HX5.out.cell k).trans HAt.out
        have fk : w5.frozen? ⟨B + 1, k, none⟩ = false := HX5.out.frozen k
        go_wp2
        have HX6 : Hid (HasBox (w5.setCell ⟨B + 1, k, none⟩ (.bool y)) (B + 1) 4 A2) := by show HasBox _ _ _ _; rw [← HSet.out]; exact HX5.out.set _ _
        have HS6 : Hid (HasBox (w5.setCell ⟨B + 1, k, none⟩ (.bool y)) B 48 #[.int .i64 l.length, .int .i64 S, .int .i64 Q]) := HS5.out.setOther _ (by simp) _
        have HB6 : Hid (Below w.heap.size w (w5.setCell ⟨B + 1, k, none⟩ (.bool y))) := HB5.out.setCell (by have := HLo.out; show _ ≤ B + 1; omega) _
        go_roundw
        case rel => exact ⟨k + 1, by omega, by go_num, by rw [hA2]; exact HX6.out, HS6.out, HB6.out⟩
        case measure => simp [intOf]; omega
      · obtain rfl : k = l.length := by omega
        go_wp2
        go_ret
        refine ⟨_, rfl, ?_, HB.out⟩
        have h1 := HXr.out
        have e : fillV ((farK l f).map Value.bool) (.bool false) l.length = ((farK l f).map Value.bool).toArray := by
          have := fill_end ((farK l f).map Value.bool) (.bool false)
          rwa [List.length_map, farK_length] at this
        rw [e] at h1
        have := bools_box h1 (by rw [farK_length]; omega)
        rwa [farK_length] at this
  · have h := Bool.eq_false_iff.2 h
    rw [h] at HMay
    rw [farA_no h]
    clear h HL
    go_enter Tryd.func9, Tryd.ntmps9
    go_wp2_with fail
    refine (HMay.out).mono ?_
    rintro e w1 ⟨rfl, hb1⟩
    go_wp2
    go_ret
    exact ⟨_, rfl, isBools_nil _, hb1⟩

end Go.Proofs.YtjknflpclniiiaaDoor

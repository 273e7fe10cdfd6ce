/-
  DrainEnds, for every status and times, its Meta as long as the reach lets it be: who begins to drain without tickets is over at once; with some, at its time and not before it; begun again nothing changes.
-/
import Derived.Test.YthmfmeibjpgokaaDrainFrame
import Derived.Test.YthmfmeibjpgokaaRefStat
namespace Go.Proofs.Ythmfmeibjpgokaa
open Go.ChangeShapes Go.WideShapes Go.ChangeAt Go.RowKit
open Go.ChangeMaps (open_string shut_string)

/-- A status that doesn't drain. -/
def calm (s : StatT) : StatT := ⟨s.host, s.pr, s.errors, s.bk, s.og, false, s.gone, s.since, s.active⟩
theorem calm_arr (s : StatT) (mv : Value) : (s.arr mv).setIfInBounds 17 (.bool false) = (calm s).arr mv := rfl
def statP (s : StatT) : MP := ⟨fun v w => ∃ mv, v = .agg (s.arr mv) ∧ IsPairs w mv s.host.tags, fun ⟨mv, h1, h2⟩ hb => ⟨mv, h1, h2.below hb⟩⟩
theorem begin_facts (s : StatT) {A B : Int} (hA : 0 ≤ A ∧ A < 1099511627776) (hB : 0 ≤ B ∧ B < 1073741824) :
    (beginD (calm s) A B).drains = true ∧ (beginD (calm s) A B).gone = A + B ∧ (beginD (calm s) A B).active = s.active ∧ (beginD (calm s) A B).host = s.host := by
  have e : beginD (calm s) A B = ⟨s.host, ⟨s.pr.up, s.pr.run, s.pr.forced, 0⟩, 0, ⟨0, 0⟩, noOg, true, laterD A B, s.since, s.active⟩ := rfl
  rw [e]
  refine ⟨rfl, ?_, rfl, rfl⟩
  show laterD A B = A + B
  unfold laterD
  rw [timeE_self (n := A) (by omega), if_neg (show ¬ B < 0 by omega), if_pos (by omega)]
theorem begin_again {D : StatT} (h : D.drains = true) (x y : Int) : beginD D x y = D := by unfold beginD; rw [if_pos h]
theorem left_at {D : StatT} {A B C : Int} (h1 : D.drains = true) (h2 : D.gone = A + B) (hA : 0 ≤ A ∧ A < 1099511627776) (hB : 0 ≤ B ∧ B < 1073741824) (hC : 0 ≤ C ∧ C < 2147483648) : leftD D (A + C) = if B - C < 0 then 0 else B - C := by
  unfold leftD
  rw [if_pos h1, h2, timeE_self (n := A + B) (by omega), timeE_self (n := A + C) (by omega), show A + B - (A + C) = B - C by omega]
theorem over_at {D : StatT} {A B C : Int} (h1 : D.drains = true) (h2 : D.gone = A + B) (hA : 0 ≤ A ∧ A < 1099511627776) (hB : 0 ≤ B ∧ B < 1073741824) (hC : 0 ≤ C ∧ C < 2147483648) : overD D (A + C) = (decide (D.active ≤ 0) || decide (B ≤ C)) := by
  unfold overD
  rw [h1, h2, timeE_self (n := A + B) (by omega), timeE_self (n := A + C) (by omega), Bool.true_and]
  congr 1
  exact decide_eq_decide.2 (by omega)

set_option maxRecDepth 100000 in
set_option maxHeartbeats 8000000 in
theorem walk_DrainEnds (s : StatT) (mv : Value) (_ : okS s) (zs : s.host.tags.length ≤ 4398046510976) (now : Int) (_ : -9223372036854775808 ≤ now ∧ now ≤ 9223372036854775807) (span : Int) (_ : -9223372036854775808 ≤ span ∧ span ≤ 9223372036854775807)
    (later : Int) (_ : -9223372036854775808 ≤ later ∧ later ≤ 9223372036854775807) (w : World) (hm : IsPairs w mv s.host.tags) :
    Calls Try.prog 3 #[.agg (s.arr mv), .int .i64 now, .int .i64 span, .int .i64 later] w fun e w' => e = .returned (.bool true) ∧ Below w.heap.size w w' := by
  have HM : Hid (IsPairs w mv s.host.tags) := hm
  clear hm
  go_enter Try.func3, Try.ntmps3
  go_upto_region 1 with fail
  generalize hW0 : w.alloc _ = W0
  have HX0 : Hid (HasBox W0 w.heap.size 32 (s.arr mv)) := by show HasBox _ _ _ _; rw [← hW0]; exact hasBox_new w _ _
  have HB0 : Hid (Below w.heap.size w W0) := by show Below _ _ _; rw [← hW0]; exact (Below.refl _ _).alloc (Nat.le_refl _) _
  clear hW0
  go_wp2_with (first | (refine wpList_load_part rfl 24 (.tmp 10) rfl w.heap.size 0 rfl _ _ (st_host s mv HX0.out) Try.underlying24 rfl sizeHost ?_) | fail)
  refine (light_any s.host mv _ (HM.out.below HB0.out)).mono ?_
  rintro e w1 ⟨r, hr, rfl, hb⟩
  have HX1 : Hid (HasBox w1 w.heap.size 32 (s.arr mv)) := HX0.out.below hb
  have HB1 : Hid (Below w.heap.size w w1) := HB0.out.trans (hb.mono HB0.out.size)
  clear hb HX0 HB0 hr
  by_cases hc : 0 < r
  · go_wp2_with fail
    refine (awake15_any _).mono ?_
    rintro e w2 ⟨rfl, hb⟩
    have HB2 : Hid (Below w.heap.size w w2) := HB1.out.trans (hb.mono HB1.out.size)
    clear hb
    go_wp2
    go_ret
    exact ⟨rfl, HB2.out⟩
  obtain ⟨A, hA, hA2, hA3, a0, a1⟩ := u_modI now 1099511627776 (by omega) (by omega)
  obtain ⟨B, hB, hB2, hB3, b0, b1⟩ := u_modI span 1073741824 (by omega) (by omega)
  obtain ⟨C, hC, hC2, hC3, c0, c1⟩ := u_modI later 2147483648 (by omega) (by omega)
  have c17 : w1.cell? ⟨w.heap.size, 17, none⟩ = some (.bool s.drains) := HX1.out.cell 17
  have f17 : w1.frozen? ⟨w.heap.size, 17, none⟩ = false := HX1.out.frozen 17
  go_upto_region 6 with fail
  generalize hW : World.setCell _ _ _ = W2
  have HX2 : Hid (HasBox W2 w.heap.size 32 ((calm s).arr mv)) := by show HasBox _ _ _ _; rw [← hW]; exact HX1.out.set 17 _
  have HB2 : Hid (Below w.heap.size w W2) := by show Below _ _ _; rw [← hW]; exact HB1.out.setCell (by simp) _
  clear hW HX1 HB1 c17 f17 hc
  go_wp2_with (first | (refine wpList_load_all rfl 32 (.tmp 4) rfl w.heap.size rfl 32 _ _ HX2.out Try.underlying32 rfl (st_inf _ _) ?_) | fail)
  refine (dBegin_any (calm s) mv A B _ (HM.out.below HB2.out) zs).mono ?_
  rintro e w3 ⟨mv1, rfl, hown, hb⟩
  obtain ⟨f1, f2, f3, f4⟩ := begin_facts s (A := A) (B := B) ⟨a0, a1⟩ ⟨b0, b1⟩
  generalize beginD (calm s) A B = D at f1 f2 f3 f4 ⊢
  have ft : (calm s).host.tags = D.host.tags := by rw [f4]; rfl
  have hz : D.host.tags.length ≤ 4398046510976 := by rw [f4]; exact zs
  rw [ft] at hown
  generalize hnn : D.host.tags.length = n at hown
  obtain ⟨ao, c, rfl⟩ := (isRow_own hown).shaped
  have hP3 : IsPairs w3 (.slice ao n c) D.host.tags := own_pairs hown hnn.symm (by rw [f4]; exact HM.out.1)
  have HP3 : Hid (IsPairs w3 (.slice ao n c) D.host.tags) := hP3
  have HX3 : Hid (HasBox w3 w.heap.size 32 ((calm s).arr mv)) := HX2.out.below hb
  have HB3 : Hid (Below w.heap.size w w3) := HB2.out.trans (hb.mono HB2.out.size)
  have HL0 : ∀ W : World, Calls Try.prog 8 #[.agg (D.arr (.slice ao n c)), .int .i64 A] W fun e w' => e = .returned (.int .i64 B) ∧ Below W.heap.size W w' := fun W => by
    have := dLeft_any D (.slice ao n c) A W
    have e := left_at (C := 0) f1 f2 ⟨a0, a1⟩ ⟨b0, b1⟩ (by omega)
    rw [Int.add_zero, Int.sub_zero, if_neg (by omega)] at e
    rwa [e] at this
  have HBe : ∀ W : World, IsPairs W (.slice ao n c) D.host.tags → Calls Try.prog 7 #[.agg (D.arr (.slice ao n c)), .int .i64 (A + C), .int .i64 (B + 7)] W fun e w' => ∃ mv', e = .returned (.agg (D.arr mv')) ∧ IsPairs w' mv' D.host.tags ∧ Below W.heap.size W w' := fun W h =>
    (dBegin_any D (.slice ao n c) (A + C) (B + 7) W h hz).mono fun e w' ⟨mv', h1, h2, h3⟩ => ⟨mv', by rw [h1, begin_again f1], own_pairs h2 rfl h.1, h3⟩
  have HSame : ∀ (W : World) (v : Value), IsPairs W v D.host.tags → IsPairs W (.slice ao n c) D.host.tags → Calls Try.prog 9 #[.agg (D.arr v), .agg (D.arr (.slice ao n c))] W fun e w' => e = .returned (.bool true) ∧ Below W.heap.size W w' := fun W v h h' => rSameOne_same D v (.slice ao n c) W h h'
  have HOs : ∀ W : World, Calls Try.prog 10 #[.agg ((calm s).arr mv), .int .i64 A] W fun e w' => e = .returned (.bool false) ∧ Below W.heap.size W w' := fun W => by
    have := dOver_any (calm s) mv A W
    rwa [overD_none (s := calm s) rfl A] at this
  have HOa : Hid (s.active ≤ 0 → ∀ (mv : Value) (W : World), Calls Try.prog 10 #[.agg (D.arr mv), .int .i64 A] W fun e w' => e = .returned (.bool true) ∧ Below W.heap.size W w') := fun h mv W => by
    have := dOver_any D mv A W
    have e := over_at (C := 0) f1 f2 ⟨a0, a1⟩ ⟨b0, b1⟩ (by omega)
    rw [Int.add_zero, f3, decide_eq_true h, Bool.true_or] at e
    rwa [e] at this
  have HOb : Hid (0 < s.active → ∀ (mv : Value) (W : World), Calls Try.prog 10 #[.agg (D.arr mv), .int .i64 (A + C)] W fun e w' => e = .returned (.bool (decide (B ≤ C))) ∧ Below W.heap.size W w') := fun h mv W => by
    have := dOver_any D mv (A + C) W
    rwa [over_at f1 f2 ⟨a0, a1⟩ ⟨b0, b1⟩ ⟨c0, c1⟩, f3, decide_eq_false (show ¬ s.active ≤ 0 by omega), Bool.false_or] at this
  have HLb : ∀ (mv : Value) (W : World), Calls Try.prog 8 #[.agg (D.arr mv), .int .i64 (A + C)] W fun e w' => e = .returned (.int .i64 (if B - C < 0 then 0 else B - C)) ∧ Below W.heap.size W w' := fun mv W => by
    have := dLeft_any D mv (A + C) W
    rwa [left_at f1 f2 ⟨a0, a1⟩ ⟨b0, b1⟩ ⟨c0, c1⟩] at this
  have HW1 : Hid (IntKind.i64.wrap (A + C) = A + C) := by show _ = _; rw [IntKind.wrap_i64]; omega
  have HW2 : Hid (IntKind.i64.wrap (B + 7) = B + 7) := by show _ = _; rw [IntKind.wrap_i64]; omega
  have HF17 : Hid (D.drains = true) := f1
  clear hown hb HX2 HB2 f1 f2 f3 f4 ft hz hnn hP3
  go_upto_region 7 with (first | (refine wpList_store_row rfl 32 (.tmp 9) (.tmp 31) rfl w3.heap.size (D.arr (.slice ao n c)) rfl rfl 32 _ (heap_alloc_new w3 _) (st_inf _ _) rfl (st_one _ _ _ _) ?_; generalize hW6 : World.setRow _ _ _ = W6) | fail)
  have HY6 : Hid (HasBox W6 w3.heap.size 32 (D.arr (.slice ao n c))) := by show HasBox _ _ _ _; rw [← hW6]; exact (hasBox_new w3 _ _).row
  have HX6 : Hid (HasBox W6 w.heap.size 32 ((calm s).arr mv)) := by show HasBox _ _ _ _; rw [← hW6]; exact (HX3.out.alloc _).rowOther (by have := HX3.out.lt; omega)
  have HB6 : Hid (Below w.heap.size w W6) := by show Below _ _ _; rw [← hW6]; exact below_setRow (HB3.out.alloc HB3.out.size _) HB3.out.size _
  have HP6 : Hid (IsPairs W6 (.slice ao n c) D.host.tags) := by show IsPairs _ _ _; rw [← hW6]; exact HP3.out.below (below_setRow ((Below.refl _ _).alloc (Nat.le_refl _) _) (Nat.le_refl _) _)
  clear hW6 HX3 HB3 HP3
  generalize w3.heap.size = g at HY6 ⊢
  have HX : ∀ W, Below W6.heap.size W6 W → HasBox W w.heap.size 32 ((calm s).arr mv) := fun W h => HX6.out.below h
  have HY : ∀ W, Below W6.heap.size W6 W → HasBox W g 32 (D.arr (.slice ao n c)) := fun W h => HY6.out.below h
  have HP : ∀ W, Below W6.heap.size W6 W → IsPairs W (.slice ao n c) D.host.tags := fun W h => HP6.out.below h
  have HC17 : ∀ W, Below W6.heap.size W6 W → W.cell? ⟨g, 17, none⟩ = some (.bool true) := fun W h => by rw [← HF17.out]; exact (HY W h).cell 17
  clear HX6 HY6 HP6
  refine wp_region_mp ([eqP (.pointer (some ⟨g, 17, none⟩)), eqP (.bool true), eqP (.bool false), eqP (.bool false), eqP (.agg (D.arr (.slice ao n c))), eqP (.int .i64 A), eqP (.int .i64 B), eqP (.int .i64 B), eqP (.bool false), eqP (.bool false), eqP (.bool false), eqP (.agg (D.arr (.slice ao n c))), eqP (.int .i64 A), eqP (.int .i64 C), eqP (.int .i64 (A + C)), eqP (.int .i64 B), eqP (.int .i64 (B + 7)), statP D, eqP (.agg (D.arr (.slice ao n c))), eqP (.bool true), eqP (.bool false), eqP (.bool false), eqP (.bool false), eqP (.agg ((calm s).arr mv)), eqP (.int .i64 A), eqP (.bool false), eqP (.bool false)]) (by kernel_rfl) (by kernel_rfl) ?_ ?_
  · simp only [stepsAll3]
    refine ⟨fun a W hF hE hd => ?_, fun a W hF hE hd => ?_, fun a W hF hE hd => ?_, fun a W hF hE hd => ?_, fun a W hF hE hd => ?_, fun a W hF hE hd => ?_, fun a W hF hE hd => ?_, fun a W hF hE hd => ?_, fun a W hF hE hd => ?_, fun a W hF hE hd => ?_, fun a W hF hE hd => ?_, fun a W hF hE hd => ?_, fun a W hF hE hd => ?_, fun a W hF hE hd => ?_, fun a W hF hE hd => ?_, fun a W hF hE hd => ?_, fun a W hF hE hd => ?_, fun a W hF hE hd => ?_, fun a W hF hE hd => ?_, fun a W hF hE hd => ?_, fun a W hF hE hd => ?_, fun a W hF hE hd => ?_, fun a W hF hE hd => ?_, fun a W hF hE hd => ?_, fun a W hF hE hd => ?_, fun a W hF hE hd => ?_, fun a W hF hE hd => ?_, trivial⟩
    all_goals unfold StepAt
    · have t9 : a.tmps.getD 9 undef = .pointer (some ⟨g, 0, none⟩) := hF.at 9 (by kernel_rfl)
      rw [Array.getD_eq_getD_getElem?] at t9
      refine .inl ⟨rfl, ?_⟩
      go_simp
      exact ⟨Below.refl _ _, rfl⟩
    · have t32 : a.tmps.getD 32 undef = .pointer (some ⟨g, 17, none⟩) := hd { on := 0, ground := .data } (by simp) rfl
      rw [Array.getD_eq_getD_getElem?] at t32
      refine .inl ⟨rfl, ?_⟩
      have c17 : W.cell? ⟨g, 17, none⟩ = some (.bool true) := HC17 W hE
      go_simp
      exact ⟨Below.refl _ _, rfl⟩
    · have t33 : a.tmps.getD 33 undef = .bool true := hd { on := 1, ground := .data } (by simp) rfl
      rw [Array.getD_eq_getD_getElem?] at t33
      refine .inl ⟨rfl, ?_⟩
      go_simp
      exact ⟨Below.refl _ _, rfl⟩
    · have t34 : a.tmps.getD 34 undef = .bool false := hd { on := 2, ground := .data } (by simp) rfl
      rw [Array.getD_eq_getD_getElem?] at t34
      refine .inl ⟨rfl, ?_⟩
      go_simp
      exact ⟨Below.refl _ _, rfl⟩
    · have t9 : a.tmps.getD 9 undef = .pointer (some ⟨g, 0, none⟩) := hF.at 9 (by kernel_rfl)
      rw [Array.getD_eq_getD_getElem?] at t9
      have g35 : a.eval (.tmp 35) = .bool false := hd { on := 3, ground := .guard } (by simp) rfl
      refine .inl ⟨(by simp only [Region.wanted]; rw [yielded_of (d := 35) (by rfl) g35]; rfl), ?_⟩
      clear g35
      rw [run_obox _ _ 32 (.tmp 9) rfl (g) (by simpa [Act.eval] using t9) 32 (D.arr (.slice ao n c)) _ (HY W hE) Try.underlying32 rfl (st_inf _ _)]
      exact ⟨Below.refl _ _, rfl⟩
    · have t1 : a.tmps.getD 1 undef = .int .i64 A := hF.at 1 (by kernel_rfl)
      rw [Array.getD_eq_getD_getElem?] at t1
      have g35 : a.eval (.tmp 35) = .bool false := hd { on := 3, ground := .guard } (by simp) rfl
      refine .inl ⟨(by simp only [Region.wanted]; rw [yielded_of (d := 35) (by rfl) g35]; rfl), ?_⟩
      clear g35
      go_simp
      exact ⟨Below.refl _ _, rfl⟩
    · have t36 : a.tmps.getD 36 undef = .agg (D.arr (.slice ao n c)) := hd { on := 4, ground := .data } (by simp) rfl
      rw [Array.getD_eq_getD_getElem?] at t36
      have t37 : a.tmps.getD 37 undef = .int .i64 A := hd { on := 5, ground := .data } (by simp) rfl
      rw [Array.getD_eq_getD_getElem?] at t37
      have g35 : a.eval (.tmp 35) = .bool false := hd { on := 3, ground := .guard } (by simp) rfl
      refine .inl ⟨(by simp only [Region.wanted]; rw [yielded_of (d := 35) (by rfl) g35]; rfl), ?_⟩
      clear g35
      go_simp
      exact (HL0 W).mono fun e w2 h => ⟨_, h.1, h.2, rfl⟩
    · have t2 : a.tmps.getD 2 undef = .int .i64 B := hF.at 2 (by kernel_rfl)
      rw [Array.getD_eq_getD_getElem?] at t2
      have g35 : a.eval (.tmp 35) = .bool false := hd { on := 3, ground := .guard } (by simp) rfl
      refine .inl ⟨(by simp only [Region.wanted]; rw [yielded_of (d := 35) (by rfl) g35]; rfl), ?_⟩
      clear g35
      go_simp
      exact ⟨Below.refl _ _, rfl⟩
    · have t38 : a.tmps.getD 38 undef = .int .i64 B := hd { on := 6, ground := .data } (by simp) rfl
      rw [Array.getD_eq_getD_getElem?] at t38
      have t39 : a.tmps.getD 39 undef = .int .i64 B := hd { on := 7, ground := .data } (by simp) rfl
      rw [Array.getD_eq_getD_getElem?] at t39
      have g35 : a.eval (.tmp 35) = .bool false := hd { on := 3, ground := .guard } (by simp) rfl
      refine .inl ⟨(by simp only [Region.wanted]; rw [yielded_of (d := 35) (by rfl) g35]; rfl), ?_⟩
      clear g35
      go_simp
      exact ⟨Below.refl _ _, rfl⟩
    · have t35 : a.tmps.getD 35 undef = .bool false := hd { on := 3, ground := .data } (by simp) rfl
      rw [Array.getD_eq_getD_getElem?] at t35
      have t40 : a.tmps.getD 40 undef = .bool false := hd { on := 8, ground := .data } (by simp) rfl
      rw [Array.getD_eq_getD_getElem?] at t40
      refine .inl ⟨rfl, ?_⟩
      go_simp
      exact ⟨Below.refl _ _, rfl⟩
    · have t41 : a.tmps.getD 41 undef = .bool false := hd { on := 9, ground := .data } (by simp) rfl
      rw [Array.getD_eq_getD_getElem?] at t41
      refine .inl ⟨rfl, ?_⟩
      go_simp
      exact ⟨Below.refl _ _, rfl⟩
    · have t9 : a.tmps.getD 9 undef = .pointer (some ⟨g, 0, none⟩) := hF.at 9 (by kernel_rfl)
      rw [Array.getD_eq_getD_getElem?] at t9
      have g42 : a.eval (.tmp 42) = .bool false := hd { on := 10, ground := .guard } (by simp) rfl
      refine .inl ⟨(by simp only [Region.wanted]; rw [yielded_of (d := 42) (by rfl) g42]; rfl), ?_⟩
      clear g42
      rw [run_obox _ _ 32 (.tmp 9) rfl (g) (by simpa [Act.eval] using t9) 32 (D.arr (.slice ao n c)) _ (HY W hE) Try.underlying32 rfl (st_inf _ _)]
      exact ⟨Below.refl _ _, rfl⟩
    · have t1 : a.tmps.getD 1 undef = .int .i64 A := hF.at 1 (by kernel_rfl)
      rw [Array.getD_eq_getD_getElem?] at t1
      have g42 : a.eval (.tmp 42) = .bool false := hd { on := 10, ground := .guard } (by simp) rfl
      refine .inl ⟨(by simp only [Region.wanted]; rw [yielded_of (d := 42) (by rfl) g42]; rfl), ?_⟩
      clear g42
      go_simp
      exact ⟨Below.refl _ _, rfl⟩
    · have t3 : a.tmps.getD 3 undef = .int .i64 C := hF.at 3 (by kernel_rfl)
      rw [Array.getD_eq_getD_getElem?] at t3
      have g42 : a.eval (.tmp 42) = .bool false := hd { on := 10, ground := .guard } (by simp) rfl
      refine .inl ⟨(by simp only [Region.wanted]; rw [yielded_of (d := 42) (by rfl) g42]; rfl), ?_⟩
      clear g42
      go_simp
      exact ⟨Below.refl _ _, rfl⟩
    · have t44 : a.tmps.getD 44 undef = .int .i64 A := hd { on := 12, ground := .data } (by simp) rfl
      rw [Array.getD_eq_getD_getElem?] at t44
      have t45 : a.tmps.getD 45 undef = .int .i64 C := hd { on := 13, ground := .data } (by simp) rfl
      rw [Array.getD_eq_getD_getElem?] at t45
      have g42 : a.eval (.tmp 42) = .bool false := hd { on := 10, ground := .guard } (by simp) rfl
      refine .inl ⟨(by simp only [Region.wanted]; rw [yielded_of (d := 42) (by rfl) g42]; rfl), ?_⟩
      clear g42
      have hw := HW1.out
      go_simp
      exact ⟨Below.refl _ _, rfl⟩
    · have t2 : a.tmps.getD 2 undef = .int .i64 B := hF.at 2 (by kernel_rfl)
      rw [Array.getD_eq_getD_getElem?] at t2
      have g42 : a.eval (.tmp 42) = .bool false := hd { on := 10, ground := .guard } (by simp) rfl
      refine .inl ⟨(by simp only [Region.wanted]; rw [yielded_of (d := 42) (by rfl) g42]; rfl), ?_⟩
      clear g42
      go_simp
      exact ⟨Below.refl _ _, rfl⟩
    · have t47 : a.tmps.getD 47 undef = .int .i64 B := hd { on := 15, ground := .data } (by simp) rfl
      rw [Array.getD_eq_getD_getElem?] at t47
      have g42 : a.eval (.tmp 42) = .bool false := hd { on := 10, ground := .guard } (by simp) rfl
      refine .inl ⟨(by simp only [Region.wanted]; rw [yielded_of (d := 42) (by rfl) g42]; rfl), ?_⟩
      clear g42
      have hw := HW2.out
      go_simp
      exact ⟨Below.refl _ _, rfl⟩
    · have t43 : a.tmps.getD 43 undef = .agg (D.arr (.slice ao n c)) := hd { on := 11, ground := .data } (by simp) rfl
      rw [Array.getD_eq_getD_getElem?] at t43
      have t46 : a.tmps.getD 46 undef = .int .i64 (A + C) := hd { on := 14, ground := .data } (by simp) rfl
      rw [Array.getD_eq_getD_getElem?] at t46
      have t48 : a.tmps.getD 48 undef = .int .i64 (B + 7) := hd { on := 16, ground := .data } (by simp) rfl
      rw [Array.getD_eq_getD_getElem?] at t48
      have g42 : a.eval (.tmp 42) = .bool false := hd { on := 10, ground := .guard } (by simp) rfl
      refine .inl ⟨(by simp only [Region.wanted]; rw [yielded_of (d := 42) (by rfl) g42]; rfl), ?_⟩
      clear g42
      go_simp
      exact (HBe W (HP W hE)).mono fun e w2 ⟨mv, h1, h2, h3⟩ => ⟨_, h1, h3, mv, rfl, h2⟩
    · have t9 : a.tmps.getD 9 undef = .pointer (some ⟨g, 0, none⟩) := hF.at 9 (by kernel_rfl)
      rw [Array.getD_eq_getD_getElem?] at t9
      have g42 : a.eval (.tmp 42) = .bool false := hd { on := 10, ground := .guard } (by simp) rfl
      refine .inl ⟨(by simp only [Region.wanted]; rw [yielded_of (d := 42) (by rfl) g42]; rfl), ?_⟩
      clear g42
      rw [run_obox _ _ 32 (.tmp 9) rfl (g) (by simpa [Act.eval] using t9) 32 (D.arr (.slice ao n c)) _ (HY W hE) Try.underlying32 rfl (st_inf _ _)]
      exact ⟨Below.refl _ _, rfl⟩
    · obtain ⟨v49, t49, p49⟩ : ∃ v, a.tmps.getD 49 undef = .agg (D.arr v) ∧ IsPairs W v D.host.tags := hd { on := 17, ground := .data } (by simp) rfl
      rw [Array.getD_eq_getD_getElem?] at t49
      have t50 : a.tmps.getD 50 undef = .agg (D.arr (.slice ao n c)) := hd { on := 18, ground := .data } (by simp) rfl
      rw [Array.getD_eq_getD_getElem?] at t50
      have g42 : a.eval (.tmp 42) = .bool false := hd { on := 10, ground := .guard } (by simp) rfl
      refine .inl ⟨(by simp only [Region.wanted]; rw [yielded_of (d := 42) (by rfl) g42]; rfl), ?_⟩
      clear g42
      go_simp
      exact (HSame W v49 p49 (HP W hE)).mono fun e w2 h => ⟨_, h.1, h.2, rfl⟩
    · have t51 : a.tmps.getD 51 undef = .bool true := hd { on := 19, ground := .data } (by simp) rfl
      rw [Array.getD_eq_getD_getElem?] at t51
      have g42 : a.eval (.tmp 42) = .bool false := hd { on := 10, ground := .guard } (by simp) rfl
      refine .inl ⟨(by simp only [Region.wanted]; rw [yielded_of (d := 42) (by rfl) g42]; rfl), ?_⟩
      clear g42
      go_simp
      exact ⟨Below.refl _ _, rfl⟩
    · have t42 : a.tmps.getD 42 undef = .bool false := hd { on := 10, ground := .data } (by simp) rfl
      rw [Array.getD_eq_getD_getElem?] at t42
      have t52 : a.tmps.getD 52 undef = .bool false := hd { on := 20, ground := .data } (by simp) rfl
      rw [Array.getD_eq_getD_getElem?] at t52
      refine .inl ⟨rfl, ?_⟩
      go_simp
      exact ⟨Below.refl _ _, rfl⟩
    · have t53 : a.tmps.getD 53 undef = .bool false := hd { on := 21, ground := .data } (by simp) rfl
      rw [Array.getD_eq_getD_getElem?] at t53
      refine .inl ⟨rfl, ?_⟩
      go_simp
      exact ⟨Below.refl _ _, rfl⟩
    · have t4 : a.tmps.getD 4 undef = .pointer (some ⟨w.heap.size, 0, none⟩) := hF.at 4 (by kernel_rfl)
      rw [Array.getD_eq_getD_getElem?] at t4
      have g54 : a.eval (.tmp 54) = .bool false := hd { on := 22, ground := .guard } (by simp) rfl
      refine .inl ⟨(by simp only [Region.wanted]; rw [yielded_of (d := 54) (by rfl) g54]; rfl), ?_⟩
      clear g54
      rw [run_obox _ _ 32 (.tmp 4) rfl (w.heap.size) (by simpa [Act.eval] using t4) 32 ((calm s).arr mv) _ (HX W hE) Try.underlying32 rfl (st_inf _ _)]
      exact ⟨Below.refl _ _, rfl⟩
    · have t1 : a.tmps.getD 1 undef = .int .i64 A := hF.at 1 (by kernel_rfl)
      rw [Array.getD_eq_getD_getElem?] at t1
      have g54 : a.eval (.tmp 54) = .bool false := hd { on := 22, ground := .guard } (by simp) rfl
      refine .inl ⟨(by simp only [Region.wanted]; rw [yielded_of (d := 54) (by rfl) g54]; rfl), ?_⟩
      clear g54
      go_simp
      exact ⟨Below.refl _ _, rfl⟩
    · have t55 : a.tmps.getD 55 undef = .agg ((calm s).arr mv) := hd { on := 23, ground := .data } (by simp) rfl
      rw [Array.getD_eq_getD_getElem?] at t55
      have t56 : a.tmps.getD 56 undef = .int .i64 A := hd { on := 24, ground := .data } (by simp) rfl
      rw [Array.getD_eq_getD_getElem?] at t56
      have g54 : a.eval (.tmp 54) = .bool false := hd { on := 22, ground := .guard } (by simp) rfl
      refine .inl ⟨(by simp only [Region.wanted]; rw [yielded_of (d := 54) (by rfl) g54]; rfl), ?_⟩
      clear g54
      go_simp
      exact (HOs W).mono fun e w2 h => ⟨_, h.1, h.2, rfl⟩
    · have t54 : a.tmps.getD 54 undef = .bool false := hd { on := 22, ground := .data } (by simp) rfl
      rw [Array.getD_eq_getD_getElem?] at t54
      have t57 : a.tmps.getD 57 undef = .bool false := hd { on := 25, ground := .data } (by simp) rfl
      rw [Array.getD_eq_getD_getElem?] at t57
      refine .inl ⟨rfl, ?_⟩
      go_simp
      exact ⟨Below.refl _ _, rfl⟩
  · intro vs W hE hV
    have h26 : vs 26 = .bool false := hV 26 (by decide)
    have HXf : Hid (HasBox W w.heap.size 32 ((calm s).arr mv)) := HX W hE
    have HYf : Hid (HasBox W g 32 (D.arr (.slice ao n c))) := HY W hE
    have HBf : Hid (Below w.heap.size w W) := HB6.out.trans (hE.mono HB6.out.size)
    clear hV hE
    simp only [putsV, dstsV, List.foldl, h26, Act.put, List.setIfInBounds_toArray, List.set_cons_succ, List.set_cons_zero]
    clear h26
    generalize vs 0 = y0
    generalize vs 1 = y1
    generalize vs 2 = y2
    generalize vs 3 = y3
    generalize vs 4 = y4
    generalize vs 5 = y5
    generalize vs 6 = y6
    generalize vs 7 = y7
    generalize vs 8 = y8
    generalize vs 9 = y9
    generalize vs 10 = y10
    generalize vs 11 = y11
    generalize vs 12 = y12
    generalize vs 13 = y13
    generalize vs 14 = y14
    generalize vs 15 = y15
    generalize vs 16 = y16
    generalize vs 17 = y17
    generalize vs 18 = y18
    generalize vs 19 = y19
    generalize vs 20 = y20
    generalize vs 21 = y21
    generalize vs 22 = y22
    generalize vs 23 = y23
    generalize vs 24 = y24
    generalize vs 25 = y25
    refine ‹∀ (a : Act) (w : World), Code.wp Try.prog (Code.cond _ _ _) _ a w → _› _ _ ?_
    have c20 : W.cell? ⟨w.heap.size, 20, none⟩ = some (.int .i64 s.active) := HXf.out.cell 20
    have HBg := HBf
    clear HX HY HP HC17 HL0 HSame HOs HBe HW2 HXf HBf
    by_cases hact : s.active ≤ 0
    · have HO0 : Hid _ := HOa.out hact
      clear HOa HOb HLb HB6
      go_wp2_with (first | (refine wpList_load_all (by first | rfl | (simp [Region.wanted, yielded]; done)) 32 (.tmp 9) rfl g rfl 32 _ _ HYf.out Try.underlying32 rfl (st_inf _ _) ?_) | fail)
      refine (HO0.out _ _).mono ?_
      rintro e w7 ⟨rfl, hb⟩
      have HB7 : Hid (Below w.heap.size w w7) := HBg.out.trans (hb.mono HBg.out.size)
      clear hb c20 HYf HBg
      go_wp2_with fail
      refine (awake15_any _).mono ?_
      rintro e w8 ⟨rfl, hb⟩
      have HB8 : Hid (Below w.heap.size w w8) := HB7.out.trans (hb.mono HB7.out.size)
      clear hb
      go_wp2
      go_ret
      exact ⟨rfl, HB8.out⟩
    · have HO1 : Hid _ := HOb.out (by omega)
      have HL1 : Hid _ := HLb
      have hw1 := HW1.out
      clear HOa HOb HLb HB6
      by_cases hge : B ≤ C
      · have HO2 : Hid (∀ (mv : Value) (W : World), Calls Try.prog 10 #[.agg (D.arr mv), .int .i64 (A + C)] W fun e w' => e = .returned (.bool true) ∧ Below W.heap.size W w') := fun mv W => by
          have := HO1.out mv W
          rwa [decide_eq_true hge] at this
        have hdec : decide (B ≤ C) = true := decide_eq_true hge
        have HL2 : Hid (∀ (mv : Value) (W : World), Calls Try.prog 8 #[.agg (D.arr mv), .int .i64 (A + C)] W fun e w' => e = .returned (.int .i64 0) ∧ Below W.heap.size W w') := fun mv W => by
          have := HL1.out mv W
          rwa [show (if B - C < 0 then 0 else B - C) = 0 by split <;> omega] at this
        clear HO1 HL1
        go_wp2_with (first | (refine wpList_load_all (by first | rfl | (simp [Region.wanted, yielded]; done)) 32 (.tmp 9) rfl g rfl 32 _ _ HYf.out Try.underlying32 rfl (st_inf _ _) ?_) | fail)
        refine (HO2.out _ _).mono ?_
        rintro e w7 ⟨rfl, hb⟩
        have HY7 : Hid (HasBox w7 g 32 (D.arr (.slice ao n c))) := HYf.out.below hb
        have HB7 : Hid (Below w.heap.size w w7) := HBg.out.trans (hb.mono HBg.out.size)
        clear hb c20 HYf HBg
        go_wp2_with (first | (refine wpList_load_all (by first | rfl | (simp [Region.wanted, yielded]; done)) 32 (.tmp 9) rfl g rfl 32 _ _ HY7.out Try.underlying32 rfl (st_inf _ _) ?_) | fail)
        refine (HL2.out _ _).mono ?_
        rintro e w8 ⟨rfl, hb⟩
        have HB8 : Hid (Below w.heap.size w w8) := HB7.out.trans (hb.mono HB7.out.size)
        clear hb HY7 HB7
        go_wp2_with fail
        refine (awake15_any _).mono ?_
        rintro e w9 ⟨rfl, hb⟩
        have HB9 : Hid (Below w.heap.size w w9) := HB8.out.trans (hb.mono HB8.out.size)
        clear hb
        go_wp2
        go_ret
        exact ⟨rfl, HB9.out⟩
      · have HO2 : Hid (∀ (mv : Value) (W : World), Calls Try.prog 10 #[.agg (D.arr mv), .int .i64 (A + C)] W fun e w' => e = .returned (.bool false) ∧ Below W.heap.size W w') := fun mv W => by
          have := HO1.out mv W
          rwa [decide_eq_false hge] at this
        have hdec : decide (B ≤ C) = false := decide_eq_false hge
        have HL2 : Hid (∀ (mv : Value) (W : World), Calls Try.prog 8 #[.agg (D.arr mv), .int .i64 (A + C)] W fun e w' => e = .returned (.int .i64 (B - C)) ∧ Below W.heap.size W w') := fun mv W => by
          have := HL1.out mv W
          rwa [show (if B - C < 0 then 0 else B - C) = B - C by split <;> omega] at this
        clear HO1 HL1
        go_wp2_with (first | (refine wpList_load_all (by first | rfl | (simp [Region.wanted, yielded]; done)) 32 (.tmp 9) rfl g rfl 32 _ _ HYf.out Try.underlying32 rfl (st_inf _ _) ?_) | fail)
        refine (HO2.out _ _).mono ?_
        rintro e w7 ⟨rfl, hb⟩
        have HY7 : Hid (HasBox w7 g 32 (D.arr (.slice ao n c))) := HYf.out.below hb
        have HB7 : Hid (Below w.heap.size w w7) := HBg.out.trans (hb.mono HBg.out.size)
        clear hb c20 HYf HBg
        go_wp2_with (first | (refine wpList_load_all (by first | rfl | (simp [Region.wanted, yielded]; done)) 32 (.tmp 9) rfl g rfl 32 _ _ HY7.out Try.underlying32 rfl (st_inf _ _) ?_) | fail)
        refine (HL2.out _ _).mono ?_
        rintro e w8 ⟨rfl, hb⟩
        have HB8 : Hid (Below w.heap.size w w8) := HB7.out.trans (hb.mono HB7.out.size)
        clear hb HY7 HB7
        go_wp2_with fail
        refine (awake15_any _).mono ?_
        rintro e w9 ⟨rfl, hb⟩
        have HB9 : Hid (Below w.heap.size w w9) := HB8.out.trans (hb.mono HB8.out.size)
        clear hb
        go_wp2
        go_ret
        exact ⟨rfl, HB9.out⟩

set_option maxRecDepth 100000 in
theorem lifted_DrainEnds (os : Os) (started : os.Started) (H : Type) (enc : TypeId × Value → H) :
    ReturnsInHanded {} Try.checked os 3 .any (Rows.drainEndsSpec.pre6 enc Try.prog Try.f3 Rows.drainEndsRow.domain false) (Rows.drainEndsSpec.post enc Try.prog Try.f3 false true false false) := by
  refine returnsInHanded_of_change_sized (C := Try.checked) own started (by kernel_rfl) Try.func3
    (ChangeSpec.witness6 (enc := enc) (C := Try.checked) false ⟨#[], #[.agg #[.int .i64 0, .string ByteArray.empty, .int .i64 0, .string ByteArray.empty, .int .i64 0, .slice none 0 0, .bool false, .int .i64 0, .int .i64 0, .int .i64 0, .int .i64 0, .int .i64 0, .int .i64 0, .bool false, .int .i64 0, .int .i64 0, .int .i64 0, .bool false, .int .i64 0, .int .i64 0, .int .i64 0], .int .i64 0, .int .i64 0, .int .i64 0], []⟩ 8 (by kernel_rfl) (by kernel_rfl) (by kernel_rfl) (by kernel_rfl)) ?_
  intro W base args ds gs before hval0 hW hcnd hsz0 hholds
  have hval : ∀ (j : Nat) t v, Try.f3.params[j]? = some t → args[j]? = some v → Value.okWide Try.prog W .any base t v := hval0
  have hW' := hW
  obtain ⟨p, q, hA0, hV, rfl, hfz, hnd⟩ := hW
  have hA : DataW.TrodAll enc Try.prog W 0 (fun _ => true) true Try.f3.params.toList args.toList ds p := hA0
  have hsz : (DataW.weightsEach Try.prog (Try.f3.params.toList ++ Rows.drainEndsSpec.plain.varTypes Try.prog) (ds ++ gs)).all (· ≤ reachBytes) = true := hsz0
  rw [Try.params3] at hA hval hsz
  obtain ⟨v0, vs0, d0, ds0, p0, q0, hargs, rfl, rfl, h0, r0⟩ := trodAll_cons hA
  obtain ⟨v1, vs1, d1, ds1, p1, q1, rfl, rfl, rfl, h1, r1⟩ := trodAll_cons r0
  obtain ⟨v2, vs2, d2, ds2, p2, q2, rfl, rfl, rfl, h2, r2⟩ := trodAll_cons r1
  obtain ⟨v3, vs3, d3, ds3, p3, q3, rfl, rfl, rfl, h3, r3⟩ := trodAll_cons r2
  obtain ⟨rfl, rfl, rfl⟩ := trodAll_nil r3
  obtain rfl : args = #[v0, v1, v2, v3] := by cases args; simp_all
  obtain ⟨rfl, rfl⟩ := trodVars_none hV
  have k0 := h0
  have lt0 : ∀ x ∈ p0, x.block < W.heap.size := by obtain ⟨m, hm⟩ := k0; exact DataW.trod_lt m _ _ _ hm
  obtain ⟨c0, m0, dm0, dd0, rfl, i0, w0, rfl, x0⟩ := open_status (hval 0 32 v0 rfl rfl) h0
  have z0 : c0.host.tags.length ≤ 4398046510976 := sized_status hsz (j := 0) rfl rfl x0
  obtain ⟨a1, rfl, rfl, rfl, w1⟩ := open_int Try.underlying3 (hval 1 3 v1 rfl rfl) h1
  obtain ⟨a2, rfl, rfl, rfl, w2⟩ := open_int Try.underlying3 (hval 2 3 v2 rfl rfl) h2
  obtain ⟨a3, rfl, rfl, rfl, w3⟩ := open_int Try.underlying3 (hval 3 3 v3 rfl rfl) h3
  clear hA0 hval0
  refine (walk_DrainEnds c0 m0 i0 z0 a1 (wf_i64 w1) a2 (wf_i64 w2) a3 (wf_i64 w3) W w0).mono fun e W' ⟨he, bel⟩ => ?_
  subst he
  exact ⟨_, rfl, _, _, _, [], _, [], hW', trodAll_mk1 (shut_bool Try.underlying4 _), (trodAll_cons_mk (Below.trod laidOut (by kernel_rfl) (of_decide_eq_true (by kernel_rfl)) k0 bel lt0) (trodAll_cons_mk (shut_int Try.underlying3 w1) (trodAll_cons_mk (shut_int Try.underlying3 w2) (trodAll_cons_mk (shut_int Try.underlying3 w3) trodAll_mk0)))), rfl, bel.frame _, fun h => by cases h⟩

theorem over_DrainEnds : Rows.drainEndsRow.holds Try.pinned (OpenSpec.ofChange Rows.drainEndsSpec) :=
  OpenClaim.holds_of_wide 3 Try.f3 rfl rfl rfl rfl rfl rfl rfl ⟨rfl, rfl, rfl, rfl, rfl⟩ rfl rfl rfl rfl rfl (by kernel_rfl) Try.func3 (by kernel_rfl)
    (of_decide_eq_true (by kernel_rfl)) (by unfold Func.isWrapper; first | (rw [if_pos (by decide +kernel)]; kernel_rfl) | (rw [if_neg (by decide +kernel)]; exact ⟨rfl, rfl⟩))
    (fun os started H enc _ => lifted_DrainEnds os started H enc)

/-- The statement. -/
theorem drainEnds_holds : Rows.DrainEndsSaid := over_DrainEnds
#print axioms drainEnds_holds

end Go.Proofs.Ythmfmeibjpgokaa

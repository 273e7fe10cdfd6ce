/-
  DrainLeft, for every status and times, its Meta as long as the reach lets it be: what is left falls with the time, and is nought at the end; who does not drain has none.
-/
import Derived.Test.YthmfmeibjpgokaaDrainFrame
namespace Go.Proofs.Ythmfmeibjpgokaa
open Go.ChangeShapes Go.WideShapes Go.ChangeAt Go.RowKit
open Go.ChangeMaps (open_string shut_string)

set_option maxRecDepth 100000 in
set_option maxHeartbeats 8000000 in
theorem walk_DrainLeft (s : StatT) (mv : Value) (_ : okS s) (_ : s.host.tags.length ≤ 4398046510976) (now : Int) (_ : -9223372036854775808 ≤ now ∧ now ≤ 9223372036854775807) (a : Int) (_ : -9223372036854775808 ≤ a ∧ a ≤ 9223372036854775807)
    (b : Int) (_ : -9223372036854775808 ≤ b ∧ b ≤ 9223372036854775807) (w : World) (hm : IsPairs w mv s.host.tags) :
    Calls Try.prog 4 #[.agg (s.arr mv), .int .i64 now, .int .i64 a, .int .i64 b] w fun e w' => e = .returned (.bool true) ∧ Below w.heap.size w w' := by
  have HM : Hid (IsPairs w mv s.host.tags) := hm
  have HLeft : ∀ (n : Int) (W : World), Calls Try.prog 8 #[.agg (s.arr mv), .int .i64 n] W fun e w' => e = .returned (.int .i64 (leftD s n)) ∧ Below W.heap.size W w' := fun n W => dLeft_any s mv n W
  have HOver : ∀ (n : Int) (W : World), Calls Try.prog 10 #[.agg (s.arr mv), .int .i64 n] W fun e w' => e = .returned (.bool (overD s n)) ∧ Below W.heap.size W w' := fun n W => dOver_any s mv n W
  clear hm
  go_enter Try.func4, Try.ntmps4
  go_upto_region 1 with fail
  generalize hW0 : w.alloc _ = W0
  have HX0 : Hid (HasBox W0 w.heap.size 32 (s.arr mv)) := by show HasBox _ _ _ _; rw [← hW0]; exact hasBox_new w _ _
  have HB0 : Hid (Below w.heap.size w W0) := by show Below _ _ _; rw [← hW0]; exact (Below.refl _ _).alloc (Nat.le_refl _) _
  clear hW0
  go_wp2_with (first | (refine wpList_load_part rfl 24 (.tmp 9) rfl w.heap.size 0 rfl _ _ (st_host s mv HX0.out) Try.underlying24 rfl sizeHost ?_) | fail)
  refine (light_any s.host mv _ (HM.out.below HB0.out)).mono ?_
  rintro e w1 ⟨r, hr, rfl, hb⟩
  have HX1 : Hid (HasBox w1 w.heap.size 32 (s.arr mv)) := HX0.out.below hb
  have HB1 : Hid (Below w.heap.size w w1) := HB0.out.trans (hb.mono HB0.out.size)
  clear hb HX0 HB0
  by_cases hc : 0 < r
  · clear HLeft HOver
    go_wp2_with fail
    refine (awake15_any _).mono ?_
    rintro e w2 ⟨rfl, hb⟩
    have HB2 : Hid (Below w.heap.size w w2) := HB1.out.trans (hb.mono HB1.out.size)
    clear hb
    go_wp2
    go_ret
    exact ⟨rfl, HB2.out⟩
  obtain ⟨A, hA, hA2, hA3, a0, a1⟩ := u_modI a 1099511627776 (by omega) (by omega)
  obtain ⟨B, hB, hB2, hB3, b0, b1⟩ := u_modI b 1099511627776 (by omega) (by omega)
  have HD' : ∃ dr, s.drains = dr := ⟨_, rfl⟩
  obtain ⟨dr, hd⟩ := HD'
  have HD : Hid (s.drains = dr) := hd
  clear hd hr
  cases dr with
  | false =>
    have HL0 := HLeft now
    have HO0 := HOver now
    rw [leftD_none HD.out] at HL0
    rw [overD_none HD.out] at HO0
    have HLh : Hid _ := HL0
    have HOh : Hid _ := HO0
    clear HLeft HOver HL0 HO0
    have c17 : w1.cell? ⟨w.heap.size, 17, none⟩ = some (.bool false) := by rw [← HD.out]; exact HX1.out.cell 17
    by_cases hsw : B < A
    · go_wp2_with (first | (refine wpList_load_all (by first | rfl | (simp [Region.wanted, yielded]; done)) 32 (.tmp 4) rfl w.heap.size rfl 32 _ _ HX1.out Try.underlying32 rfl (st_inf _ _) ?_) | fail)
      refine (HLh.out _).mono ?_
      rintro e w2 ⟨rfl, hb⟩
      have HX2 : Hid (HasBox w2 w.heap.size 32 (s.arr mv)) := HX1.out.below hb
      have HB2 : Hid (Below w.heap.size w w2) := HB1.out.trans (hb.mono HB1.out.size)
      clear hb HX1 HB1 c17
      go_wp2_with (first | (refine wpList_load_all (by first | rfl | (simp [Region.wanted, yielded]; done)) 32 (.tmp 4) rfl w.heap.size rfl 32 _ _ HX2.out Try.underlying32 rfl (st_inf _ _) ?_) | fail)
      refine (HOh.out _).mono ?_
      rintro e w3 ⟨rfl, hb⟩
      have HB3 : Hid (Below w.heap.size w w3) := HB2.out.trans (hb.mono HB2.out.size)
      clear hb HX2 HB2
      go_wp2_with fail
      refine (awake15_any _).mono ?_
      rintro e w4 ⟨rfl, hb⟩
      have HB4 : Hid (Below w.heap.size w w4) := HB3.out.trans (hb.mono HB3.out.size)
      clear hb HB3
      go_wp2
      go_ret
      exact ⟨rfl, HB4.out⟩
    · go_wp2_with (first | (refine wpList_load_all (by first | rfl | (simp [Region.wanted, yielded]; done)) 32 (.tmp 4) rfl w.heap.size rfl 32 _ _ HX1.out Try.underlying32 rfl (st_inf _ _) ?_) | fail)
      refine (HLh.out _).mono ?_
      rintro e w2 ⟨rfl, hb⟩
      have HX2 : Hid (HasBox w2 w.heap.size 32 (s.arr mv)) := HX1.out.below hb
      have HB2 : Hid (Below w.heap.size w w2) := HB1.out.trans (hb.mono HB1.out.size)
      clear hb HX1 HB1 c17
      go_wp2_with (first | (refine wpList_load_all (by first | rfl | (simp [Region.wanted, yielded]; done)) 32 (.tmp 4) rfl w.heap.size rfl 32 _ _ HX2.out Try.underlying32 rfl (st_inf _ _) ?_) | fail)
      refine (HOh.out _).mono ?_
      rintro e w3 ⟨rfl, hb⟩
      have HB3 : Hid (Below w.heap.size w w3) := HB2.out.trans (hb.mono HB2.out.size)
      clear hb HX2 HB2
      go_wp2_with fail
      refine (awake15_any _).mono ?_
      rintro e w4 ⟨rfl, hb⟩
      have HB4 : Hid (Below w.heap.size w w4) := HB3.out.trans (hb.mono HB3.out.size)
      clear hb HB3
      go_wp2
      go_ret
      exact ⟨rfl, HB4.out⟩
  | true =>
    have c17 : w1.cell? ⟨w.heap.size, 17, none⟩ = some (.bool true) := by rw [← HD.out]; exact HX1.out.cell 17
    have HX : ∀ W, Below w1.heap.size w1 W → HasBox W w.heap.size 32 (s.arr mv) := fun W h => HX1.out.below h
    have HB4 := HB1
    clear HX1 HB1 HD HM
    by_cases hsw : B < A
    · go_wp2
      have hle : B ≤ A := by omega
      have hQ := leftD_falls (s := s) hle
      have hP := overD_stays (s := s) hle
      have HL1 := HLeft B
      have HL2 := HLeft A
      have HLe := HLeft 4611686018427387904
      have HO1 := HOver B
      have HO2 := HOver A
      rw [leftD_end] at HLe
      generalize leftD s B = L1 at HL1 hQ
      generalize leftD s A = L2 at HL2 hQ
      generalize overD s B = p at HO1 hP
      generalize overD s A = q at HO2 hP
      have HQ : Hid (L2 ≤ L1) := hQ
      clear hQ hle HLeft HOver
      cases p with
      | false =>
        clear hP
        refine wp_region_mp ([eqP (.agg (s.arr mv)), eqP (.int .i64 B), eqP (.int .i64 L1), eqP (.agg (s.arr mv)), eqP (.int .i64 A), eqP (.int .i64 L2), eqP (.bool true), eqP (.bool true), eqP (.agg (s.arr mv)), eqP (.int .i64 B), eqP (.bool false), eqP (.bool true), eqP (.bool true), eqP (undef), eqP (undef), eqP (undef), eqP (.bool true), eqP (.bool true), eqP (.bool true), eqP (.agg (s.arr mv)), eqP (.int .i64 0), eqP (.bool true), eqP (.bool true), eqP (.bool true), eqP (.bool true), eqP (.bool true), eqP (.bool true)]) (by kernel_rfl) (by kernel_rfl) ?_ ?_
        · simp only [stepsAll3]
          refine ⟨fun a W hF hE hd => ?_, fun a W hF hE hd => ?_, fun a W hF hE hd => ?_, fun a W hF hE hd => ?_, fun a W hF hE hd => ?_, fun a W hF hE hd => ?_, fun a W hF hE hd => ?_, fun a W hF hE hd => ?_, fun a W hF hE hd => ?_, fun a W hF hE hd => ?_, fun a W hF hE hd => ?_, fun a W hF hE hd => ?_, fun a W hF hE hd => ?_, fun a W hF hE hd => ?_, fun a W hF hE hd => ?_, fun a W hF hE hd => ?_, fun a W hF hE hd => ?_, fun a W hF hE hd => ?_, fun a W hF hE hd => ?_, fun a W hF hE hd => ?_, fun a W hF hE hd => ?_, fun a W hF hE hd => ?_, fun a W hF hE hd => ?_, fun a W hF hE hd => ?_, fun a W hF hE hd => ?_, fun a W hF hE hd => ?_, fun a W hF hE hd => ?_, trivial⟩
          all_goals unfold StepAt
          · have t4 : a.tmps.getD 4 undef = .pointer (some ⟨w.heap.size, 0, none⟩) := hF.at 4 (by kernel_rfl)
            rw [Array.getD_eq_getD_getElem?] at t4
            refine .inl ⟨rfl, ?_⟩
            rw [run_obox _ _ 32 (.tmp 4) rfl (w.heap.size) (by simpa [Act.eval] using t4) 32 (s.arr mv) _ (HX W hE) Try.underlying32 rfl (st_inf _ _)]
            exact ⟨Below.refl _ _, rfl⟩
          · have t2 : a.tmps.getD 2 undef = .int .i64 B := hF.at 2 (by kernel_rfl)
            rw [Array.getD_eq_getD_getElem?] at t2
            refine .inl ⟨rfl, ?_⟩
            go_simp
            exact ⟨Below.refl _ _, rfl⟩
          · have t43 : a.tmps.getD 43 undef = .agg (s.arr mv) := hd { on := 0, ground := .data } (by simp) rfl
            rw [Array.getD_eq_getD_getElem?] at t43
            have t44 : a.tmps.getD 44 undef = .int .i64 B := hd { on := 1, ground := .data } (by simp) rfl
            rw [Array.getD_eq_getD_getElem?] at t44
            refine .inl ⟨rfl, ?_⟩
            go_simp
            exact (HL1 W).mono fun e w2 h => ⟨_, h.1, h.2, rfl⟩
          · have t4 : a.tmps.getD 4 undef = .pointer (some ⟨w.heap.size, 0, none⟩) := hF.at 4 (by kernel_rfl)
            rw [Array.getD_eq_getD_getElem?] at t4
            refine .inl ⟨rfl, ?_⟩
            rw [run_obox _ _ 32 (.tmp 4) rfl (w.heap.size) (by simpa [Act.eval] using t4) 32 (s.arr mv) _ (HX W hE) Try.underlying32 rfl (st_inf _ _)]
            exact ⟨Below.refl _ _, rfl⟩
          · have t3 : a.tmps.getD 3 undef = .int .i64 A := hF.at 3 (by kernel_rfl)
            rw [Array.getD_eq_getD_getElem?] at t3
            refine .inl ⟨rfl, ?_⟩
            go_simp
            exact ⟨Below.refl _ _, rfl⟩
          · have t46 : a.tmps.getD 46 undef = .agg (s.arr mv) := hd { on := 3, ground := .data } (by simp) rfl
            rw [Array.getD_eq_getD_getElem?] at t46
            have t47 : a.tmps.getD 47 undef = .int .i64 A := hd { on := 4, ground := .data } (by simp) rfl
            rw [Array.getD_eq_getD_getElem?] at t47
            refine .inl ⟨rfl, ?_⟩
            go_simp
            exact (HL2 W).mono fun e w2 h => ⟨_, h.1, h.2, rfl⟩
          · have t45 : a.tmps.getD 45 undef = .int .i64 L1 := hd { on := 2, ground := .data } (by simp) rfl
            rw [Array.getD_eq_getD_getElem?] at t45
            have t48 : a.tmps.getD 48 undef = .int .i64 L2 := hd { on := 5, ground := .data } (by simp) rfl
            rw [Array.getD_eq_getD_getElem?] at t48
            refine .inl ⟨rfl, ?_⟩
            have hq := HQ.out
            go_simp
            exact ⟨Below.refl _ _, rfl⟩
          · have t49 : a.tmps.getD 49 undef = .bool true := hd { on := 6, ground := .data } (by simp) rfl
            rw [Array.getD_eq_getD_getElem?] at t49
            refine .inl ⟨rfl, ?_⟩
            go_simp
            exact ⟨Below.refl _ _, rfl⟩
          · have t4 : a.tmps.getD 4 undef = .pointer (some ⟨w.heap.size, 0, none⟩) := hF.at 4 (by kernel_rfl)
            rw [Array.getD_eq_getD_getElem?] at t4
            have g50 : a.eval (.tmp 50) = .bool true := hd { on := 7, ground := .guard } (by simp) rfl
            refine .inl ⟨(by simp only [Region.wanted]; rw [yielded_of (d := 50) (by rfl) g50]; rfl), ?_⟩
            clear g50
            rw [run_obox _ _ 32 (.tmp 4) rfl (w.heap.size) (by simpa [Act.eval] using t4) 32 (s.arr mv) _ (HX W hE) Try.underlying32 rfl (st_inf _ _)]
            exact ⟨Below.refl _ _, rfl⟩
          · have t2 : a.tmps.getD 2 undef = .int .i64 B := hF.at 2 (by kernel_rfl)
            rw [Array.getD_eq_getD_getElem?] at t2
            have g50 : a.eval (.tmp 50) = .bool true := hd { on := 7, ground := .guard } (by simp) rfl
            refine .inl ⟨(by simp only [Region.wanted]; rw [yielded_of (d := 50) (by rfl) g50]; rfl), ?_⟩
            clear g50
            go_simp
            exact ⟨Below.refl _ _, rfl⟩
          · have t51 : a.tmps.getD 51 undef = .agg (s.arr mv) := hd { on := 8, ground := .data } (by simp) rfl
            rw [Array.getD_eq_getD_getElem?] at t51
            have t52 : a.tmps.getD 52 undef = .int .i64 B := hd { on := 9, ground := .data } (by simp) rfl
            rw [Array.getD_eq_getD_getElem?] at t52
            have g50 : a.eval (.tmp 50) = .bool true := hd { on := 7, ground := .guard } (by simp) rfl
            refine .inl ⟨(by simp only [Region.wanted]; rw [yielded_of (d := 50) (by rfl) g50]; rfl), ?_⟩
            clear g50
            go_simp
            exact (HO1 W).mono fun e w2 h => ⟨_, h.1, h.2, rfl⟩
          · have t53 : a.tmps.getD 53 undef = .bool false := hd { on := 10, ground := .data } (by simp) rfl
            rw [Array.getD_eq_getD_getElem?] at t53
            have g50 : a.eval (.tmp 50) = .bool true := hd { on := 7, ground := .guard } (by simp) rfl
            refine .inl ⟨(by simp only [Region.wanted]; rw [yielded_of (d := 50) (by rfl) g50]; rfl), ?_⟩
            clear g50
            go_simp
            exact ⟨Below.refl _ _, rfl⟩
          · have t54 : a.tmps.getD 54 undef = .bool true := hd { on := 11, ground := .data } (by simp) rfl
            rw [Array.getD_eq_getD_getElem?] at t54
            have g50 : a.eval (.tmp 50) = .bool true := hd { on := 7, ground := .guard } (by simp) rfl
            refine .inl ⟨(by simp only [Region.wanted]; rw [yielded_of (d := 50) (by rfl) g50]; rfl), ?_⟩
            clear g50
            go_simp
            exact ⟨Below.refl _ _, rfl⟩
          · have g55 : a.eval (.tmp 55) = .bool true := hd { on := 12, ground := .guard } (by simp) rfl
            exact .inr ⟨(by simp only [Region.wanted]; rw [yielded_of (d := 55) (by rfl) g55]; rfl), rfl⟩
          · have g55 : a.eval (.tmp 55) = .bool true := hd { on := 12, ground := .guard } (by simp) rfl
            exact .inr ⟨(by simp only [Region.wanted]; rw [yielded_of (d := 55) (by rfl) g55]; rfl), rfl⟩
          · have g55 : a.eval (.tmp 55) = .bool true := hd { on := 12, ground := .guard } (by simp) rfl
            exact .inr ⟨(by simp only [Region.wanted]; rw [yielded_of (d := 55) (by rfl) g55]; rfl), rfl⟩
          · have t55 : a.tmps.getD 55 undef = .bool true := hd { on := 12, ground := .data } (by simp) rfl
            rw [Array.getD_eq_getD_getElem?] at t55
            have g50 : a.eval (.tmp 50) = .bool true := hd { on := 7, ground := .guard } (by simp) rfl
            refine .inl ⟨(by simp only [Region.wanted]; rw [yielded_of (d := 50) (by rfl) g50]; rfl), ?_⟩
            clear g50
            go_simp
            exact ⟨Below.refl _ _, rfl⟩
          · have t50 : a.tmps.getD 50 undef = .bool true := hd { on := 7, ground := .data } (by simp) rfl
            rw [Array.getD_eq_getD_getElem?] at t50
            have t59 : a.tmps.getD 59 undef = .bool true := hd { on := 16, ground := .data } (by simp) rfl
            rw [Array.getD_eq_getD_getElem?] at t59
            refine .inl ⟨rfl, ?_⟩
            go_simp
            exact ⟨Below.refl _ _, rfl⟩
          · have t60 : a.tmps.getD 60 undef = .bool true := hd { on := 17, ground := .data } (by simp) rfl
            rw [Array.getD_eq_getD_getElem?] at t60
            refine .inl ⟨rfl, ?_⟩
            go_simp
            exact ⟨Below.refl _ _, rfl⟩
          · have t4 : a.tmps.getD 4 undef = .pointer (some ⟨w.heap.size, 0, none⟩) := hF.at 4 (by kernel_rfl)
            rw [Array.getD_eq_getD_getElem?] at t4
            have g61 : a.eval (.tmp 61) = .bool true := hd { on := 18, ground := .guard } (by simp) rfl
            refine .inl ⟨(by simp only [Region.wanted]; rw [yielded_of (d := 61) (by rfl) g61]; rfl), ?_⟩
            clear g61
            rw [run_obox _ _ 32 (.tmp 4) rfl (w.heap.size) (by simpa [Act.eval] using t4) 32 (s.arr mv) _ (HX W hE) Try.underlying32 rfl (st_inf _ _)]
            exact ⟨Below.refl _ _, rfl⟩
          · have t62 : a.tmps.getD 62 undef = .agg (s.arr mv) := hd { on := 19, ground := .data } (by simp) rfl
            rw [Array.getD_eq_getD_getElem?] at t62
            have g61 : a.eval (.tmp 61) = .bool true := hd { on := 18, ground := .guard } (by simp) rfl
            refine .inl ⟨(by simp only [Region.wanted]; rw [yielded_of (d := 61) (by rfl) g61]; rfl), ?_⟩
            clear g61
            go_simp
            exact (HLe W).mono fun e w2 h => ⟨_, h.1, h.2, rfl⟩
          · have t63 : a.tmps.getD 63 undef = .int .i64 0 := hd { on := 20, ground := .data } (by simp) rfl
            rw [Array.getD_eq_getD_getElem?] at t63
            have g61 : a.eval (.tmp 61) = .bool true := hd { on := 18, ground := .guard } (by simp) rfl
            refine .inl ⟨(by simp only [Region.wanted]; rw [yielded_of (d := 61) (by rfl) g61]; rfl), ?_⟩
            clear g61
            go_simp
            exact ⟨Below.refl _ _, rfl⟩
          · have t61 : a.tmps.getD 61 undef = .bool true := hd { on := 18, ground := .data } (by simp) rfl
            rw [Array.getD_eq_getD_getElem?] at t61
            have t64 : a.tmps.getD 64 undef = .bool true := hd { on := 21, ground := .data } (by simp) rfl
            rw [Array.getD_eq_getD_getElem?] at t64
            refine .inl ⟨rfl, ?_⟩
            go_simp
            exact ⟨Below.refl _ _, rfl⟩
          · have t65 : a.tmps.getD 65 undef = .bool true := hd { on := 22, ground := .data } (by simp) rfl
            rw [Array.getD_eq_getD_getElem?] at t65
            refine .inl ⟨rfl, ?_⟩
            go_simp
            exact ⟨Below.refl _ _, rfl⟩
          · have g66 : a.eval (.tmp 66) = .bool true := hd { on := 23, ground := .guard } (by simp) rfl
            refine .inl ⟨(by simp only [Region.wanted]; rw [yielded_of (d := 66) (by rfl) g66]; rfl), ?_⟩
            clear g66
            go_simp
            exact (awake15_any W).mono fun e w2 h => ⟨_, h.1, h.2, rfl⟩
          · have t66 : a.tmps.getD 66 undef = .bool true := hd { on := 23, ground := .data } (by simp) rfl
            rw [Array.getD_eq_getD_getElem?] at t66
            have t67 : a.tmps.getD 67 undef = .bool true := hd { on := 24, ground := .data } (by simp) rfl
            rw [Array.getD_eq_getD_getElem?] at t67
            refine .inl ⟨rfl, ?_⟩
            go_simp
            exact ⟨Below.refl _ _, rfl⟩
          · have t68 : a.tmps.getD 68 undef = .bool true := hd { on := 25, ground := .data } (by simp) rfl
            rw [Array.getD_eq_getD_getElem?] at t68
            refine .inl ⟨rfl, ?_⟩
            go_simp
            exact ⟨Below.refl _ _, rfl⟩
        · intro vs W hE hV
          have h26 : vs 26 = .bool true := hV 26 (by decide)
          have HBf : Hid (Below w.heap.size w W) := HB4.out.trans (hE.mono HB4.out.size)
          clear hV hE
          simp only [putsV, dstsV, List.foldl, h26, Act.put, List.setIfInBounds_toArray, List.set_cons_succ, List.set_cons_zero]
          clear h26
          generalize vs 0 = y0
          generalize vs 1 = y1
          generalize vs 2 = y2
          generalize vs 3 = y3
          generalize vs 4 = y4
          generalize vs 5 = y5
          generalize vs 6 = y6
          generalize vs 7 = y7
          generalize vs 8 = y8
          generalize vs 9 = y9
          generalize vs 10 = y10
          generalize vs 11 = y11
          generalize vs 12 = y12
          generalize vs 13 = y13
          generalize vs 14 = y14
          generalize vs 15 = y15
          generalize vs 16 = y16
          generalize vs 17 = y17
          generalize vs 18 = y18
          generalize vs 19 = y19
          generalize vs 20 = y20
          generalize vs 21 = y21
          generalize vs 22 = y22
          generalize vs 23 = y23
          generalize vs 24 = y24
          generalize vs 25 = y25
          refine ‹∀ (a : Act) (w : World), Code.wp Try.prog Code.ret _ a w → _› _ _ ?_
          go_wp2
          go_ret
          exact ⟨rfl, HBf.out⟩
      | true =>
        have hq2 : q = true := hP rfl
        subst hq2
        clear hP
        refine wp_region_mp ([eqP (.agg (s.arr mv)), eqP (.int .i64 B), eqP (.int .i64 L1), eqP (.agg (s.arr mv)), eqP (.int .i64 A), eqP (.int .i64 L2), eqP (.bool true), eqP (.bool true), eqP (.agg (s.arr mv)), eqP (.int .i64 B), eqP (.bool true), eqP (.bool false), eqP (.bool false), eqP (.agg (s.arr mv)), eqP (.int .i64 A), eqP (.bool true), eqP (.bool true), eqP (.bool true), eqP (.bool true), eqP (.agg (s.arr mv)), eqP (.int .i64 0), eqP (.bool true), eqP (.bool true), eqP (.bool true), eqP (.bool true), eqP (.bool true), eqP (.bool true)]) (by kernel_rfl) (by kernel_rfl) ?_ ?_
        · simp only [stepsAll3]
          refine ⟨fun a W hF hE hd => ?_, fun a W hF hE hd => ?_, fun a W hF hE hd => ?_, fun a W hF hE hd => ?_, fun a W hF hE hd => ?_, fun a W hF hE hd => ?_, fun a W hF hE hd => ?_, fun a W hF hE hd => ?_, fun a W hF hE hd => ?_, fun a W hF hE hd => ?_, fun a W hF hE hd => ?_, fun a W hF hE hd => ?_, fun a W hF hE hd => ?_, fun a W hF hE hd => ?_, fun a W hF hE hd => ?_, fun a W hF hE hd => ?_, fun a W hF hE hd => ?_, fun a W hF hE hd => ?_, fun a W hF hE hd => ?_, fun a W hF hE hd => ?_, fun a W hF hE hd => ?_, fun a W hF hE hd => ?_, fun a W hF hE hd => ?_, fun a W hF hE hd => ?_, fun a W hF hE hd => ?_, fun a W hF hE hd => ?_, fun a W hF hE hd => ?_, trivial⟩
          all_goals unfold StepAt
          · have t4 : a.tmps.getD 4 undef = .pointer (some ⟨w.heap.size, 0, none⟩) := hF.at 4 (by kernel_rfl)
            rw [Array.getD_eq_getD_getElem?] at t4
            refine .inl ⟨rfl, ?_⟩
            rw [run_obox _ _ 32 (.tmp 4) rfl (w.heap.size) (by simpa [Act.eval] using t4) 32 (s.arr mv) _ (HX W hE) Try.underlying32 rfl (st_inf _ _)]
            exact ⟨Below.refl _ _, rfl⟩
          · have t2 : a.tmps.getD 2 undef = .int .i64 B := hF.at 2 (by kernel_rfl)
            rw [Array.getD_eq_getD_getElem?] at t2
            refine .inl ⟨rfl, ?_⟩
            go_simp
            exact ⟨Below.refl _ _, rfl⟩
          · have t43 : a.tmps.getD 43 undef = .agg (s.arr mv) := hd { on := 0, ground := .data } (by simp) rfl
            rw [Array.getD_eq_getD_getElem?] at t43
            have t44 : a.tmps.getD 44 undef = .int .i64 B := hd { on := 1, ground := .data } (by simp) rfl
            rw [Array.getD_eq_getD_getElem?] at t44
            refine .inl ⟨rfl, ?_⟩
            go_simp
            exact (HL1 W).mono fun e w2 h => ⟨_, h.1, h.2, rfl⟩
          · have t4 : a.tmps.getD 4 undef = .pointer (some ⟨w.heap.size, 0, none⟩) := hF.at 4 (by kernel_rfl)
            rw [Array.getD_eq_getD_getElem?] at t4
            refine .inl ⟨rfl, ?_⟩
            rw [run_obox _ _ 32 (.tmp 4) rfl (w.heap.size) (by simpa [Act.eval] using t4) 32 (s.arr mv) _ (HX W hE) Try.underlying32 rfl (st_inf _ _)]
            exact ⟨Below.refl _ _, rfl⟩
          · have t3 : a.tmps.getD 3 undef = .int .i64 A := hF.at 3 (by kernel_rfl)
            rw [Array.getD_eq_getD_getElem?] at t3
            refine .inl ⟨rfl, ?_⟩
            go_simp
            exact ⟨Below.refl _ _, rfl⟩
          · have t46 : a.tmps.getD 46 undef = .agg (s.arr mv) := hd { on := 3, ground := .data } (by simp) rfl
            rw [Array.getD_eq_getD_getElem?] at t46
            have t47 : a.tmps.getD 47 undef = .int .i64 A := hd { on := 4, ground := .data } (by simp) rfl
            rw [Array.getD_eq_getD_getElem?] at t47
            refine .inl ⟨rfl, ?_⟩
            go_simp
            exact (HL2 W).mono fun e w2 h => ⟨_, h.1, h.2, rfl⟩
          · have t45 : a.tmps.getD 45 undef = .int .i64 L1 := hd { on := 2, ground := .data } (by simp) rfl
            rw [Array.getD_eq_getD_getElem?] at t45
            have t48 : a.tmps.getD 48 undef = .int .i64 L2 := hd { on := 5, ground := .data } (by simp) rfl
            rw [Array.getD_eq_getD_getElem?] at t48
            refine .inl ⟨rfl, ?_⟩
            have hq := HQ.out
            go_simp
            exact ⟨Below.refl _ _, rfl⟩
          · have t49 : a.tmps.getD 49 undef = .bool true := hd { on := 6, ground := .data } (by simp) rfl
            rw [Array.getD_eq_getD_getElem?] at t49
            refine .inl ⟨rfl, ?_⟩
            go_simp
            exact ⟨Below.refl _ _, rfl⟩
          · have t4 : a.tmps.getD 4 undef = .pointer (some ⟨w.heap.size, 0, none⟩) := hF.at 4 (by kernel_rfl)
            rw [Array.getD_eq_getD_getElem?] at t4
            have g50 : a.eval (.tmp 50) = .bool true := hd { on := 7, ground := .guard } (by simp) rfl
            refine .inl ⟨(by simp only [Region.wanted]; rw [yielded_of (d := 50) (by rfl) g50]; rfl), ?_⟩
            clear g50
            rw [run_obox _ _ 32 (.tmp 4) rfl (w.heap.size) (by simpa [Act.eval] using t4) 32 (s.arr mv) _ (HX W hE) Try.underlying32 rfl (st_inf _ _)]
            exact ⟨Below.refl _ _, rfl⟩
          · have t2 : a.tmps.getD 2 undef = .int .i64 B := hF.at 2 (by kernel_rfl)
            rw [Array.getD_eq_getD_getElem?] at t2
            have g50 : a.eval (.tmp 50) = .bool true := hd { on := 7, ground := .guard } (by simp) rfl
            refine .inl ⟨(by simp only [Region.wanted]; rw [yielded_of (d := 50) (by rfl) g50]; rfl), ?_⟩
            clear g50
            go_simp
            exact ⟨Below.refl _ _, rfl⟩
          · have t51 : a.tmps.getD 51 undef = .agg (s.arr mv) := hd { on := 8, ground := .data } (by simp) rfl
            rw [Array.getD_eq_getD_getElem?] at t51
            have t52 : a.tmps.getD 52 undef = .int .i64 B := hd { on := 9, ground := .data } (by simp) rfl
            rw [Array.getD_eq_getD_getElem?] at t52
            have g50 : a.eval (.tmp 50) = .bool true := hd { on := 7, ground := .guard } (by simp) rfl
            refine .inl ⟨(by simp only [Region.wanted]; rw [yielded_of (d := 50) (by rfl) g50]; rfl), ?_⟩
            clear g50
            go_simp
            exact (HO1 W).mono fun e w2 h => ⟨_, h.1, h.2, rfl⟩
          · have t53 : a.tmps.getD 53 undef = .bool true := hd { on := 10, ground := .data } (by simp) rfl
            rw [Array.getD_eq_getD_getElem?] at t53
            have g50 : a.eval (.tmp 50) = .bool true := hd { on := 7, ground := .guard } (by simp) rfl
            refine .inl ⟨(by simp only [Region.wanted]; rw [yielded_of (d := 50) (by rfl) g50]; rfl), ?_⟩
            clear g50
            go_simp
            exact ⟨Below.refl _ _, rfl⟩
          · have t54 : a.tmps.getD 54 undef = .bool false := hd { on := 11, ground := .data } (by simp) rfl
            rw [Array.getD_eq_getD_getElem?] at t54
            have g50 : a.eval (.tmp 50) = .bool true := hd { on := 7, ground := .guard } (by simp) rfl
            refine .inl ⟨(by simp only [Region.wanted]; rw [yielded_of (d := 50) (by rfl) g50]; rfl), ?_⟩
            clear g50
            go_simp
            exact ⟨Below.refl _ _, rfl⟩
          · have t4 : a.tmps.getD 4 undef = .pointer (some ⟨w.heap.size, 0, none⟩) := hF.at 4 (by kernel_rfl)
            rw [Array.getD_eq_getD_getElem?] at t4
            have g55 : a.eval (.tmp 55) = .bool false := hd { on := 12, ground := .guard } (by simp) rfl
            refine .inl ⟨(by simp only [Region.wanted]; rw [yielded_of (d := 55) (by rfl) g55]; rfl), ?_⟩
            clear g55
            rw [run_obox _ _ 32 (.tmp 4) rfl (w.heap.size) (by simpa [Act.eval] using t4) 32 (s.arr mv) _ (HX W hE) Try.underlying32 rfl (st_inf _ _)]
            exact ⟨Below.refl _ _, rfl⟩
          · have t3 : a.tmps.getD 3 undef = .int .i64 A := hF.at 3 (by kernel_rfl)
            rw [Array.getD_eq_getD_getElem?] at t3
            have g55 : a.eval (.tmp 55) = .bool false := hd { on := 12, ground := .guard } (by simp) rfl
            refine .inl ⟨(by simp only [Region.wanted]; rw [yielded_of (d := 55) (by rfl) g55]; rfl), ?_⟩
            clear g55
            go_simp
            exact ⟨Below.refl _ _, rfl⟩
          · have t56 : a.tmps.getD 56 undef = .agg (s.arr mv) := hd { on := 13, ground := .data } (by simp) rfl
            rw [Array.getD_eq_getD_getElem?] at t56
            have t57 : a.tmps.getD 57 undef = .int .i64 A := hd { on := 14, ground := .data } (by simp) rfl
            rw [Array.getD_eq_getD_getElem?] at t57
            have g55 : a.eval (.tmp 55) = .bool false := hd { on := 12, ground := .guard } (by simp) rfl
            refine .inl ⟨(by simp only [Region.wanted]; rw [yielded_of (d := 55) (by rfl) g55]; rfl), ?_⟩
            clear g55
            go_simp
            exact (HO2 W).mono fun e w2 h => ⟨_, h.1, h.2, rfl⟩
          · have t55 : a.tmps.getD 55 undef = .bool false := hd { on := 12, ground := .data } (by simp) rfl
            rw [Array.getD_eq_getD_getElem?] at t55
            have t58 : a.tmps.getD 58 undef = .bool true := hd { on := 15, ground := .data } (by simp) rfl
            rw [Array.getD_eq_getD_getElem?] at t58
            have g50 : a.eval (.tmp 50) = .bool true := hd { on := 7, ground := .guard } (by simp) rfl
            refine .inl ⟨(by simp only [Region.wanted]; rw [yielded_of (d := 50) (by rfl) g50]; rfl), ?_⟩
            clear g50
            go_simp
            exact ⟨Below.refl _ _, rfl⟩
          · have t50 : a.tmps.getD 50 undef = .bool true := hd { on := 7, ground := .data } (by simp) rfl
            rw [Array.getD_eq_getD_getElem?] at t50
            have t59 : a.tmps.getD 59 undef = .bool true := hd { on := 16, ground := .data } (by simp) rfl
            rw [Array.getD_eq_getD_getElem?] at t59
            refine .inl ⟨rfl, ?_⟩
            go_simp
            exact ⟨Below.refl _ _, rfl⟩
          · have t60 : a.tmps.getD 60 undef = .bool true := hd { on := 17, ground := .data } (by simp) rfl
            rw [Array.getD_eq_getD_getElem?] at t60
            refine .inl ⟨rfl, ?_⟩
            go_simp
            exact ⟨Below.refl _ _, rfl⟩
          · have t4 : a.tmps.getD 4 undef = .pointer (some ⟨w.heap.size, 0, none⟩) := hF.at 4 (by kernel_rfl)
            rw [Array.getD_eq_getD_getElem?] at t4
            have g61 : a.eval (.tmp 61) = .bool true := hd { on := 18, ground := .guard } (by simp) rfl
            refine .inl ⟨(by simp only [Region.wanted]; rw [yielded_of (d := 61) (by rfl) g61]; rfl), ?_⟩
            clear g61
            rw [run_obox _ _ 32 (.tmp 4) rfl (w.heap.size) (by simpa [Act.eval] using t4) 32 (s.arr mv) _ (HX W hE) Try.underlying32 rfl (st_inf _ _)]
            exact ⟨Below.refl _ _, rfl⟩
          · have t62 : a.tmps.getD 62 undef = .agg (s.arr mv) := hd { on := 19, ground := .data } (by simp) rfl
            rw [Array.getD_eq_getD_getElem?] at t62
            have g61 : a.eval (.tmp 61) = .bool true := hd { on := 18, ground := .guard } (by simp) rfl
            refine .inl ⟨(by simp only [Region.wanted]; rw [yielded_of (d := 61) (by rfl) g61]; rfl), ?_⟩
            clear g61
            go_simp
            exact (HLe W).mono fun e w2 h => ⟨_, h.1, h.2, rfl⟩
          · have t63 : a.tmps.getD 63 undef = .int .i64 0 := hd { on := 20, ground := .data } (by simp) rfl
            rw [Array.getD_eq_getD_getElem?] at t63
            have g61 : a.eval (.tmp 61) = .bool true := hd { on := 18, ground := .guard } (by simp) rfl
            refine .inl ⟨(by simp only [Region.wanted]; rw [yielded_of (d := 61) (by rfl) g61]; rfl), ?_⟩
            clear g61
            go_simp
            exact ⟨Below.refl _ _, rfl⟩
          · have t61 : a.tmps.getD 61 undef = .bool true := hd { on := 18, ground := .data } (by simp) rfl
            rw [Array.getD_eq_getD_getElem?] at t61
            have t64 : a.tmps.getD 64 undef = .bool true := hd { on := 21, ground := .data } (by simp) rfl
            rw [Array.getD_eq_getD_getElem?] at t64
            refine .inl ⟨rfl, ?_⟩
            go_simp
            exact ⟨Below.refl _ _, rfl⟩
          · have t65 : a.tmps.getD 65 undef = .bool true := hd { on := 22, ground := .data } (by simp) rfl
            rw [Array.getD_eq_getD_getElem?] at t65
            refine .inl ⟨rfl, ?_⟩
            go_simp
            exact ⟨Below.refl _ _, rfl⟩
          · have g66 : a.eval (.tmp 66) = .bool true := hd { on := 23, ground := .guard } (by simp) rfl
            refine .inl ⟨(by simp only [Region.wanted]; rw [yielded_of (d := 66) (by rfl) g66]; rfl), ?_⟩
            clear g66
            go_simp
            exact (awake15_any W).mono fun e w2 h => ⟨_, h.1, h.2, rfl⟩
          · have t66 : a.tmps.getD 66 undef = .bool true := hd { on := 23, ground := .data } (by simp) rfl
            rw [Array.getD_eq_getD_getElem?] at t66
            have t67 : a.tmps.getD 67 undef = .bool true := hd { on := 24, ground := .data } (by simp) rfl
            rw [Array.getD_eq_getD_getElem?] at t67
            refine .inl ⟨rfl, ?_⟩
            go_simp
            exact ⟨Below.refl _ _, rfl⟩
          · have t68 : a.tmps.getD 68 undef = .bool true := hd { on := 25, ground := .data } (by simp) rfl
            rw [Array.getD_eq_getD_getElem?] at t68
            refine .inl ⟨rfl, ?_⟩
            go_simp
            exact ⟨Below.refl _ _, rfl⟩
        · intro vs W hE hV
          have h26 : vs 26 = .bool true := hV 26 (by decide)
          have HBf : Hid (Below w.heap.size w W) := HB4.out.trans (hE.mono HB4.out.size)
          clear hV hE
          simp only [putsV, dstsV, List.foldl, h26, Act.put, List.setIfInBounds_toArray, List.set_cons_succ, List.set_cons_zero]
          clear h26
          generalize vs 0 = y0
          generalize vs 1 = y1
          generalize vs 2 = y2
          generalize vs 3 = y3
          generalize vs 4 = y4
          generalize vs 5 = y5
          generalize vs 6 = y6
          generalize vs 7 = y7
          generalize vs 8 = y8
          generalize vs 9 = y9
          generalize vs 10 = y10
          generalize vs 11 = y11
          generalize vs 12 = y12
          generalize vs 13 = y13
          generalize vs 14 = y14
          generalize vs 15 = y15
          generalize vs 16 = y16
          generalize vs 17 = y17
          generalize vs 18 = y18
          generalize vs 19 = y19
          generalize vs 20 = y20
          generalize vs 21 = y21
          generalize vs 22 = y22
          generalize vs 23 = y23
          generalize vs 24 = y24
          generalize vs 25 = y25
          refine ‹∀ (a : Act) (w : World), Code.wp Try.prog Code.ret _ a w → _› _ _ ?_
          go_wp2
          go_ret
          exact ⟨rfl, HBf.out⟩
    · go_wp2
      have hle : A ≤ B := by omega
      have hQ := leftD_falls (s := s) hle
      have hP := overD_stays (s := s) hle
      have HL1 := HLeft A
      have HL2 := HLeft B
      have HLe := HLeft 4611686018427387904
      have HO1 := HOver A
      have HO2 := HOver B
      rw [leftD_end] at HLe
      generalize leftD s A = L1 at HL1 hQ
      generalize leftD s B = L2 at HL2 hQ
      generalize overD s A = p at HO1 hP
      generalize overD s B = q at HO2 hP
      have HQ : Hid (L2 ≤ L1) := hQ
      clear hQ hle HLeft HOver
      cases p with
      | false =>
        clear hP
        refine wp_region_mp ([eqP (.agg (s.arr mv)), eqP (.int .i64 A), eqP (.int .i64 L1), eqP (.agg (s.arr mv)), eqP (.int .i64 B), eqP (.int .i64 L2), eqP (.bool true), eqP (.bool true), eqP (.agg (s.arr mv)), eqP (.int .i64 A), eqP (.bool false), eqP (.bool true), eqP (.bool true), eqP (undef), eqP (undef), eqP (undef), eqP (.bool true), eqP (.bool true), eqP (.bool true), eqP (.agg (s.arr mv)), eqP (.int .i64 0), eqP (.bool true), eqP (.bool true), eqP (.bool true), eqP (.bool true), eqP (.bool true), eqP (.bool true)]) (by kernel_rfl) (by kernel_rfl) ?_ ?_
        · simp only [stepsAll3]
          refine ⟨fun a W hF hE hd => ?_, fun a W hF hE hd => ?_, fun a W hF hE hd => ?_, fun a W hF hE hd => ?_, fun a W hF hE hd => ?_, fun a W hF hE hd => ?_, fun a W hF hE hd => ?_, fun a W hF hE hd => ?_, fun a W hF hE hd => ?_, fun a W hF hE hd => ?_, fun a W hF hE hd => ?_, fun a W hF hE hd => ?_, fun a W hF hE hd => ?_, fun a W hF hE hd => ?_, fun a W hF hE hd => ?_, fun a W hF hE hd => ?_, fun a W hF hE hd => ?_, fun a W hF hE hd => ?_, fun a W hF hE hd => ?_, fun a W hF hE hd => ?_, fun a W hF hE hd => ?_, fun a W hF hE hd => ?_, fun a W hF hE hd => ?_, fun a W hF hE hd => ?_, fun a W hF hE hd => ?_, fun a W hF hE hd => ?_, fun a W hF hE hd => ?_, trivial⟩
          all_goals unfold StepAt
          · have t4 : a.tmps.getD 4 undef = .pointer (some ⟨w.heap.size, 0, none⟩) := hF.at 4 (by kernel_rfl)
            rw [Array.getD_eq_getD_getElem?] at t4
            refine .inl ⟨rfl, ?_⟩
            rw [run_obox _ _ 32 (.tmp 4) rfl (w.heap.size) (by simpa [Act.eval] using t4) 32 (s.arr mv) _ (HX W hE) Try.underlying32 rfl (st_inf _ _)]
            exact ⟨Below.refl _ _, rfl⟩
          · have t2 : a.tmps.getD 2 undef = .int .i64 A := hF.at 2 (by kernel_rfl)
            rw [Array.getD_eq_getD_getElem?] at t2
            refine .inl ⟨rfl, ?_⟩
            go_simp
            exact ⟨Below.refl _ _, rfl⟩
          · have t43 : a.tmps.getD 43 undef = .agg (s.arr mv) := hd { on := 0, ground := .data } (by simp) rfl
            rw [Array.getD_eq_getD_getElem?] at t43
            have t44 : a.tmps.getD 44 undef = .int .i64 A := hd { on := 1, ground := .data } (by simp) rfl
            rw [Array.getD_eq_getD_getElem?] at t44
            refine .inl ⟨rfl, ?_⟩
            go_simp
            exact (HL1 W).mono fun e w2 h => ⟨_, h.1, h.2, rfl⟩
          · have t4 : a.tmps.getD 4 undef = .pointer (some ⟨w.heap.size, 0, none⟩) := hF.at 4 (by kernel_rfl)
            rw [Array.getD_eq_getD_getElem?] at t4
            refine .inl ⟨rfl, ?_⟩
            rw [run_obox _ _ 32 (.tmp 4) rfl (w.heap.size) (by simpa [Act.eval] using t4) 32 (s.arr mv) _ (HX W hE) Try.underlying32 rfl (st_inf _ _)]
            exact ⟨Below.refl _ _, rfl⟩
          · have t3 : a.tmps.getD 3 undef = .int .i64 B := hF.at 3 (by kernel_rfl)
            rw [Array.getD_eq_getD_getElem?] at t3
            refine .inl ⟨rfl, ?_⟩
            go_simp
            exact ⟨Below.refl _ _, rfl⟩
          · have t46 : a.tmps.getD 46 undef = .agg (s.arr mv) := hd { on := 3, ground := .data } (by simp) rfl
            rw [Array.getD_eq_getD_getElem?] at t46
            have t47 : a.tmps.getD 47 undef = .int .i64 B := hd { on := 4, ground := .data } (by simp) rfl
            rw [Array.getD_eq_getD_getElem?] at t47
            refine .inl ⟨rfl, ?_⟩
            go_simp
            exact (HL2 W).mono fun e w2 h => ⟨_, h.1, h.2, rfl⟩
          · have t45 : a.tmps.getD 45 undef = .int .i64 L1 := hd { on := 2, ground := .data } (by simp) rfl
            rw [Array.getD_eq_getD_getElem?] at t45
            have t48 : a.tmps.getD 48 undef = .int .i64 L2 := hd { on := 5, ground := .data } (by simp) rfl
            rw [Array.getD_eq_getD_getElem?] at t48
            refine .inl ⟨rfl, ?_⟩
            have hq := HQ.out
            go_simp
            exact ⟨Below.refl _ _, rfl⟩
          · have t49 : a.tmps.getD 49 undef = .bool true := hd { on := 6, ground := .data } (by simp) rfl
            rw [Array.getD_eq_getD_getElem?] at t49
            refine .inl ⟨rfl, ?_⟩
            go_simp
            exact ⟨Below.refl _ _, rfl⟩
          · have t4 : a.tmps.getD 4 undef = .pointer (some ⟨w.heap.size, 0, none⟩) := hF.at 4 (by kernel_rfl)
            rw [Array.getD_eq_getD_getElem?] at t4
            have g50 : a.eval (.tmp 50) = .bool true := hd { on := 7, ground := .guard } (by simp) rfl
            refine .inl ⟨(by simp only [Region.wanted]; rw [yielded_of (d := 50) (by rfl) g50]; rfl), ?_⟩
            clear g50
            rw [run_obox _ _ 32 (.tmp 4) rfl (w.heap.size) (by simpa [Act.eval] using t4) 32 (s.arr mv) _ (HX W hE) Try.underlying32 rfl (st_inf _ _)]
            exact ⟨Below.refl _ _, rfl⟩
          · have t2 : a.tmps.getD 2 undef = .int .i64 A := hF.at 2 (by kernel_rfl)
            rw [Array.getD_eq_getD_getElem?] at t2
            have g50 : a.eval (.tmp 50) = .bool true := hd { on := 7, ground := .guard } (by simp) rfl
            refine .inl ⟨(by simp only [Region.wanted]; rw [yielded_of (d := 50) (by rfl) g50]; rfl), ?_⟩
            clear g50
            go_simp
            exact ⟨Below.refl _ _, rfl⟩
          · have t51 : a.tmps.getD 51 undef = .agg (s.arr mv) := hd { on := 8, ground := .data } (by simp) rfl
            rw [Array.getD_eq_getD_getElem?] at t51
            have t52 : a.tmps.getD 52 undef = .int .i64 A := hd { on := 9, ground := .data } (by simp) rfl
            rw [Array.getD_eq_getD_getElem?] at t52
            have g50 : a.eval (.tmp 50) = .bool true := hd { on := 7, ground := .guard } (by simp) rfl
            refine .inl ⟨(by simp only [Region.wanted]; rw [yielded_of (d := 50) (by rfl) g50]; rfl), ?_⟩
            clear g50
            go_simp
            exact (HO1 W).mono fun e w2 h => ⟨_, h.1, h.2, rfl⟩
          · have t53 : a.tmps.getD 53 undef = .bool false := hd { on := 10, ground := .data } (by simp) rfl
            rw [Array.getD_eq_getD_getElem?] at t53
            have g50 : a.eval (.tmp 50) = .bool true := hd { on := 7, ground := .guard } (by simp) rfl
            refine .inl ⟨(by simp only [Region.wanted]; rw [yielded_of (d := 50) (by rfl) g50]; rfl), ?_⟩
            clear g50
            go_simp
            exact ⟨Below.refl _ _, rfl⟩
          · have t54 : a.tmps.getD 54 undef = .bool true := hd { on := 11, ground := .data } (by simp) rfl
            rw [Array.getD_eq_getD_getElem?] at t54
            have g50 : a.eval (.tmp 50) = .bool true := hd { on := 7, ground := .guard } (by simp) rfl
            refine .inl ⟨(by simp only [Region.wanted]; rw [yielded_of (d := 50) (by rfl) g50]; rfl), ?_⟩
            clear g50
            go_simp
            exact ⟨Below.refl _ _, rfl⟩
          · have g55 : a.eval (.tmp 55) = .bool true := hd { on := 12, ground := .guard } (by simp) rfl
            exact .inr ⟨(by simp only [Region.wanted]; rw [yielded_of (d := 55) (by rfl) g55]; rfl), rfl⟩
          · have g55 : a.eval (.tmp 55) = .bool true := hd { on := 12, ground := .guard } (by simp) rfl
            exact .inr ⟨(by simp only [Region.wanted]; rw [yielded_of (d := 55) (by rfl) g55]; rfl), rfl⟩
          · have g55 : a.eval (.tmp 55) = .bool true := hd { on := 12, ground := .guard } (by simp) rfl
            exact .inr ⟨(by simp only [Region.wanted]; rw [yielded_of (d := 55) (by rfl) g55]; rfl), rfl⟩
          · have t55 : a.tmps.getD 55 undef = .bool true := hd { on := 12, ground := .data } (by simp) rfl
            rw [Array.getD_eq_getD_getElem?] at t55
            have g50 : a.eval (.tmp 50) = .bool true := hd { on := 7, ground := .guard } (by simp) rfl
            refine .inl ⟨(by simp only [Region.wanted]; rw [yielded_of (d := 50) (by rfl) g50]; rfl), ?_⟩
            clear g50
            go_simp
            exact ⟨Below.refl _ _, rfl⟩
          · have t50 : a.tmps.getD 50 undef = .bool true := hd { on := 7, ground := .data } (by simp) rfl
            rw [Array.getD_eq_getD_getElem?] at t50
            have t59 : a.tmps.getD 59 undef = .bool true := hd { on := 16, ground := .data } (by simp) rfl
            rw [Array.getD_eq_getD_getElem?] at t59
            refine .inl ⟨rfl, ?_⟩
            go_simp
            exact ⟨Below.refl _ _, rfl⟩
          · have t60 : a.tmps.getD 60 undef = .bool true := hd { on := 17, ground := .data } (by simp) rfl
            rw [Array.getD_eq_getD_getElem?] at t60
            refine .inl ⟨rfl, ?_⟩
            go_simp
            exact ⟨Below.refl _ _, rfl⟩
          · have t4 : a.tmps.getD 4 undef = .pointer (some ⟨w.heap.size, 0, none⟩) := hF.at 4 (by kernel_rfl)
            rw [Array.getD_eq_getD_getElem?] at t4
            have g61 : a.eval (.tmp 61) = .bool true := hd { on := 18, ground := .guard } (by simp) rfl
            refine .inl ⟨(by simp only [Region.wanted]; rw [yielded_of (d := 61) (by rfl) g61]; rfl), ?_⟩
            clear g61
            rw [run_obox _ _ 32 (.tmp 4) rfl (w.heap.size) (by simpa [Act.eval] using t4) 32 (s.arr mv) _ (HX W hE) Try.underlying32 rfl (st_inf _ _)]
            exact ⟨Below.refl _ _, rfl⟩
          · have t62 : a.tmps.getD 62 undef = .agg (s.arr mv) := hd { on := 19, ground := .data } (by simp) rfl
            rw [Array.getD_eq_getD_getElem?] at t62
            have g61 : a.eval (.tmp 61) = .bool true := hd { on := 18, ground := .guard } (by simp) rfl
            refine .inl ⟨(by simp only [Region.wanted]; rw [yielded_of (d := 61) (by rfl) g61]; rfl), ?_⟩
            clear g61
            go_simp
            exact (HLe W).mono fun e w2 h => ⟨_, h.1, h.2, rfl⟩
          · have t63 : a.tmps.getD 63 undef = .int .i64 0 := hd { on := 20, ground := .data } (by simp) rfl
            rw [Array.getD_eq_getD_getElem?] at t63
            have g61 : a.eval (.tmp 61) = .bool true := hd { on := 18, ground := .guard } (by simp) rfl
            refine .inl ⟨(by simp only [Region.wanted]; rw [yielded_of (d := 61) (by rfl) g61]; rfl), ?_⟩
            clear g61
            go_simp
            exact ⟨Below.refl _ _, rfl⟩
          · have t61 : a.tmps.getD 61 undef = .bool true := hd { on := 18, ground := .data } (by simp) rfl
            rw [Array.getD_eq_getD_getElem?] at t61
            have t64 : a.tmps.getD 64 undef = .bool true := hd { on := 21, ground := .data } (by simp) rfl
            rw [Array.getD_eq_getD_getElem?] at t64
            refine .inl ⟨rfl, ?_⟩
            go_simp
            exact ⟨Below.refl _ _, rfl⟩
          · have t65 : a.tmps.getD 65 undef = .bool true := hd { on := 22, ground := .data } (by simp) rfl
            rw [Array.getD_eq_getD_getElem?] at t65
            refine .inl ⟨rfl, ?_⟩
            go_simp
            exact ⟨Below.refl _ _, rfl⟩
          · have g66 : a.eval (.tmp 66) = .bool true := hd { on := 23, ground := .guard } (by simp) rfl
            refine .inl ⟨(by simp only [Region.wanted]; rw [yielded_of (d := 66) (by rfl) g66]; rfl), ?_⟩
            clear g66
            go_simp
            exact (awake15_any W).mono fun e w2 h => ⟨_, h.1, h.2, rfl⟩
          · have t66 : a.tmps.getD 66 undef = .bool true := hd { on := 23, ground := .data } (by simp) rfl
            rw [Array.getD_eq_getD_getElem?] at t66
            have t67 : a.tmps.getD 67 undef = .bool true := hd { on := 24, ground := .data } (by simp) rfl
            rw [Array.getD_eq_getD_getElem?] at t67
            refine .inl ⟨rfl, ?_⟩
            go_simp
            exact ⟨Below.refl _ _, rfl⟩
          · have t68 : a.tmps.getD 68 undef = .bool true := hd { on := 25, ground := .data } (by simp) rfl
            rw [Array.getD_eq_getD_getElem?] at t68
            refine .inl ⟨rfl, ?_⟩
            go_simp
            exact ⟨Below.refl _ _, rfl⟩
        · intro vs W hE hV
          have h26 : vs 26 = .bool true := hV 26 (by decide)
          have HBf : Hid (Below w.heap.size w W) := HB4.out.trans (hE.mono HB4.out.size)
          clear hV hE
          simp only [putsV, dstsV, List.foldl, h26, Act.put, List.setIfInBounds_toArray, List.set_cons_succ, List.set_cons_zero]
          clear h26
          generalize vs 0 = y0
          generalize vs 1 = y1
          generalize vs 2 = y2
          generalize vs 3 = y3
          generalize vs 4 = y4
          generalize vs 5 = y5
          generalize vs 6 = y6
          generalize vs 7 = y7
          generalize vs 8 = y8
          generalize vs 9 = y9
          generalize vs 10 = y10
          generalize vs 11 = y11
          generalize vs 12 = y12
          generalize vs 13 = y13
          generalize vs 14 = y14
          generalize vs 15 = y15
          generalize vs 16 = y16
          generalize vs 17 = y17
          generalize vs 18 = y18
          generalize vs 19 = y19
          generalize vs 20 = y20
          generalize vs 21 = y21
          generalize vs 22 = y22
          generalize vs 23 = y23
          generalize vs 24 = y24
          generalize vs 25 = y25
          refine ‹∀ (a : Act) (w : World), Code.wp Try.prog Code.ret _ a w → _› _ _ ?_
          go_wp2
          go_ret
          exact ⟨rfl, HBf.out⟩
      | true =>
        have hq2 : q = true := hP rfl
        subst hq2
        clear hP
        refine wp_region_mp ([eqP (.agg (s.arr mv)), eqP (.int .i64 A), eqP (.int .i64 L1), eqP (.agg (s.arr mv)), eqP (.int .i64 B), eqP (.int .i64 L2), eqP (.bool true), eqP (.bool true), eqP (.agg (s.arr mv)), eqP (.int .i64 A), eqP (.bool true), eqP (.bool false), eqP (.bool false), eqP (.agg (s.arr mv)), eqP (.int .i64 B), eqP (.bool true), eqP (.bool true), eqP (.bool true), eqP (.bool true), eqP (.agg (s.arr mv)), eqP (.int .i64 0), eqP (.bool true), eqP (.bool true), eqP (.bool true), eqP (.bool true), eqP (.bool true), eqP (.bool true)]) (by kernel_rfl) (by kernel_rfl) ?_ ?_
        · simp only [stepsAll3]
          refine ⟨fun a W hF hE hd => ?_, fun a W hF hE hd => ?_, fun a W hF hE hd => ?_, fun a W hF hE hd => ?_, fun a W hF hE hd => ?_, fun a W hF hE hd => ?_, fun a W hF hE hd => ?_, fun a W hF hE hd => ?_, fun a W hF hE hd => ?_, fun a W hF hE hd => ?_, fun a W hF hE hd => ?_, fun a W hF hE hd => ?_, fun a W hF hE hd => ?_, fun a W hF hE hd => ?_, fun a W hF hE hd => ?_, fun a W hF hE hd => ?_, fun a W hF hE hd => ?_, fun a W hF hE hd => ?_, fun a W hF hE hd => ?_, fun a W hF hE hd => ?_, fun a W hF hE hd => ?_, fun a W hF hE hd => ?_, fun a W hF hE hd => ?_, fun a W hF hE hd => ?_, fun a W hF hE hd => ?_, fun a W hF hE hd => ?_, fun a W hF hE hd => ?_, trivial⟩
          all_goals unfold StepAt
          · have t4 : a.tmps.getD 4 undef = .pointer (some ⟨w.heap.size, 0, none⟩) := hF.at 4 (by kernel_rfl)
            rw [Array.getD_eq_getD_getElem?] at t4
            refine .inl ⟨rfl, ?_⟩
            rw [run_obox _ _ 32 (.tmp 4) rfl (w.heap.size) (by simpa [Act.eval] using t4) 32 (s.arr mv) _ (HX W hE) Try.underlying32 rfl (st_inf _ _)]
            exact ⟨Below.refl _ _, rfl⟩
          · have t2 : a.tmps.getD 2 undef = .int .i64 A := hF.at 2 (by kernel_rfl)
            rw [Array.getD_eq_getD_getElem?] at t2
            refine .inl ⟨rfl, ?_⟩
            go_simp
            exact ⟨Below.refl _ _, rfl⟩
          · have t43 : a.tmps.getD 43 undef = .agg (s.arr mv) := hd { on := 0, ground := .data } (by simp) rfl
            rw [Array.getD_eq_getD_getElem?] at t43
            have t44 : a.tmps.getD 44 undef = .int .i64 A := hd { on := 1, ground := .data } (by simp) rfl
            rw [Array.getD_eq_getD_getElem?] at t44
            refine .inl ⟨rfl, ?_⟩
            go_simp
            exact (HL1 W).mono fun e w2 h => ⟨_, h.1, h.2, rfl⟩
          · have t4 : a.tmps.getD 4 undef = .pointer (some ⟨w.heap.size, 0, none⟩) := hF.at 4 (by kernel_rfl)
            rw [Array.getD_eq_getD_getElem?] at t4
            refine .inl ⟨rfl, ?_⟩
            rw [run_obox _ _ 32 (.tmp 4) rfl (w.heap.size) (by simpa [Act.eval] using t4) 32 (s.arr mv) _ (HX W hE) Try.underlying32 rfl (st_inf _ _)]
            exact ⟨Below.refl _ _, rfl⟩
          · have t3 : a.tmps.getD 3 undef = .int .i64 B := hF.at 3 (by kernel_rfl)
            rw [Array.getD_eq_getD_getElem?] at t3
            refine .inl ⟨rfl, ?_⟩
            go_simp
            exact ⟨Below.refl _ _, rfl⟩
          · have t46 : a.tmps.getD 46 undef = .agg (s.arr mv) := hd { on := 3, ground := .data } (by simp) rfl
            rw [Array.getD_eq_getD_getElem?] at t46
            have t47 : a.tmps.getD 47 undef = .int .i64 B := hd { on := 4, ground := .data } (by simp) rfl
            rw [Array.getD_eq_getD_getElem?] at t47
            refine .inl ⟨rfl, ?_⟩
            go_simp
            exact (HL2 W).mono fun e w2 h => ⟨_, h.1, h.2, rfl⟩
          · have t45 : a.tmps.getD 45 undef = .int .i64 L1 := hd { on := 2, ground := .data } (by simp) rfl
            rw [Array.getD_eq_getD_getElem?] at t45
            have t48 : a.tmps.getD 48 undef = .int .i64 L2 := hd { on := 5, ground := .data } (by simp) rfl
            rw [Array.getD_eq_getD_getElem?] at t48
            refine .inl ⟨rfl, ?_⟩
            have hq := HQ.out
            go_simp
            exact ⟨Below.refl _ _, rfl⟩
          · have t49 : a.tmps.getD 49 undef = .bool true := hd { on := 6, ground := .data } (by simp) rfl
            rw [Array.getD_eq_getD_getElem?] at t49
            refine .inl ⟨rfl, ?_⟩
            go_simp
            exact ⟨Below.refl _ _, rfl⟩
          · have t4 : a.tmps.getD 4 undef = .pointer (some ⟨w.heap.size, 0, none⟩) := hF.at 4 (by kernel_rfl)
            rw [Array.getD_eq_getD_getElem?] at t4
            have g50 : a.eval (.tmp 50) = .bool true := hd { on := 7, ground := .guard } (by simp) rfl
            refine .inl ⟨(by simp only [Region.wanted]; rw [yielded_of (d := 50) (by rfl) g50]; rfl), ?_⟩
            clear g50
            rw [run_obox _ _ 32 (.tmp 4) rfl (w.heap.size) (by simpa [Act.eval] using t4) 32 (s.arr mv) _ (HX W hE) Try.underlying32 rfl (st_inf _ _)]
            exact ⟨Below.refl _ _, rfl⟩
          · have t2 : a.tmps.getD 2 undef = .int .i64 A := hF.at 2 (by kernel_rfl)
            rw [Array.getD_eq_getD_getElem?] at t2
            have g50 : a.eval (.tmp 50) = .bool true := hd { on := 7, ground := .guard } (by simp) rfl
            refine .inl ⟨(by simp only [Region.wanted]; rw [yielded_of (d := 50) (by rfl) g50]; rfl), ?_⟩
            clear g50
            go_simp
            exact ⟨Below.refl _ _, rfl⟩
          · have t51 : a.tmps.getD 51 undef = .agg (s.arr mv) := hd { on := 8, ground := .data } (by simp) rfl
            rw [Array.getD_eq_getD_getElem?] at t51
            have t52 : a.tmps.getD 52 undef = .int .i64 A := hd { on := 9, ground := .data } (by simp) rfl
            rw [Array.getD_eq_getD_getElem?] at t52
            have g50 : a.eval (.tmp 50) = .bool true := hd { on := 7, ground := .guard } (by simp) rfl
            refine .inl ⟨(by simp only [Region.wanted]; rw [yielded_of (d := 50) (by rfl) g50]; rfl), ?_⟩
            clear g50
            go_simp
            exact (HO1 W).mono fun e w2 h => ⟨_, h.1, h.2, rfl⟩
          · have t53 : a.tmps.getD 53 undef = .bool true := hd { on := 10, ground := .data } (by simp) rfl
            rw [Array.getD_eq_getD_getElem?] at t53
            have g50 : a.eval (.tmp 50) = .bool true := hd { on := 7, ground := .guard } (by simp) rfl
            refine .inl ⟨(by simp only [Region.wanted]; rw [yielded_of (d := 50) (by rfl) g50]; rfl), ?_⟩
            clear g50
            go_simp
            exact ⟨Below.refl _ _, rfl⟩
          · have t54 : a.tmps.getD 54 undef = .bool false := hd { on := 11, ground := .data } (by simp) rfl
            rw [Array.getD_eq_getD_getElem?] at t54
            have g50 : a.eval (.tmp 50) = .bool true := hd { on := 7, ground := .guard } (by simp) rfl
            refine .inl ⟨(by simp only [Region.wanted]; rw [yielded_of (d := 50) (by rfl) g50]; rfl), ?_⟩
            clear g50
            go_simp
            exact ⟨Below.refl _ _, rfl⟩
          · have t4 : a.tmps.getD 4 undef = .pointer (some ⟨w.heap.size, 0, none⟩) := hF.at 4 (by kernel_rfl)
            rw [Array.getD_eq_getD_getElem?] at t4
            have g55 : a.eval (.tmp 55) = .bool false := hd { on := 12, ground := .guard } (by simp) rfl
            refine .inl ⟨(by simp only [Region.wanted]; rw [yielded_of (d := 55) (by rfl) g55]; rfl), ?_⟩
            clear g55
            rw [run_obox _ _ 32 (.tmp 4) rfl (w.heap.size) (by simpa [Act.eval] using t4) 32 (s.arr mv) _ (HX W hE) Try.underlying32 rfl (st_inf _ _)]
            exact ⟨Below.refl _ _, rfl⟩
          · have t3 : a.tmps.getD 3 undef = .int .i64 B := hF.at 3 (by kernel_rfl)
            rw [Array.getD_eq_getD_getElem?] at t3
            have g55 : a.eval (.tmp 55) = .bool false := hd { on := 12, ground := .guard } (by simp) rfl
            refine .inl ⟨(by simp only [Region.wanted]; rw [yielded_of (d := 55) (by rfl) g55]; rfl), ?_⟩
            clear g55
            go_simp
            exact ⟨Below.refl _ _, rfl⟩
          · have t56 : a.tmps.getD 56 undef = .agg (s.arr mv) := hd { on := 13, ground := .data } (by simp) rfl
            rw [Array.getD_eq_getD_getElem?] at t56
            have t57 : a.tmps.getD 57 undef = .int .i64 B := hd { on := 14, ground := .data } (by simp) rfl
            rw [Array.getD_eq_getD_getElem?] at t57
            have g55 : a.eval (.tmp 55) = .bool false := hd { on := 12, ground := .guard } (by simp) rfl
            refine .inl ⟨(by simp only [Region.wanted]; rw [yielded_of (d := 55) (by rfl) g55]; rfl), ?_⟩
            clear g55
            go_simp
            exact (HO2 W).mono fun e w2 h => ⟨_, h.1, h.2, rfl⟩
          · have t55 : a.tmps.getD 55 undef = .bool false := hd { on := 12, ground := .data } (by simp) rfl
            rw [Array.getD_eq_getD_getElem?] at t55
            have t58 : a.tmps.getD 58 undef = .bool true := hd { on := 15, ground := .data } (by simp) rfl
            rw [Array.getD_eq_getD_getElem?] at t58
            have g50 : a.eval (.tmp 50) = .bool true := hd { on := 7, ground := .guard } (by simp) rfl
            refine .inl ⟨(by simp only [Region.wanted]; rw [yielded_of (d := 50) (by rfl) g50]; rfl), ?_⟩
            clear g50
            go_simp
            exact ⟨Below.refl _ _, rfl⟩
          · have t50 : a.tmps.getD 50 undef = .bool true := hd { on := 7, ground := .data } (by simp) rfl
            rw [Array.getD_eq_getD_getElem?] at t50
            have t59 : a.tmps.getD 59 undef = .bool true := hd { on := 16, ground := .data } (by simp) rfl
            rw [Array.getD_eq_getD_getElem?] at t59
            refine .inl ⟨rfl, ?_⟩
            go_simp
            exact ⟨Below.refl _ _, rfl⟩
          · have t60 : a.tmps.getD 60 undef = .bool true := hd { on := 17, ground := .data } (by simp) rfl
            rw [Array.getD_eq_getD_getElem?] at t60
            refine .inl ⟨rfl, ?_⟩
            go_simp
            exact ⟨Below.refl _ _, rfl⟩
          · have t4 : a.tmps.getD 4 undef = .pointer (some ⟨w.heap.size, 0, none⟩) := hF.at 4 (by kernel_rfl)
            rw [Array.getD_eq_getD_getElem?] at t4
            have g61 : a.eval (.tmp 61) = .bool true := hd { on := 18, ground := .guard } (by simp) rfl
            refine .inl ⟨(by simp only [Region.wanted]; rw [yielded_of (d := 61) (by rfl) g61]; rfl), ?_⟩
            clear g61
            rw [run_obox _ _ 32 (.tmp 4) rfl (w.heap.size) (by simpa [Act.eval] using t4) 32 (s.arr mv) _ (HX W hE) Try.underlying32 rfl (st_inf _ _)]
            exact ⟨Below.refl _ _, rfl⟩
          · have t62 : a.tmps.getD 62 undef = .agg (s.arr mv) := hd { on := 19, ground := .data } (by simp) rfl
            rw [Array.getD_eq_getD_getElem?] at t62
            have g61 : a.eval (.tmp 61) = .bool true := hd { on := 18, ground := .guard } (by simp) rfl
            refine .inl ⟨(by simp only [Region.wanted]; rw [yielded_of (d := 61) (by rfl) g61]; rfl), ?_⟩
            clear g61
            go_simp
            exact (HLe W).mono fun e w2 h => ⟨_, h.1, h.2, rfl⟩
          · have t63 : a.tmps.getD 63 undef = .int .i64 0 := hd { on := 20, ground := .data } (by simp) rfl
            rw [Array.getD_eq_getD_getElem?] at t63
            have g61 : a.eval (.tmp 61) = .bool true := hd { on := 18, ground := .guard } (by simp) rfl
            refine .inl ⟨(by simp only [Region.wanted]; rw [yielded_of (d := 61) (by rfl) g61]; rfl), ?_⟩
            clear g61
            go_simp
            exact ⟨Below.refl _ _, rfl⟩
          · have t61 : a.tmps.getD 61 undef = .bool true := hd { on := 18, ground := .data } (by simp) rfl
            rw [Array.getD_eq_getD_getElem?] at t61
            have t64 : a.tmps.getD 64 undef = .bool true := hd { on := 21, ground := .data } (by simp) rfl
            rw [Array.getD_eq_getD_getElem?] at t64
            refine .inl ⟨rfl, ?_⟩
            go_simp
            exact ⟨Below.refl _ _, rfl⟩
          · have t65 : a.tmps.getD 65 undef = .bool true := hd { on := 22, ground := .data } (by simp) rfl
            rw [Array.getD_eq_getD_getElem?] at t65
            refine .inl ⟨rfl, ?_⟩
            go_simp
            exact ⟨Below.refl _ _, rfl⟩
          · have g66 : a.eval (.tmp 66) = .bool true := hd { on := 23, ground := .guard } (by simp) rfl
            refine .inl ⟨(by simp only [Region.wanted]; rw [yielded_of (d := 66) (by rfl) g66]; rfl), ?_⟩
            clear g66
            go_simp
            exact (awake15_any W).mono fun e w2 h => ⟨_, h.1, h.2, rfl⟩
          · have t66 : a.tmps.getD 66 undef = .bool true := hd { on := 23, ground := .data } (by simp) rfl
            rw [Array.getD_eq_getD_getElem?] at t66
            have t67 : a.tmps.getD 67 undef = .bool true := hd { on := 24, ground := .data } (by simp) rfl
            rw [Array.getD_eq_getD_getElem?] at t67
            refine .inl ⟨rfl, ?_⟩
            go_simp
            exact ⟨Below.refl _ _, rfl⟩
          · have t68 : a.tmps.getD 68 undef = .bool true := hd { on := 25, ground := .data } (by simp) rfl
            rw [Array.getD_eq_getD_getElem?] at t68
            refine .inl ⟨rfl, ?_⟩
            go_simp
            exact ⟨Below.refl _ _, rfl⟩
        · intro vs W hE hV
          have h26 : vs 26 = .bool true := hV 26 (by decide)
          have HBf : Hid (Below w.heap.size w W) := HB4.out.trans (hE.mono HB4.out.size)
          clear hV hE
          simp only [putsV, dstsV, List.foldl, h26, Act.put, List.setIfInBounds_toArray, List.set_cons_succ, List.set_cons_zero]
          clear h26
          generalize vs 0 = y0
          generalize vs 1 = y1
          generalize vs 2 = y2
          generalize vs 3 = y3
          generalize vs 4 = y4
          generalize vs 5 = y5
          generalize vs 6 = y6
          generalize vs 7 = y7
          generalize vs 8 = y8
          generalize vs 9 = y9
          generalize vs 10 = y10
          generalize vs 11 = y11
          generalize vs 12 = y12
          generalize vs 13 = y13
          generalize vs 14 = y14
          generalize vs 15 = y15
          generalize vs 16 = y16
          generalize vs 17 = y17
          generalize vs 18 = y18
          generalize vs 19 = y19
          generalize vs 20 = y20
          generalize vs 21 = y21
          generalize vs 22 = y22
          generalize vs 23 = y23
          generalize vs 24 = y24
          generalize vs 25 = y25
          refine ‹∀ (a : Act) (w : World), Code.wp Try.prog Code.ret _ a w → _› _ _ ?_
          go_wp2
          go_ret
          exact ⟨rfl, HBf.out⟩

set_option maxRecDepth 100000 in
theorem lifted_DrainLeft (os : Os) (started : os.Started) (H : Type) (enc : TypeId × Value → H) :
    ReturnsInHanded {} Try.checked os 4 .any (Rows.drainLeftSpec.pre6 enc Try.prog Try.f4 Rows.drainLeftRow.domain false) (Rows.drainLeftSpec.post enc Try.prog Try.f4 false true false false) := by
  refine returnsInHanded_of_change_sized (C := Try.checked) own started (by kernel_rfl) Try.func4
    (ChangeSpec.witness6 (enc := enc) (C := Try.checked) false ⟨#[], #[.agg #[.int .i64 0, .string ByteArray.empty, .int .i64 0, .string ByteArray.empty, .int .i64 0, .slice none 0 0, .bool false, .int .i64 0, .int .i64 0, .int .i64 0, .int .i64 0, .int .i64 0, .int .i64 0, .bool false, .int .i64 0, .int .i64 0, .int .i64 0, .bool false, .int .i64 0, .int .i64 0, .int .i64 0], .int .i64 0, .int .i64 0, .int .i64 0], []⟩ 8 (by kernel_rfl) (by kernel_rfl) (by kernel_rfl) (by kernel_rfl)) ?_
  intro W base args ds gs before hval0 hW hcnd hsz0 hholds
  have hval : ∀ (j : Nat) t v, Try.f4.params[j]? = some t → args[j]? = some v → Value.okWide Try.prog W .any base t v := hval0
  have hW' := hW
  obtain ⟨p, q, hA0, hV, rfl, hfz, hnd⟩ := hW
  have hA : DataW.TrodAll enc Try.prog W 0 (fun _ => true) true Try.f4.params.toList args.toList ds p := hA0
  have hsz : (DataW.weightsEach Try.prog (Try.f4.params.toList ++ Rows.drainLeftSpec.plain.varTypes Try.prog) (ds ++ gs)).all (· ≤ reachBytes) = true := hsz0
  rw [Try.params4] at hA hval hsz
  obtain ⟨v0, vs0, d0, ds0, p0, q0, hargs, rfl, rfl, h0, r0⟩ := trodAll_cons hA
  obtain ⟨v1, vs1, d1, ds1, p1, q1, rfl, rfl, rfl, h1, r1⟩ := trodAll_cons r0
  obtain ⟨v2, vs2, d2, ds2, p2, q2, rfl, rfl, rfl, h2, r2⟩ := trodAll_cons r1
  obtain ⟨v3, vs3, d3, ds3, p3, q3, rfl, rfl, rfl, h3, r3⟩ := trodAll_cons r2
  obtain ⟨rfl, rfl, rfl⟩ := trodAll_nil r3
  obtain rfl : args = #[v0, v1, v2, v3] := by cases args; simp_all
  obtain ⟨rfl, rfl⟩ := trodVars_none hV
  have k0 := h0
  have lt0 : ∀ x ∈ p0, x.block < W.heap.size := by obtain ⟨m, hm⟩ := k0; exact DataW.trod_lt m _ _ _ hm
  obtain ⟨c0, m0, dm0, dd0, rfl, i0, w0, rfl, x0⟩ := open_status (hval 0 32 v0 rfl rfl) h0
  have z0 : c0.host.tags.length ≤ 4398046510976 := sized_status hsz (j := 0) rfl rfl x0
  obtain ⟨a1, rfl, rfl, rfl, w1⟩ := open_int Try.underlying3 (hval 1 3 v1 rfl rfl) h1
  obtain ⟨a2, rfl, rfl, rfl, w2⟩ := open_int Try.underlying3 (hval 2 3 v2 rfl rfl) h2
  obtain ⟨a3, rfl, rfl, rfl, w3⟩ := open_int Try.underlying3 (hval 3 3 v3 rfl rfl) h3
  clear hA0 hval0
  refine (walk_DrainLeft c0 m0 i0 z0 a1 (wf_i64 w1) a2 (wf_i64 w2) a3 (wf_i64 w3) W w0).mono fun e W' ⟨he, bel⟩ => ?_
  subst he
  exact ⟨_, rfl, _, _, _, [], _, [], hW', trodAll_mk1 (shut_bool Try.underlying4 _), (trodAll_cons_mk (Below.trod laidOut (by kernel_rfl) (of_decide_eq_true (by kernel_rfl)) k0 bel lt0) (trodAll_cons_mk (shut_int Try.underlying3 w1) (trodAll_cons_mk (shut_int Try.underlying3 w2) (trodAll_cons_mk (shut_int Try.underlying3 w3) trodAll_mk0)))), rfl, bel.frame _, fun h => by cases h⟩

theorem over_DrainLeft : Rows.drainLeftRow.holds Try.pinned (OpenSpec.ofChange Rows.drainLeftSpec) :=
  OpenClaim.holds_of_wide 4 Try.f4 rfl rfl rfl rfl rfl rfl rfl ⟨rfl, rfl, rfl, rfl, rfl⟩ rfl rfl rfl rfl rfl (by kernel_rfl) Try.func4 (by kernel_rfl)
    (of_decide_eq_true (by kernel_rfl)) (by unfold Func.isWrapper; first | (rw [if_pos (by decide +kernel)]; kernel_rfl) | (rw [if_neg (by decide +kernel)]; exact ⟨rfl, rfl⟩))
    (fun os started H enc _ => lifted_DrainLeft os started H enc)

/-- The statement. -/
theorem drainLeft_holds : Rows.DrainLeftSaid := over_DrainLeft
#print axioms drainLeft_holds

end Go.Proofs.Ythmfmeibjpgokaa

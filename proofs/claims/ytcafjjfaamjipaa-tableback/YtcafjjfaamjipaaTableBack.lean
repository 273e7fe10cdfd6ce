/-
  TableBack, for any row of hosts and any host: what is put in and taken out again is as it was; what is there is found; others are where they were. No condition.
-/
import Derived.Test.YtcafjjfaamjipaaTableFrame
import Derived.Test.YtcafjjfaamjipaaTableShown
import Derived.Test.YtcafjjfaamjipaaTableLight
import Derived.Test.YtcafjjfaamjipaaTableMore
import Derived.Test.YtcafjjfaamjipaaRefSame
import Derived.Deep.CutRange
namespace Go.Proofs.Ytcafjjfaamjipaa
open Go.ChangeShapes Go.WideShapes Go.ChangeAt Go.RowKit

theorem same_b (L : List HostT) (v u : Value) (vs us : List Value) (w : World) (hv : IsHosts w v vs L) (hu : IsHosts w u us L) : Calls Try.prog 17 #[v, u] w fun e w' => e = .returned (.bool true) ∧ Below w.heap.size w w' := by
  have := rSameHosts_any L L v u vs us w hv hu
  rwa [decide_eq_true rfl] at this
theorem bit_le (b : Bool) : 0 ≤ bitI b ∧ bitI b ≤ 1 := by cases b <;> decide

set_option maxRecDepth 100000 in
set_option maxHeartbeats 16000000 in
theorem walk_TableBack (ls : List HostT) (lv : Value) (us : List Value) (_ : ∀ i, i < ls.length → inI (ls.getD i noHost).id) (h : HostT) (mv : Value) (oh : okHost h) (_ : inI h.id ∧ inI h.prio ∧ inI h.weight) (_ : h.tags.length ≤ 4398046510976) (w : World) (hl : IsHosts w lv us ls) (hm : IsPairs w mv h.tags) :
    Calls Try.prog 4 #[lv, hval h mv] w fun e w' => e = .returned (.bool true) ∧ Below w.heap.size w w' := by
  obtain ⟨lo, lc, rfl⟩ := hl.shaped
  obtain ⟨mo, mc, rfl⟩ := hm.shaped
  have KA : ∀ W, Calls Try.prog 10 #[] W fun e w' => e = .returned (.bool true) ∧ Below W.heap.size W w' := awake8_any
  have KL1 := fun W q => light8b_any ls (.slice lo ls.length lc) us W q
  have KL2 := fun W q => lightb_any h (.slice mo h.tags.length mc) W oh q
  have KM := fun W q => tmay_any ls (.slice lo ls.length lc) us W q
  have KR := fun W q => rMayTable_any ls (.slice lo ls.length lc) us W q
  have hn1 := bit_le (light8B ls)
  have hn2 := bit_le (lightB h)
  generalize bitI (light8B ls) = n1 at KL1 hn1
  generalize bitI (lightB h) = n2 at KL2 hn2
  obtain ⟨hn1a, hn1b⟩ := hn1
  obtain ⟨hn2a, hn2b⟩ := hn2
  have hw12 : IntKind.i64.wrap (n1 + n2) = n1 + n2 := by rw [IntKind.wrap_i64]; omega
  go_enter Try.func4, Try.ntmps4
  go_wp2
  generalize hW0 : w.alloc _ = W0
  have hX : HasBox W0 w.heap.size 25 (hcells h (.slice mo h.tags.length mc)) := by rw [← hW0]; exact hasBox_new w _ _
  have HB0 : Hid (Below w.heap.size w W0) := by show Below _ _ _; rw [← hW0]; exact (Below.refl _ _).alloc (Nat.le_refl _) _
  have HX : ∀ W, Below W0.heap.size W0 W → HasBox W w.heap.size 25 (hcells h (.slice mo h.tags.length mc)) := fun W h => hX.below h
  have HM : ∀ W, Below W0.heap.size W0 W → IsPairs W (.slice mo h.tags.length mc) h.tags := fun W h => hm.below (HB0.out.trans (h.mono HB0.out.size))
  have HL : ∀ W, Below W0.heap.size W0 W → IsHosts W (.slice lo ls.length lc) us ls := fun W h => hl.below (HB0.out.trans (h.mono HB0.out.size))
  clear hW0 hX
  by_cases hpos : 0 < n1 + n2
  · clear KM KR
    refine wp_region_mp ([eqP (.slice lo ls.length lc), eqP (.int .i64 n1), eqP (hval h (.slice mo h.tags.length mc)), eqP (.int .i64 n2), eqP (.int .i64 (n1 + n2)), eqP (.bool true), eqP (.bool true), eqP (undef), eqP (undef), eqP (undef), eqP (.bool true), eqP (.bool true), eqP (undef), eqP (undef), eqP (undef), eqP (.bool true)]) (by kernel_rfl) (by kernel_rfl) ?_ ?_
    · go_light
      simp only [stepsAll3]
      refine ⟨fun a W hF hE hd => ?_, fun a W hF hE hd => ?_, fun a W hF hE hd => ?_, fun a W hF hE hd => ?_, fun a W hF hE hd => ?_, fun a W hF hE hd => ?_, fun a W hF hE hd => ?_, fun a W hF hE hd => ?_, fun a W hF hE hd => ?_, fun a W hF hE hd => ?_, fun a W hF hE hd => ?_, fun a W hF hE hd => ?_, fun a W hF hE hd => ?_, fun a W hF hE hd => ?_, fun a W hF hE hd => ?_, fun a W hF hE hd => ?_, trivial⟩
      all_goals unfold StepAt
      · have t0 : a.tmps.getD 0 undef = .slice lo ls.length lc := hF.at 0 (by kernel_rfl)
        rw [Array.getD_eq_getD_getElem?] at t0
        refine .inl ⟨rfl, ?_⟩
        go_simp
        exact ⟨Below.refl _ _, rfl⟩
      · have t12 : a.tmps.getD 12 undef = .slice lo ls.length lc := hd { on := 0, ground := .data } (by simp) rfl
        rw [Array.getD_eq_getD_getElem?] at t12
        refine .inl ⟨rfl, ?_⟩
        go_simp
        exact (KL1 W (HL W hE)).mono fun e w2 h => ⟨_, h.1, h.2, rfl⟩
      · have t3 : a.tmps.getD 3 undef = .pointer (some ⟨w.heap.size, 0, none⟩) := hF.at 3 (by kernel_rfl)
        rw [Array.getD_eq_getD_getElem?] at t3
        refine .inl ⟨rfl, ?_⟩
        rw [run_obox _ _ 25 (.tmp 3) rfl (w.heap.size) (by simpa [Act.eval] using t3) 25 (hcells h (.slice mo h.tags.length mc)) _ (HX W hE) Try.underlying25 rfl sizeHost]
        exact ⟨Below.refl _ _, rfl⟩
      · have t14 : a.tmps.getD 14 undef = hval h (.slice mo h.tags.length mc) := hd { on := 2, ground := .data } (by simp) rfl
        rw [Array.getD_eq_getD_getElem?] at t14
        refine .inl ⟨rfl, ?_⟩
        go_simp
        exact (KL2 W (HM W hE)).mono fun e w2 h => ⟨_, h.1, h.2, rfl⟩
      · have t13 : a.tmps.getD 13 undef = .int .i64 n1 := hd { on := 1, ground := .data } (by simp) rfl
        rw [Array.getD_eq_getD_getElem?] at t13
        have t15 : a.tmps.getD 15 undef = .int .i64 n2 := hd { on := 3, ground := .data } (by simp) rfl
        rw [Array.getD_eq_getD_getElem?] at t15
        refine .inl ⟨rfl, ?_⟩
        go_simp
        exact ⟨Below.refl _ _, rfl⟩
      · have t16 : a.tmps.getD 16 undef = .int .i64 (n1 + n2) := hd { on := 4, ground := .data } (by simp) rfl
        rw [Array.getD_eq_getD_getElem?] at t16
        refine .inl ⟨rfl, ?_⟩
        go_simp
        exact ⟨Below.refl _ _, rfl⟩
      · have t17 : a.tmps.getD 17 undef = .bool true := hd { on := 5, ground := .data } (by simp) rfl
        rw [Array.getD_eq_getD_getElem?] at t17
        refine .inl ⟨rfl, ?_⟩
        go_simp
        exact ⟨Below.refl _ _, rfl⟩
      · have g18 : a.eval (.tmp 18) = .bool true := hd { on := 6, ground := .guard } (by simp) rfl
        exact .inr ⟨(by simp only [Region.wanted]; rw [yielded_of (d := 18) (by rfl) g18]; rfl), rfl⟩
      · have g18 : a.eval (.tmp 18) = .bool true := hd { on := 6, ground := .guard } (by simp) rfl
        exact .inr ⟨(by simp only [Region.wanted]; rw [yielded_of (d := 18) (by rfl) g18]; rfl), rfl⟩
      · have g18 : a.eval (.tmp 18) = .bool true := hd { on := 6, ground := .guard } (by simp) rfl
        exact .inr ⟨(by simp only [Region.wanted]; rw [yielded_of (d := 18) (by rfl) g18]; rfl), rfl⟩
      · have t18 : a.tmps.getD 18 undef = .bool true := hd { on := 6, ground := .data } (by simp) rfl
        rw [Array.getD_eq_getD_getElem?] at t18
        refine .inl ⟨rfl, ?_⟩
        go_simp
        exact ⟨Below.refl _ _, rfl⟩
      · have t22 : a.tmps.getD 22 undef = .bool true := hd { on := 10, ground := .data } (by simp) rfl
        rw [Array.getD_eq_getD_getElem?] at t22
        refine .inl ⟨rfl, ?_⟩
        go_simp
        exact ⟨Below.refl _ _, rfl⟩
      · have g23 : a.eval (.tmp 23) = .bool true := hd { on := 11, ground := .guard } (by simp) rfl
        exact .inr ⟨(by simp only [Region.wanted]; rw [yielded_of (d := 23) (by rfl) g23]; rfl), rfl⟩
      · have g23 : a.eval (.tmp 23) = .bool true := hd { on := 11, ground := .guard } (by simp) rfl
        exact .inr ⟨(by simp only [Region.wanted]; rw [yielded_of (d := 23) (by rfl) g23]; rfl), rfl⟩
      · have g23 : a.eval (.tmp 23) = .bool true := hd { on := 11, ground := .guard } (by simp) rfl
        exact .inr ⟨(by simp only [Region.wanted]; rw [yielded_of (d := 23) (by rfl) g23]; rfl), rfl⟩
      · have t23 : a.tmps.getD 23 undef = .bool true := hd { on := 11, ground := .data } (by simp) rfl
        rw [Array.getD_eq_getD_getElem?] at t23
        refine .inl ⟨rfl, ?_⟩
        go_simp
        exact ⟨Below.refl _ _, rfl⟩
    · intro vs W hE hV
      have h15 : vs 15 = .bool true := hV 15 (by decide)
      have HWW : Hid (Below W0.heap.size W0 W) := hE
      have HBf : Hid (Below w.heap.size w W) := HB0.out.trans (hE.mono HB0.out.size)
      clear hV hE
      simp only [putsV, dstsV, List.foldl, h15, Act.put, List.setIfInBounds_toArray, List.set_cons_succ, List.set_cons_zero]
      clear h15
      generalize vs 0 = y0
      generalize vs 1 = y1
      generalize vs 2 = y2
      generalize vs 3 = y3
      generalize vs 4 = y4
      generalize vs 5 = y5
      generalize vs 6 = y6
      generalize vs 7 = y7
      generalize vs 8 = y8
      generalize vs 9 = y9
      generalize vs 10 = y10
      generalize vs 11 = y11
      generalize vs 12 = y12
      generalize vs 13 = y13
      generalize vs 14 = y14
      refine ‹∀ (a : Act) (w : World), Code.wp Try.prog (Code.cond _ _ _) _ a w → _› _ _ ?_
      go_wp2_with fail
      refine (KA _).mono ?_
      rintro e w1 ⟨rfl, hb⟩
      have HB1 : Hid (Below w.heap.size w w1) := HBf.out.trans (hb.mono HBf.out.size)
      clear hb
      go_wp2
      go_ret
      exact ⟨rfl, HB1.out⟩
  · cases hmt : mayTab ls with
    | false =>
      rw [hmt] at KM KR
      clear KR hmt
      refine wp_region_mp ([eqP (.slice lo ls.length lc), eqP (.int .i64 n1), eqP (hval h (.slice mo h.tags.length mc)), eqP (.int .i64 n2), eqP (.int .i64 (n1 + n2)), eqP (.bool false), eqP (.bool false), eqP (.slice lo ls.length lc), eqP (.bool false), eqP (.bool true), eqP (.bool true), eqP (.bool true), eqP (undef), eqP (undef), eqP (undef), eqP (.bool true)]) (by kernel_rfl) (by kernel_rfl) ?_ ?_
      · go_light
        simp only [stepsAll3]
        refine ⟨fun a W hF hE hd => ?_, fun a W hF hE hd => ?_, fun a W hF hE hd => ?_, fun a W hF hE hd => ?_, fun a W hF hE hd => ?_, fun a W hF hE hd => ?_, fun a W hF hE hd => ?_, fun a W hF hE hd => ?_, fun a W hF hE hd => ?_, fun a W hF hE hd => ?_, fun a W hF hE hd => ?_, fun a W hF hE hd => ?_, fun a W hF hE hd => ?_, fun a W hF hE hd => ?_, fun a W hF hE hd => ?_, fun a W hF hE hd => ?_, trivial⟩
        all_goals unfold StepAt
        · have t0 : a.tmps.getD 0 undef = .slice lo ls.length lc := hF.at 0 (by kernel_rfl)
          rw [Array.getD_eq_getD_getElem?] at t0
          refine .inl ⟨rfl, ?_⟩
          go_simp
          exact ⟨Below.refl _ _, rfl⟩
        · have t12 : a.tmps.getD 12 undef = .slice lo ls.length lc := hd { on := 0, ground := .data } (by simp) rfl
          rw [Array.getD_eq_getD_getElem?] at t12
          refine .inl ⟨rfl, ?_⟩
          go_simp
          exact (KL1 W (HL W hE)).mono fun e w2 h => ⟨_, h.1, h.2, rfl⟩
        · have t3 : a.tmps.getD 3 undef = .pointer (some ⟨w.heap.size, 0, none⟩) := hF.at 3 (by kernel_rfl)
          rw [Array.getD_eq_getD_getElem?] at t3
          refine .inl ⟨rfl, ?_⟩
          rw [run_obox _ _ 25 (.tmp 3) rfl (w.heap.size) (by simpa [Act.eval] using t3) 25 (hcells h (.slice mo h.tags.length mc)) _ (HX W hE) Try.underlying25 rfl sizeHost]
          exact ⟨Below.refl _ _, rfl⟩
        · have t14 : a.tmps.getD 14 undef = hval h (.slice mo h.tags.length mc) := hd { on := 2, ground := .data } (by simp) rfl
          rw [Array.getD_eq_getD_getElem?] at t14
          refine .inl ⟨rfl, ?_⟩
          go_simp
          exact (KL2 W (HM W hE)).mono fun e w2 h => ⟨_, h.1, h.2, rfl⟩
        · have t13 : a.tmps.getD 13 undef = .int .i64 n1 := hd { on := 1, ground := .data } (by simp) rfl
          rw [Array.getD_eq_getD_getElem?] at t13
          have t15 : a.tmps.getD 15 undef = .int .i64 n2 := hd { on := 3, ground := .data } (by simp) rfl
          rw [Array.getD_eq_getD_getElem?] at t15
          refine .inl ⟨rfl, ?_⟩
          go_simp
          exact ⟨Below.refl _ _, rfl⟩
        · have t16 : a.tmps.getD 16 undef = .int .i64 (n1 + n2) := hd { on := 4, ground := .data } (by simp) rfl
          rw [Array.getD_eq_getD_getElem?] at t16
          refine .inl ⟨rfl, ?_⟩
          go_simp
          exact ⟨Below.refl _ _, rfl⟩
        · have t17 : a.tmps.getD 17 undef = .bool false := hd { on := 5, ground := .data } (by simp) rfl
          rw [Array.getD_eq_getD_getElem?] at t17
          refine .inl ⟨rfl, ?_⟩
          go_simp
          exact ⟨Below.refl _ _, rfl⟩
        · have t0 : a.tmps.getD 0 undef = .slice lo ls.length lc := hF.at 0 (by kernel_rfl)
          rw [Array.getD_eq_getD_getElem?] at t0
          have g18 : a.eval (.tmp 18) = .bool false := hd { on := 6, ground := .guard } (by simp) rfl
          refine .inl ⟨(by simp only [Region.wanted]; rw [yielded_of (d := 18) (by rfl) g18]; rfl), ?_⟩
          clear g18
          go_simp
          exact ⟨Below.refl _ _, rfl⟩
        · have t19 : a.tmps.getD 19 undef = .slice lo ls.length lc := hd { on := 7, ground := .data } (by simp) rfl
          rw [Array.getD_eq_getD_getElem?] at t19
          have g18 : a.eval (.tmp 18) = .bool false := hd { on := 6, ground := .guard } (by simp) rfl
          refine .inl ⟨(by simp only [Region.wanted]; rw [yielded_of (d := 18) (by rfl) g18]; rfl), ?_⟩
          clear g18
          go_simp
          exact (KM W (HL W hE)).mono fun e w2 h => ⟨_, h.1, h.2, rfl⟩
        · have t20 : a.tmps.getD 20 undef = .bool false := hd { on := 8, ground := .data } (by simp) rfl
          rw [Array.getD_eq_getD_getElem?] at t20
          have g18 : a.eval (.tmp 18) = .bool false := hd { on := 6, ground := .guard } (by simp) rfl
          refine .inl ⟨(by simp only [Region.wanted]; rw [yielded_of (d := 18) (by rfl) g18]; rfl), ?_⟩
          clear g18
          go_simp
          exact ⟨Below.refl _ _, rfl⟩
        · have t18 : a.tmps.getD 18 undef = .bool false := hd { on := 6, ground := .data } (by simp) rfl
          rw [Array.getD_eq_getD_getElem?] at t18
          have t21 : a.tmps.getD 21 undef = .bool true := hd { on := 9, ground := .data } (by simp) rfl
          rw [Array.getD_eq_getD_getElem?] at t21
          refine .inl ⟨rfl, ?_⟩
          go_simp
          exact ⟨Below.refl _ _, rfl⟩
        · have t22 : a.tmps.getD 22 undef = .bool true := hd { on := 10, ground := .data } (by simp) rfl
          rw [Array.getD_eq_getD_getElem?] at t22
          refine .inl ⟨rfl, ?_⟩
          go_simp
          exact ⟨Below.refl _ _, rfl⟩
        · have g23 : a.eval (.tmp 23) = .bool true := hd { on := 11, ground := .guard } (by simp) rfl
          exact .inr ⟨(by simp only [Region.wanted]; rw [yielded_of (d := 23) (by rfl) g23]; rfl), rfl⟩
        · have g23 : a.eval (.tmp 23) = .bool true := hd { on := 11, ground := .guard } (by simp) rfl
          exact .inr ⟨(by simp only [Region.wanted]; rw [yielded_of (d := 23) (by rfl) g23]; rfl), rfl⟩
        · have g23 : a.eval (.tmp 23) = .bool true := hd { on := 11, ground := .guard } (by simp) rfl
          exact .inr ⟨(by simp only [Region.wanted]; rw [yielded_of (d := 23) (by rfl) g23]; rfl), rfl⟩
        · have t23 : a.tmps.getD 23 undef = .bool true := hd { on := 11, ground := .data } (by simp) rfl
          rw [Array.getD_eq_getD_getElem?] at t23
          refine .inl ⟨rfl, ?_⟩
          go_simp
          exact ⟨Below.refl _ _, rfl⟩
      · intro vs W hE hV
        have h15 : vs 15 = .bool true := hV 15 (by decide)
        have HWW : Hid (Below W0.heap.size W0 W) := hE
        have HBf : Hid (Below w.heap.size w W) := HB0.out.trans (hE.mono HB0.out.size)
        clear hV hE
        simp only [putsV, dstsV, List.foldl, h15, Act.put, List.setIfInBounds_toArray, List.set_cons_succ, List.set_cons_zero]
        clear h15
        generalize vs 0 = y0
        generalize vs 1 = y1
        generalize vs 2 = y2
        generalize vs 3 = y3
        generalize vs 4 = y4
        generalize vs 5 = y5
        generalize vs 6 = y6
        generalize vs 7 = y7
        generalize vs 8 = y8
        generalize vs 9 = y9
        generalize vs 10 = y10
        generalize vs 11 = y11
        generalize vs 12 = y12
        generalize vs 13 = y13
        generalize vs 14 = y14
        refine ‹∀ (a : Act) (w : World), Code.wp Try.prog (Code.cond _ _ _) _ a w → _› _ _ ?_
        go_wp2_with fail
        refine (KA _).mono ?_
        rintro e w1 ⟨rfl, hb⟩
        have HB1 : Hid (Below w.heap.size w w1) := HBf.out.trans (hb.mono HBf.out.size)
        clear hb
        go_wp2
        go_ret
        exact ⟨rfl, HB1.out⟩
    | true =>
      rw [hmt] at KM KR
      have HMt : Hid (mayTab ls = true) := hmt
      clear hmt
      refine wp_region_mp ([eqP (.slice lo ls.length lc), eqP (.int .i64 n1), eqP (hval h (.slice mo h.tags.length mc)), eqP (.int .i64 n2), eqP (.int .i64 (n1 + n2)), eqP (.bool false), eqP (.bool false), eqP (.slice lo ls.length lc), eqP (.bool true), eqP (.bool false), eqP (.bool false), eqP (.bool false), eqP (.slice lo ls.length lc), eqP (.bool true), eqP (.bool false), eqP (.bool false)]) (by kernel_rfl) (by kernel_rfl) ?_ ?_
      · go_light
        simp only [stepsAll3]
        refine ⟨fun a W hF hE hd => ?_, fun a W hF hE hd => ?_, fun a W hF hE hd => ?_, fun a W hF hE hd => ?_, fun a W hF hE hd => ?_, fun a W hF hE hd => ?_, fun a W hF hE hd => ?_, fun a W hF hE hd => ?_, fun a W hF hE hd => ?_, fun a W hF hE hd => ?_, fun a W hF hE hd => ?_, fun a W hF hE hd => ?_, fun a W hF hE hd => ?_, fun a W hF hE hd => ?_, fun a W hF hE hd => ?_, fun a W hF hE hd => ?_, trivial⟩
        all_goals unfold StepAt
        · have t0 : a.tmps.getD 0 undef = .slice lo ls.length lc := hF.at 0 (by kernel_rfl)
          rw [Array.getD_eq_getD_getElem?] at t0
          refine .inl ⟨rfl, ?_⟩
          go_simp
          exact ⟨Below.refl _ _, rfl⟩
        · have t12 : a.tmps.getD 12 undef = .slice lo ls.length lc := hd { on := 0, ground := .data } (by simp) rfl
          rw [Array.getD_eq_getD_getElem?] at t12
          refine .inl ⟨rfl, ?_⟩
          go_simp
          exact (KL1 W (HL W hE)).mono fun e w2 h => ⟨_, h.1, h.2, rfl⟩
        · have t3 : a.tmps.getD 3 undef = .pointer (some ⟨w.heap.size, 0, none⟩) := hF.at 3 (by kernel_rfl)
          rw [Array.getD_eq_getD_getElem?] at t3
          refine .inl ⟨rfl, ?_⟩
          rw [run_obox _ _ 25 (.tmp 3) rfl (w.heap.size) (by simpa [Act.eval] using t3) 25 (hcells h (.slice mo h.tags.length mc)) _ (HX W hE) Try.underlying25 rfl sizeHost]
          exact ⟨Below.refl _ _, rfl⟩
        · have t14 : a.tmps.getD 14 undef = hval h (.slice mo h.tags.length mc) := hd { on := 2, ground := .data } (by simp) rfl
          rw [Array.getD_eq_getD_getElem?] at t14
          refine .inl ⟨rfl, ?_⟩
          go_simp
          exact (KL2 W (HM W hE)).mono fun e w2 h => ⟨_, h.1, h.2, rfl⟩
        · have t13 : a.tmps.getD 13 undef = .int .i64 n1 := hd { on := 1, ground := .data } (by simp) rfl
          rw [Array.getD_eq_getD_getElem?] at t13
          have t15 : a.tmps.getD 15 undef = .int .i64 n2 := hd { on := 3, ground := .data } (by simp) rfl
          rw [Array.getD_eq_getD_getElem?] at t15
          refine .inl ⟨rfl, ?_⟩
          go_simp
          exact ⟨Below.refl _ _, rfl⟩
        · have t16 : a.tmps.getD 16 undef = .int .i64 (n1 + n2) := hd { on := 4, ground := .data } (by simp) rfl
          rw [Array.getD_eq_getD_getElem?] at t16
          refine .inl ⟨rfl, ?_⟩
          go_simp
          exact ⟨Below.refl _ _, rfl⟩
        · have t17 : a.tmps.getD 17 undef = .bool false := hd { on := 5, ground := .data } (by simp) rfl
          rw [Array.getD_eq_getD_getElem?] at t17
          refine .inl ⟨rfl, ?_⟩
          go_simp
          exact ⟨Below.refl _ _, rfl⟩
        · have t0 : a.tmps.getD 0 undef = .slice lo ls.length lc := hF.at 0 (by kernel_rfl)
          rw [Array.getD_eq_getD_getElem?] at t0
          have g18 : a.eval (.tmp 18) = .bool false := hd { on := 6, ground := .guard } (by simp) rfl
          refine .inl ⟨(by simp only [Region.wanted]; rw [yielded_of (d := 18) (by rfl) g18]; rfl), ?_⟩
          clear g18
          go_simp
          exact ⟨Below.refl _ _, rfl⟩
        · have t19 : a.tmps.getD 19 undef = .slice lo ls.length lc := hd { on := 7, ground := .data } (by simp) rfl
          rw [Array.getD_eq_getD_getElem?] at t19
          have g18 : a.eval (.tmp 18) = .bool false := hd { on := 6, ground := .guard } (by simp) rfl
          refine .inl ⟨(by simp only [Region.wanted]; rw [yielded_of (d := 18) (by rfl) g18]; rfl), ?_⟩
          clear g18
          go_simp
          exact (KM W (HL W hE)).mono fun e w2 h => ⟨_, h.1, h.2, rfl⟩
        · have t20 : a.tmps.getD 20 undef = .bool true := hd { on := 8, ground := .data } (by simp) rfl
          rw [Array.getD_eq_getD_getElem?] at t20
          have g18 : a.eval (.tmp 18) = .bool false := hd { on := 6, ground := .guard } (by simp) rfl
          refine .inl ⟨(by simp only [Region.wanted]; rw [yielded_of (d := 18) (by rfl) g18]; rfl), ?_⟩
          clear g18
          go_simp
          exact ⟨Below.refl _ _, rfl⟩
        · have t18 : a.tmps.getD 18 undef = .bool false := hd { on := 6, ground := .data } (by simp) rfl
          rw [Array.getD_eq_getD_getElem?] at t18
          have t21 : a.tmps.getD 21 undef = .bool false := hd { on := 9, ground := .data } (by simp) rfl
          rw [Array.getD_eq_getD_getElem?] at t21
          refine .inl ⟨rfl, ?_⟩
          go_simp
          exact ⟨Below.refl _ _, rfl⟩
        · have t22 : a.tmps.getD 22 undef = .bool false := hd { on := 10, ground := .data } (by simp) rfl
          rw [Array.getD_eq_getD_getElem?] at t22
          refine .inl ⟨rfl, ?_⟩
          go_simp
          exact ⟨Below.refl _ _, rfl⟩
        · have t0 : a.tmps.getD 0 undef = .slice lo ls.length lc := hF.at 0 (by kernel_rfl)
          rw [Array.getD_eq_getD_getElem?] at t0
          have g23 : a.eval (.tmp 23) = .bool false := hd { on := 11, ground := .guard } (by simp) rfl
          refine .inl ⟨(by simp only [Region.wanted]; rw [yielded_of (d := 23) (by rfl) g23]; rfl), ?_⟩
          clear g23
          go_simp
          exact ⟨Below.refl _ _, rfl⟩
        · have t24 : a.tmps.getD 24 undef = .slice lo ls.length lc := hd { on := 12, ground := .data } (by simp) rfl
          rw [Array.getD_eq_getD_getElem?] at t24
          have g23 : a.eval (.tmp 23) = .bool false := hd { on := 11, ground := .guard } (by simp) rfl
          refine .inl ⟨(by simp only [Region.wanted]; rw [yielded_of (d := 23) (by rfl) g23]; rfl), ?_⟩
          clear g23
          go_simp
          exact (KR W (HL W hE)).mono fun e w2 h => ⟨_, h.1, h.2, rfl⟩
        · have t25 : a.tmps.getD 25 undef = .bool true := hd { on := 13, ground := .data } (by simp) rfl
          rw [Array.getD_eq_getD_getElem?] at t25
          have g23 : a.eval (.tmp 23) = .bool false := hd { on := 11, ground := .guard } (by simp) rfl
          refine .inl ⟨(by simp only [Region.wanted]; rw [yielded_of (d := 23) (by rfl) g23]; rfl), ?_⟩
          clear g23
          go_simp
          exact ⟨Below.refl _ _, rfl⟩
        · have t23 : a.tmps.getD 23 undef = .bool false := hd { on := 11, ground := .data } (by simp) rfl
          rw [Array.getD_eq_getD_getElem?] at t23
          have t26 : a.tmps.getD 26 undef = .bool false := hd { on := 14, ground := .data } (by simp) rfl
          rw [Array.getD_eq_getD_getElem?] at t26
          refine .inl ⟨rfl, ?_⟩
          go_simp
          exact ⟨Below.refl _ _, rfl⟩
      · intro vs W hE hV
        have h15 : vs 15 = .bool false := hV 15 (by decide)
        have HWW : Hid (Below W0.heap.size W0 W) := hE
        have HBf : Hid (Below w.heap.size w W) := HB0.out.trans (hE.mono HB0.out.size)
        clear hV hE
        simp only [putsV, dstsV, List.foldl, h15, Act.put, List.setIfInBounds_toArray, List.set_cons_succ, List.set_cons_zero]
        clear h15
        generalize vs 0 = y0
        generalize vs 1 = y1
        generalize vs 2 = y2
        generalize vs 3 = y3
        generalize vs 4 = y4
        generalize vs 5 = y5
        generalize vs 6 = y6
        generalize vs 7 = y7
        generalize vs 8 = y8
        generalize vs 9 = y9
        generalize vs 10 = y10
        generalize vs 11 = y11
        generalize vs 12 = y12
        generalize vs 13 = y13
        generalize vs 14 = y14
        refine ‹∀ (a : Act) (w : World), Code.wp Try.prog (Code.cond _ _ _) _ a w → _› _ _ ?_
        clear KM KR KL1 KL2
        have HW0 := HWW
        have KAdd := fun W p q => tadd_any ls h (.slice mo h.tags.length mc) (.slice lo ls.length lc) us W p oh q
        have KFd := fun W q => tfind_any ls h.id (.slice lo ls.length lc) us W q
        have h64 : ls.length ≤ 64 := mayTab_le HMt.out
        by_cases hmh : mayHost h = true
        rotate_left
        · have ea : addR ls h = ([], 1) := by unfold addR; rw [HMt.out, Bool.eq_false_iff.2 hmh]; rfl
          rw [ea] at KAdd
          clear hmh ea
          go_wp2_with (first | (refine wpList_load_box rfl 25 (.tmp 3) rfl w.heap.size rfl 25 _ _ (HX _ HW0.out) Try.underlying25 rfl sizeHost ?_) | fail)
          refine (KAdd _ (HL _ HW0.out) (HM _ HW0.out)).mono ?_
          rintro e w2 ⟨hL, hb⟩
          rcases hL with ⟨_, rfl⟩ | ⟨h0, _⟩
          rotate_left
          · exact absurd h0 (by decide)
          have HB2 : Hid (Below w.heap.size w w2) := HBf.out.trans (hb.mono HBf.out.size)
          have HW2 : Hid (Below W0.heap.size W0 w2) := HW0.out.trans (hb.mono HW0.out.size)
          have cid : w2.cell? ⟨w.heap.size, 0, none⟩ = some (.int .i64 h.id) := (HX _ HW2.out).cell 0
          clear hb
          have HB3 := HB2
          go_wp2_with fail
          refine (KA _).mono ?_
          rintro e w4 ⟨rfl, hb⟩
          have HB4 : Hid (Below w.heap.size w w4) := HB3.out.trans (hb.mono HB3.out.size)
          clear hb
          go_wp2
          go_ret
          exact ⟨rfl, HB4.out⟩
        by_cases hf : 0 ≤ findH ls h.id
        · have ea : addR ls h = ([], 3) := by unfold addR; rw [HMt.out, hmh, Bool.and_self, if_pos rfl, if_pos hf]
          rw [ea] at KAdd
          clear hmh ea
          generalize findH ls h.id = fv at KFd hf
          go_wp2_with (first | (refine wpList_load_box rfl 25 (.tmp 3) rfl w.heap.size rfl 25 _ _ (HX _ HW0.out) Try.underlying25 rfl sizeHost ?_) | fail)
          refine (KAdd _ (HL _ HW0.out) (HM _ HW0.out)).mono ?_
          rintro e w2 ⟨hL, hb⟩
          rcases hL with ⟨_, rfl⟩ | ⟨h0, _⟩
          rotate_left
          · exact absurd h0 (by decide)
          have HB2 : Hid (Below w.heap.size w w2) := HBf.out.trans (hb.mono HBf.out.size)
          have HW2 : Hid (Below W0.heap.size W0 w2) := HW0.out.trans (hb.mono HW0.out.size)
          have cid : w2.cell? ⟨w.heap.size, 0, none⟩ = some (.int .i64 h.id) := (HX _ HW2.out).cell 0
          clear hb
          go_wp2_with fail
          refine (KFd _ (HL _ HW2.out)).mono ?_
          rintro e w3 ⟨rfl, hb⟩
          have HB3 : Hid (Below w.heap.size w w3) := HB2.out.trans (hb.mono HB2.out.size)
          clear hb
          go_wp2_with fail
          refine (KA _).mono ?_
          rintro e w4 ⟨rfl, hb⟩
          have HB4 : Hid (Below w.heap.size w w4) := HB3.out.trans (hb.mono HB3.out.size)
          clear hb
          go_wp2
          go_ret
          exact ⟨rfl, HB4.out⟩
        by_cases hful : 64 ≤ ls.length
        · have ea : addR ls h = ([], 6) := by unfold addR; rw [HMt.out, hmh, Bool.and_self, if_pos rfl, if_neg hf, if_pos hful]
          have hfb : ((ls.length : Int) == 64) = true := by rw [beq_iff_eq]; omega
          rw [ea] at KAdd
          clear hmh ea
          go_wp2_with (first | (refine wpList_load_box rfl 25 (.tmp 3) rfl w.heap.size rfl 25 _ _ (HX _ HW0.out) Try.underlying25 rfl sizeHost ?_) | fail)
          refine (KAdd _ (HL _ HW0.out) (HM _ HW0.out)).mono ?_
          rintro e w2 ⟨hL, hb⟩
          rcases hL with ⟨_, rfl⟩ | ⟨h0, _⟩
          rotate_left
          · exact absurd h0 (by decide)
          have HB2 : Hid (Below w.heap.size w w2) := HBf.out.trans (hb.mono HBf.out.size)
          have HW2 : Hid (Below W0.heap.size W0 w2) := HW0.out.trans (hb.mono HW0.out.size)
          have cid : w2.cell? ⟨w.heap.size, 0, none⟩ = some (.int .i64 h.id) := (HX _ HW2.out).cell 0
          clear hb
          have HB3 := HB2
          go_wp2_with fail
          refine (KA _).mono ?_
          rintro e w4 ⟨rfl, hb⟩
          have HB4 : Hid (Below w.heap.size w w4) := HB3.out.trans (hb.mono HB3.out.size)
          clear hb
          go_wp2
          go_ret
          exact ⟨rfl, HB4.out⟩
        have hno := findH_neg.1 (show findH ls h.id < 0 by omega)
        have ea : addR ls h = (moreH ls h, 0) := by unfold addR; rw [HMt.out, hmh, Bool.and_self, if_pos rfl, if_neg hf, if_neg hful]
        rw [ea] at KAdd
        have hmm := more_may HMt.out hmh (by omega) hno
        have hlm := less_more hno
        obtain ⟨j, hj, hfj, hgj⟩ := find_more (mayTab_rises HMt.out) hno
        have hok2 : ∀ x ∈ moreH ls h, okAll x := fun x hx => by
          rcases more_mem.1 hx with e | e
          · rw [e]; exact ⟨oh, hm.1⟩
          · exact okAll_of hl x e
        generalize moreH ls h = M at KAdd hmm hlm hj hfj hgj hok2
        have HOk : Hid (∀ x ∈ M, okAll x) := hok2
        have e3 : addR M h = ([], 3) := by unfold addR; rw [hmm, hmh, Bool.and_self, if_pos rfl, if_pos (by omega)]
        have e4 : cutR M h.id = (ls, 0) := by unfold cutR; rw [hmm, if_pos rfl, if_neg (by omega), hlm]
        have HGj : Hid (M.getD j noHost = h) := hgj
        have KAdd2 := fun v vs W p q => tadd_any M h (.slice mo h.tags.length mc) v vs W p oh q
        have KCut := fun v vs W p => tcut_any M h.id v vs W p
        have KFd2 := fun v vs W q => tfind_any M h.id v vs W q
        have KMm := fun v vs W q => tmay_any M v vs W q
        rw [e3] at KAdd2
        rw [e4] at KCut
        rw [hfj] at KFd2
        rw [hmm] at KMm
        clear hok2 e3 e4 hgj hfj hmm hlm hno hf ea hmh hl hm
        go_wp2_with (first | (refine wpList_load_box rfl 25 (.tmp 3) rfl w.heap.size rfl 25 _ _ (HX _ HW0.out) Try.underlying25 rfl sizeHost ?_) | fail)
        refine (KAdd _ (HL _ HW0.out) (HM _ HW0.out)).mono ?_
        rintro e w2 ⟨hL, hb⟩
        rcases hL with ⟨h0, _⟩ | ⟨_, mvv, mvs, rfl, ho⟩
        · exact absurd rfl h0
        have HW2 : Hid (Below W0.heap.size W0 w2) := HW0.out.trans (hb.mono HW0.out.size)
        have HR2 : Hid (IsHosts w2 mvv mvs M) := ho.isHosts (fun i hi => by
          have e : M.getD i noHost = M[i] := by simp [hi]
          rw [e]; exact (HOk.out _ (List.getElem_mem hi)).1) (fun i hi => by
          have e : M.getD i noHost = M[i] := by simp [hi]
          rw [e]; exact (HOk.out _ (List.getElem_mem hi)).2)
        clear hb ho KAdd KFd HOk
        go_wp2_with (first | (refine wpList_load_box rfl 25 (.tmp 3) rfl w.heap.size rfl 25 _ _ (HX _ HW2.out) Try.underlying25 rfl sizeHost ?_) | fail)
        refine (KAdd2 _ _ _ HR2.out (HM _ HW2.out)).mono ?_
        rintro e w3 ⟨hL, hb⟩
        rcases hL with ⟨_, rfl⟩ | ⟨h0, _⟩
        rotate_left
        · exact absurd h0 (by decide)
        have HW3 : Hid (Below W0.heap.size W0 w3) := HW2.out.trans (hb.mono HW2.out.size)
        have HR3 : Hid (IsHosts w3 mvv mvs M) := HR2.out.below hb
        have c3 : w3.cell? ⟨w.heap.size, 0, none⟩ = some (.int .i64 h.id) := (HX _ HW3.out).cell 0
        clear hb KAdd2 HR2
        go_wp2_with fail
        refine (KCut _ _ _ HR3.out).mono ?_
        rintro e w4 ⟨hL, hb⟩
        rcases hL with ⟨h0, _⟩ | ⟨_, kv, kvs, rfl, ho⟩
        · exact absurd rfl h0
        have HW4 : Hid (Below W0.heap.size W0 w4) := HW3.out.trans (hb.mono HW3.out.size)
        have HR4 : Hid (IsHosts w4 mvv mvs M) := HR3.out.below hb
        have HK4 : Hid (IsHosts w4 kv kvs ls) := ho.isHosts (HL _ HW4.out).ok (fun i hi => ((HL _ HW4.out).tags i hi).1)
        have c4 : w4.cell? ⟨w.heap.size, 0, none⟩ = some (.int .i64 h.id) := (HX _ HW4.out).cell 0
        clear hb ho KCut HR3 c3
        go_wp2_with fail
        refine (KFd2 _ _ _ HR4.out).mono ?_
        rintro e w5 ⟨rfl, hb⟩
        have HW5 : Hid (Below W0.heap.size W0 w5) := HW4.out.trans (hb.mono HW4.out.size)
        have HB7 : Hid (Below w.heap.size w w5) := HB0.out.trans (HW5.out.mono HB0.out.size)
        have HR5 : Hid (IsHosts w5 mvv mvs M) := HR4.out.below hb
        have HK5 : Hid (IsHosts w5 kv kvs ls) := HK4.out.below hb
        clear hb KFd2 HR4 HK4 c4
        obtain ⟨ga, gc, rfl⟩ := HR5.out.shaped
        obtain ⟨gb, go, rfl, hgb, c0, c1, c2, c3, c4, c5⟩ := HR5.out.at j hj
        obtain ⟨ta, tc, htv⟩ := (HR5.out.tags j hj).shaped
        have htg := HR5.out.tags j hj
        rw [htv, HGj.out] at htg
        rw [htv] at c5
        rw [HGj.out] at c0 c1 c2 c3 c4 c5
        have HX2 : ∀ W, Below w5.heap.size w5 W → HasBox W w.heap.size 25 (hcells h (.slice mo h.tags.length mc)) := fun W q => HX W (HW5.out.trans (q.mono HW5.out.size))
        have HM2 : ∀ W, Below w5.heap.size w5 W → IsPairs W (.slice mo h.tags.length mc) h.tags := fun W q => HM W (HW5.out.trans (q.mono HW5.out.size))
        have HL2 : ∀ W, Below w5.heap.size w5 W → IsHosts W (.slice lo ls.length lc) us ls := fun W q => HL W (HW5.out.trans (q.mono HW5.out.size))
        have HK : ∀ W, Below w5.heap.size w5 W → IsHosts W kv kvs ls := fun W q => HK5.out.below q
        have HMm : ∀ W, Below w5.heap.size w5 W → IsHosts W (.slice (some ⟨gb, go, none⟩) M.length gc) mvs M := fun W q => HR5.out.below q
        have HTm : ∀ W, Below w5.heap.size w5 W → IsPairs W (.slice ta h.tags.length tc) h.tags := fun W q => htg.below q
        have HCm : ∀ W, Below w5.heap.size w5 W → W.cell? ⟨gb, go + j * 6, none⟩ = some (.int .i64 h.id) ∧ W.cell? ⟨gb, go + j * 6 + 1, none⟩ = some (.string h.addr) ∧ W.cell? ⟨gb, go + j * 6 + 2, none⟩ = some (.int .i64 h.prio) ∧ W.cell? ⟨gb, go + j * 6 + 3, none⟩ = some (.string h.zone) ∧ W.cell? ⟨gb, go + j * 6 + 4, none⟩ = some (.int .i64 h.weight) ∧ W.cell? ⟨gb, go + j * 6 + 5, none⟩ = some (.slice ta h.tags.length tc) := fun W p => ⟨(p.cell (p := ⟨gb, _, none⟩) hgb).trans c0, (p.cell (p := ⟨gb, _, none⟩) hgb).trans c1, (p.cell (p := ⟨gb, _, none⟩) hgb).trans c2, (p.cell (p := ⟨gb, _, none⟩) hgb).trans c3, (p.cell (p := ⟨gb, _, none⟩) hgb).trans c4, (p.cell (p := ⟨gb, _, none⟩) hgb).trans c5⟩
        have KMm := KMm (.slice (some ⟨gb, go, none⟩) M.length gc) mvs
        have KS := fun W p q => rSameHost_any h h (.slice ta h.tags.length tc) (.slice mo h.tags.length mc) W p q
        rw [show sameH h h = true from decide_eq_true rfl] at KS
        have hj2 : (j : Int) < (M.length : Int) := by omega
        have hj0 : (0 : Int) ≤ (j : Int) := by omega
        clear HX HM HL
        have HX := HX2
        have HM := HM2
        have HL := HL2
        clear HX2 HM2 HL2 c0 c1 c2 c3 c4 c5 htg htv HGj HR5 HK5
        go_upto_region 9 with fail
        refine wp_region_mp ([eqP (.int .i64 3), eqP (.bool true), eqP (.bool true), eqP (.int .i64 0), eqP (.bool true), eqP (.bool true), eqP (.bool true), eqP (kv), eqP (.slice lo ls.length lc), eqP (.bool true), eqP (.bool true), eqP (.bool true), eqP (.slice (some ⟨gb, go, none⟩) M.length gc), eqP (.bool true), eqP (.bool true), eqP (.bool true), eqP (.int .i64 (j : Nat)), eqP (.bool true), eqP (.bool true), eqP (.bool true), eqP (.int .i64 (j : Nat)), eqP (.slice (some ⟨gb, go, none⟩) M.length gc), eqP (.int .i64 (M.length : Nat)), eqP (.bool true), eqP (.bool true), eqP (.bool true), eqP (.slice (some ⟨gb, go, none⟩) M.length gc), eqP (.int .i64 (j : Nat)), eqP (.pointer (some ⟨gb, go + j * 6, none⟩)), eqP (hval h (.slice ta h.tags.length tc)), eqP (hval h (.slice mo h.tags.length mc)), eqP (.bool true), eqP (.bool true), eqP (.bool true), eqP (.bool true), eqP (.bool true), eqP (.bool true)]) (by kernel_rfl) (by kernel_rfl) ?_ ?_
        · go_light
          simp only [stepsAll3]
          refine ⟨fun a W hF hE hd => ?_, fun a W hF hE hd => ?_, fun a W hF hE hd => ?_, fun a W hF hE hd => ?_, fun a W hF hE hd => ?_, fun a W hF hE hd => ?_, fun a W hF hE hd => ?_, fun a W hF hE hd => ?_, fun a W hF hE hd => ?_, fun a W hF hE hd => ?_, fun a W hF hE hd => ?_, fun a W hF hE hd => ?_, fun a W hF hE hd => ?_, fun a W hF hE hd => ?_, fun a W hF hE hd => ?_, fun a W hF hE hd => ?_, fun a W hF hE hd => ?_, fun a W hF hE hd => ?_, fun a W hF hE hd => ?_, fun a W hF hE hd => ?_, fun a W hF hE hd => ?_, fun a W hF hE hd => ?_, fun a W hF hE hd => ?_, fun a W hF hE hd => ?_, fun a W hF hE hd => ?_, fun a W hF hE hd => ?_, fun a W hF hE hd => ?_, fun a W hF hE hd => ?_, fun a W hF hE hd => ?_, fun a W hF hE hd => ?_, fun a W hF hE hd => ?_, fun a W hF hE hd => ?_, fun a W hF hE hd => ?_, fun a W hF hE hd => ?_, fun a W hF hE hd => ?_, fun a W hF hE hd => ?_, fun a W hF hE hd => ?_, trivial⟩
          all_goals unfold StepAt
          · have t8 : a.tmps.getD 8 undef = .int .i64 3 := hF.at 8 (by kernel_rfl)
            rw [Array.getD_eq_getD_getElem?] at t8
            refine .inl ⟨rfl, ?_⟩
            go_simp
            exact ⟨Below.refl _ _, rfl⟩
          · have t84 : a.tmps.getD 84 undef = .int .i64 3 := hd { on := 0, ground := .data } (by simp) rfl
            rw [Array.getD_eq_getD_getElem?] at t84
            refine .inl ⟨rfl, ?_⟩
            go_simp
            exact ⟨Below.refl _ _, rfl⟩
          · have t85 : a.tmps.getD 85 undef = .bool true := hd { on := 1, ground := .data } (by simp) rfl
            rw [Array.getD_eq_getD_getElem?] at t85
            refine .inl ⟨rfl, ?_⟩
            go_simp
            exact ⟨Below.refl _ _, rfl⟩
          · have t10 : a.tmps.getD 10 undef = .int .i64 0 := hF.at 10 (by kernel_rfl)
            rw [Array.getD_eq_getD_getElem?] at t10
            have g86 : a.eval (.tmp 86) = .bool true := hd { on := 2, ground := .guard } (by simp) rfl
            refine .inl ⟨(by simp only [Region.wanted]; rw [yielded_of (d := 86) (by rfl) g86]; rfl), ?_⟩
            clear g86
            go_simp
            exact ⟨Below.refl _ _, rfl⟩
          · have t87 : a.tmps.getD 87 undef = .int .i64 0 := hd { on := 3, ground := .data } (by simp) rfl
            rw [Array.getD_eq_getD_getElem?] at t87
            have g86 : a.eval (.tmp 86) = .bool true := hd { on := 2, ground := .guard } (by simp) rfl
            refine .inl ⟨(by simp only [Region.wanted]; rw [yielded_of (d := 86) (by rfl) g86]; rfl), ?_⟩
            clear g86
            go_simp
            exact ⟨Below.refl _ _, rfl⟩
          · have t86 : a.tmps.getD 86 undef = .bool true := hd { on := 2, ground := .data } (by simp) rfl
            rw [Array.getD_eq_getD_getElem?] at t86
            have t88 : a.tmps.getD 88 undef = .bool true := hd { on := 4, ground := .data } (by simp) rfl
            rw [Array.getD_eq_getD_getElem?] at t88
            refine .inl ⟨rfl, ?_⟩
            go_simp
            exact ⟨Below.refl _ _, rfl⟩
          · have t89 : a.tmps.getD 89 undef = .bool true := hd { on := 5, ground := .data } (by simp) rfl
            rw [Array.getD_eq_getD_getElem?] at t89
            refine .inl ⟨rfl, ?_⟩
            go_simp
            exact ⟨Below.refl _ _, rfl⟩
          · have t9 : a.tmps.getD 9 undef = kv := hF.at 9 (by kernel_rfl)
            rw [Array.getD_eq_getD_getElem?] at t9
            have g90 : a.eval (.tmp 90) = .bool true := hd { on := 6, ground := .guard } (by simp) rfl
            refine .inl ⟨(by simp only [Region.wanted]; rw [yielded_of (d := 90) (by rfl) g90]; rfl), ?_⟩
            clear g90
            go_simp
            exact ⟨Below.refl _ _, rfl⟩
          · have t0 : a.tmps.getD 0 undef = .slice lo ls.length lc := hF.at 0 (by kernel_rfl)
            rw [Array.getD_eq_getD_getElem?] at t0
            have g90 : a.eval (.tmp 90) = .bool true := hd { on := 6, ground := .guard } (by simp) rfl
            refine .inl ⟨(by simp only [Region.wanted]; rw [yielded_of (d := 90) (by rfl) g90]; rfl), ?_⟩
            clear g90
            go_simp
            exact ⟨Below.refl _ _, rfl⟩
          · have t91 : a.tmps.getD 91 undef = kv := hd { on := 7, ground := .data } (by simp) rfl
            rw [Array.getD_eq_getD_getElem?] at t91
            have t92 : a.tmps.getD 92 undef = .slice lo ls.length lc := hd { on := 8, ground := .data } (by simp) rfl
            rw [Array.getD_eq_getD_getElem?] at t92
            have g90 : a.eval (.tmp 90) = .bool true := hd { on := 6, ground := .guard } (by simp) rfl
            refine .inl ⟨(by simp only [Region.wanted]; rw [yielded_of (d := 90) (by rfl) g90]; rfl), ?_⟩
            clear g90
            go_simp
            exact (same_b ls kv (.slice lo ls.length lc) kvs us W (HK W hE) (HL W hE)).mono fun e w2 h => ⟨_, h.1, h.2, rfl⟩
          · have t90 : a.tmps.getD 90 undef = .bool true := hd { on := 6, ground := .data } (by simp) rfl
            rw [Array.getD_eq_getD_getElem?] at t90
            have t93 : a.tmps.getD 93 undef = .bool true := hd { on := 9, ground := .data } (by simp) rfl
            rw [Array.getD_eq_getD_getElem?] at t93
            refine .inl ⟨rfl, ?_⟩
            go_simp
            exact ⟨Below.refl _ _, rfl⟩
          · have t94 : a.tmps.getD 94 undef = .bool true := hd { on := 10, ground := .data } (by simp) rfl
            rw [Array.getD_eq_getD_getElem?] at t94
            refine .inl ⟨rfl, ?_⟩
            go_simp
            exact ⟨Below.refl _ _, rfl⟩
          · have t5 : a.tmps.getD 5 undef = .slice (some ⟨gb, go, none⟩) M.length gc := hF.at 5 (by kernel_rfl)
            rw [Array.getD_eq_getD_getElem?] at t5
            have g95 : a.eval (.tmp 95) = .bool true := hd { on := 11, ground := .guard } (by simp) rfl
            refine .inl ⟨(by simp only [Region.wanted]; rw [yielded_of (d := 95) (by rfl) g95]; rfl), ?_⟩
            clear g95
            go_simp
            exact ⟨Below.refl _ _, rfl⟩
          · have t96 : a.tmps.getD 96 undef = .slice (some ⟨gb, go, none⟩) M.length gc := hd { on := 12, ground := .data } (by simp) rfl
            rw [Array.getD_eq_getD_getElem?] at t96
            have g95 : a.eval (.tmp 95) = .bool true := hd { on := 11, ground := .guard } (by simp) rfl
            refine .inl ⟨(by simp only [Region.wanted]; rw [yielded_of (d := 95) (by rfl) g95]; rfl), ?_⟩
            clear g95
            go_simp
            exact (KMm W (HMm W hE)).mono fun e w2 h => ⟨_, h.1, h.2, rfl⟩
          · have t95 : a.tmps.getD 95 undef = .bool true := hd { on := 11, ground := .data } (by simp) rfl
            rw [Array.getD_eq_getD_getElem?] at t95
            have t97 : a.tmps.getD 97 undef = .bool true := hd { on := 13, ground := .data } (by simp) rfl
            rw [Array.getD_eq_getD_getElem?] at t97
            refine .inl ⟨rfl, ?_⟩
            go_simp
            exact ⟨Below.refl _ _, rfl⟩
          · have t98 : a.tmps.getD 98 undef = .bool true := hd { on := 14, ground := .data } (by simp) rfl
            rw [Array.getD_eq_getD_getElem?] at t98
            refine .inl ⟨rfl, ?_⟩
            go_simp
            exact ⟨Below.refl _ _, rfl⟩
          · have t11 : a.tmps.getD 11 undef = .int .i64 (j : Nat) := hF.at 11 (by kernel_rfl)
            rw [Array.getD_eq_getD_getElem?] at t11
            have g99 : a.eval (.tmp 99) = .bool true := hd { on := 15, ground := .guard } (by simp) rfl
            refine .inl ⟨(by simp only [Region.wanted]; rw [yielded_of (d := 99) (by rfl) g99]; rfl), ?_⟩
            clear g99
            go_simp
            exact ⟨Below.refl _ _, rfl⟩
          · have t100 : a.tmps.getD 100 undef = .int .i64 (j : Nat) := hd { on := 16, ground := .data } (by simp) rfl
            rw [Array.getD_eq_getD_getElem?] at t100
            have g99 : a.eval (.tmp 99) = .bool true := hd { on := 15, ground := .guard } (by simp) rfl
            refine .inl ⟨(by simp only [Region.wanted]; rw [yielded_of (d := 99) (by rfl) g99]; rfl), ?_⟩
            clear g99
            go_simp
            exact ⟨Below.refl _ _, rfl⟩
          · have t99 : a.tmps.getD 99 undef = .bool true := hd { on := 15, ground := .data } (by simp) rfl
            rw [Array.getD_eq_getD_getElem?] at t99
            have t101 : a.tmps.getD 101 undef = .bool true := hd { on := 17, ground := .data } (by simp) rfl
            rw [Array.getD_eq_getD_getElem?] at t101
            refine .inl ⟨rfl, ?_⟩
            go_simp
            exact ⟨Below.refl _ _, rfl⟩
          · have t102 : a.tmps.getD 102 undef = .bool true := hd { on := 18, ground := .data } (by simp) rfl
            rw [Array.getD_eq_getD_getElem?] at t102
            refine .inl ⟨rfl, ?_⟩
            go_simp
            exact ⟨Below.refl _ _, rfl⟩
          · have t11 : a.tmps.getD 11 undef = .int .i64 (j : Nat) := hF.at 11 (by kernel_rfl)
            rw [Array.getD_eq_getD_getElem?] at t11
            have g103 : a.eval (.tmp 103) = .bool true := hd { on := 19, ground := .guard } (by simp) rfl
            refine .inl ⟨(by simp only [Region.wanted]; rw [yielded_of (d := 103) (by rfl) g103]; rfl), ?_⟩
            clear g103
            go_simp
            exact ⟨Below.refl _ _, rfl⟩
          · have t5 : a.tmps.getD 5 undef = .slice (some ⟨gb, go, none⟩) M.length gc := hF.at 5 (by kernel_rfl)
            rw [Array.getD_eq_getD_getElem?] at t5
            have g103 : a.eval (.tmp 103) = .bool true := hd { on := 19, ground := .guard } (by simp) rfl
            refine .inl ⟨(by simp only [Region.wanted]; rw [yielded_of (d := 103) (by rfl) g103]; rfl), ?_⟩
            clear g103
            go_simp
            exact ⟨Below.refl _ _, rfl⟩
          · have t105 : a.tmps.getD 105 undef = .slice (some ⟨gb, go, none⟩) M.length gc := hd { on := 21, ground := .data } (by simp) rfl
            rw [Array.getD_eq_getD_getElem?] at t105
            have g103 : a.eval (.tmp 103) = .bool true := hd { on := 19, ground := .guard } (by simp) rfl
            refine .inl ⟨(by simp only [Region.wanted]; rw [yielded_of (d := 103) (by rfl) g103]; rfl), ?_⟩
            clear g103
            go_simp
            exact ⟨Below.refl _ _, rfl⟩
          · have t104 : a.tmps.getD 104 undef = .int .i64 (j : Nat) := hd { on := 20, ground := .data } (by simp) rfl
            rw [Array.getD_eq_getD_getElem?] at t104
            have t106 : a.tmps.getD 106 undef = .int .i64 (M.length : Nat) := hd { on := 22, ground := .data } (by simp) rfl
            rw [Array.getD_eq_getD_getElem?] at t106
            have g103 : a.eval (.tmp 103) = .bool true := hd { on := 19, ground := .guard } (by simp) rfl
            refine .inl ⟨(by simp only [Region.wanted]; rw [yielded_of (d := 103) (by rfl) g103]; rfl), ?_⟩
            clear g103
            go_simp
            exact ⟨Below.refl _ _, rfl⟩
          · have t103 : a.tmps.getD 103 undef = .bool true := hd { on := 19, ground := .data } (by simp) rfl
            rw [Array.getD_eq_getD_getElem?] at t103
            have t107 : a.tmps.getD 107 undef = .bool true := hd { on := 23, ground := .data } (by simp) rfl
            rw [Array.getD_eq_getD_getElem?] at t107
            refine .inl ⟨rfl, ?_⟩
            go_simp
            exact ⟨Below.refl _ _, rfl⟩
          · have t108 : a.tmps.getD 108 undef = .bool true := hd { on := 24, ground := .data } (by simp) rfl
            rw [Array.getD_eq_getD_getElem?] at t108
            refine .inl ⟨rfl, ?_⟩
            go_simp
            exact ⟨Below.refl _ _, rfl⟩
          · have t5 : a.tmps.getD 5 undef = .slice (some ⟨gb, go, none⟩) M.length gc := hF.at 5 (by kernel_rfl)
            rw [Array.getD_eq_getD_getElem?] at t5
            have g109 : a.eval (.tmp 109) = .bool true := hd { on := 25, ground := .guard } (by simp) rfl
            refine .inl ⟨(by simp only [Region.wanted]; rw [yielded_of (d := 109) (by rfl) g109]; rfl), ?_⟩
            clear g109
            go_simp
            exact ⟨Below.refl _ _, rfl⟩
          · have t11 : a.tmps.getD 11 undef = .int .i64 (j : Nat) := hF.at 11 (by kernel_rfl)
            rw [Array.getD_eq_getD_getElem?] at t11
            have g109 : a.eval (.tmp 109) = .bool true := hd { on := 25, ground := .guard } (by simp) rfl
            refine .inl ⟨(by simp only [Region.wanted]; rw [yielded_of (d := 109) (by rfl) g109]; rfl), ?_⟩
            clear g109
            go_simp
            exact ⟨Below.refl _ _, rfl⟩
          · have t110 : a.tmps.getD 110 undef = .slice (some ⟨gb, go, none⟩) M.length gc := hd { on := 26, ground := .data } (by simp) rfl
            rw [Array.getD_eq_getD_getElem?] at t110
            have t111 : a.tmps.getD 111 undef = .int .i64 (j : Nat) := hd { on := 27, ground := .data } (by simp) rfl
            rw [Array.getD_eq_getD_getElem?] at t111
            have g109 : a.eval (.tmp 109) = .bool true := hd { on := 25, ground := .guard } (by simp) rfl
            refine .inl ⟨(by simp only [Region.wanted]; rw [yielded_of (d := 109) (by rfl) g109]; rfl), ?_⟩
            clear g109
            go_simp
            exact ⟨Below.refl _ _, rfl⟩
          · have t112 : a.tmps.getD 112 undef = .pointer (some ⟨gb, go + j * 6, none⟩) := hd { on := 28, ground := .data } (by simp) rfl
            rw [Array.getD_eq_getD_getElem?] at t112
            have g109 : a.eval (.tmp 109) = .bool true := hd { on := 25, ground := .guard } (by simp) rfl
            refine .inl ⟨(by simp only [Region.wanted]; rw [yielded_of (d := 109) (by rfl) g109]; rfl), ?_⟩
            clear g109
            obtain ⟨c0, c1, c2, c3, c4, c5⟩ := HCm W hE
            go_simp
            exact ⟨Below.refl _ _, rfl⟩
          · have t3 : a.tmps.getD 3 undef = .pointer (some ⟨w.heap.size, 0, none⟩) := hF.at 3 (by kernel_rfl)
            rw [Array.getD_eq_getD_getElem?] at t3
            have g109 : a.eval (.tmp 109) = .bool true := hd { on := 25, ground := .guard } (by simp) rfl
            refine .inl ⟨(by simp only [Region.wanted]; rw [yielded_of (d := 109) (by rfl) g109]; rfl), ?_⟩
            clear g109
            rw [run_obox _ _ 25 (.tmp 3) rfl (w.heap.size) (by simpa [Act.eval] using t3) 25 (hcells h (.slice mo h.tags.length mc)) _ (HX W hE) Try.underlying25 rfl sizeHost]
            exact ⟨Below.refl _ _, rfl⟩
          · have t113 : a.tmps.getD 113 undef = hval h (.slice ta h.tags.length tc) := hd { on := 29, ground := .data } (by simp) rfl
            rw [Array.getD_eq_getD_getElem?] at t113
            have t114 : a.tmps.getD 114 undef = hval h (.slice mo h.tags.length mc) := hd { on := 30, ground := .data } (by simp) rfl
            rw [Array.getD_eq_getD_getElem?] at t114
            have g109 : a.eval (.tmp 109) = .bool true := hd { on := 25, ground := .guard } (by simp) rfl
            refine .inl ⟨(by simp only [Region.wanted]; rw [yielded_of (d := 109) (by rfl) g109]; rfl), ?_⟩
            clear g109
            go_simp
            exact (KS W (HTm W hE) (HM W hE)).mono fun e w2 h => ⟨_, h.1, h.2, rfl⟩
          · have t109 : a.tmps.getD 109 undef = .bool true := hd { on := 25, ground := .data } (by simp) rfl
            rw [Array.getD_eq_getD_getElem?] at t109
            have t115 : a.tmps.getD 115 undef = .bool true := hd { on := 31, ground := .data } (by simp) rfl
            rw [Array.getD_eq_getD_getElem?] at t115
            refine .inl ⟨rfl, ?_⟩
            go_simp
            exact ⟨Below.refl _ _, rfl⟩
          · have t116 : a.tmps.getD 116 undef = .bool true := hd { on := 32, ground := .data } (by simp) rfl
            rw [Array.getD_eq_getD_getElem?] at t116
            refine .inl ⟨rfl, ?_⟩
            go_simp
            exact ⟨Below.refl _ _, rfl⟩
          · have g117 : a.eval (.tmp 117) = .bool true := hd { on := 33, ground := .guard } (by simp) rfl
            refine .inl ⟨(by simp only [Region.wanted]; rw [yielded_of (d := 117) (by rfl) g117]; rfl), ?_⟩
            clear g117
            go_simp
            exact (awake8_any W).mono fun e w2 h => ⟨_, h.1, h.2, rfl⟩
          · have t117 : a.tmps.getD 117 undef = .bool true := hd { on := 33, ground := .data } (by simp) rfl
            rw [Array.getD_eq_getD_getElem?] at t117
            have t118 : a.tmps.getD 118 undef = .bool true := hd { on := 34, ground := .data } (by simp) rfl
            rw [Array.getD_eq_getD_getElem?] at t118
            refine .inl ⟨rfl, ?_⟩
            go_simp
            exact ⟨Below.refl _ _, rfl⟩
          · have t119 : a.tmps.getD 119 undef = .bool true := hd { on := 35, ground := .data } (by simp) rfl
            rw [Array.getD_eq_getD_getElem?] at t119
            refine .inl ⟨rfl, ?_⟩
            go_simp
            exact ⟨Below.refl _ _, rfl⟩
        · intro vs W hE hV
          have h36 : vs 36 = .bool true := hV 36 (by decide)
          have HBf : Hid (Below w.heap.size w W) := HB7.out.trans (hE.mono HB7.out.size)
          clear hV hE
          simp only [putsV, dstsV, List.foldl, h36, Act.put, List.setIfInBounds_toArray, List.set_cons_succ, List.set_cons_zero]
          clear h36
          generalize vs 0 = y0
          generalize vs 1 = y1
          generalize vs 2 = y2
          generalize vs 3 = y3
          generalize vs 4 = y4
          generalize vs 5 = y5
          generalize vs 6 = y6
          generalize vs 7 = y7
          generalize vs 8 = y8
          generalize vs 9 = y9
          generalize vs 10 = y10
          generalize vs 11 = y11
          generalize vs 12 = y12
          generalize vs 13 = y13
          generalize vs 14 = y14
          generalize vs 15 = y15
          generalize vs 16 = y16
          generalize vs 17 = y17
          generalize vs 18 = y18
          generalize vs 19 = y19
          generalize vs 20 = y20
          generalize vs 21 = y21
          generalize vs 22 = y22
          generalize vs 23 = y23
          generalize vs 24 = y24
          generalize vs 25 = y25
          generalize vs 26 = y26
          generalize vs 27 = y27
          generalize vs 28 = y28
          generalize vs 29 = y29
          generalize vs 30 = y30
          generalize vs 31 = y31
          generalize vs 32 = y32
          generalize vs 33 = y33
          generalize vs 34 = y34
          generalize vs 35 = y35
          refine ‹∀ (a : Act) (w : World), Code.wp Try.prog Code.ret _ a w → _› _ _ ?_
          go_wp2
          go_ret
          exact ⟨rfl, HBf.out⟩


set_option maxRecDepth 100000 in
theorem lifted_TableBack (os : Os) (started : os.Started) (H : Type) (enc : TypeId × Value → H) :
    ReturnsInHanded {} Try.checked os 4 .any (Rows.tableBackSpec.pre6 enc Try.prog Try.f4 Rows.tableBackRow.domain false) (Rows.tableBackSpec.post enc Try.prog Try.f4 false true false false) := by
  refine returnsInHanded_of_change_sized (C := Try.checked) own started (by kernel_rfl) Try.func4
    (ChangeSpec.witness6 (enc := enc) (C := Try.checked) false ⟨#[], #[.slice none 0 0, .agg #[.int .i64 0, .string ByteArray.empty, .int .i64 0, .string ByteArray.empty, .int .i64 0, .slice none 0 0]], []⟩ 8 (by kernel_rfl) (by kernel_rfl) (by kernel_rfl) (by kernel_rfl)) ?_
  intro W base args ds gs before hval0 hW hcnd hsz0 hholds
  have hval : ∀ (j : Nat) t v, Try.f4.params[j]? = some t → args[j]? = some v → Value.okWide Try.prog W .any base t v := hval0
  have hW' := hW
  obtain ⟨p, q, hA0, hV, rfl, hfz, hnd⟩ := hW
  have hA : DataW.TrodAll enc Try.prog W 0 (fun _ => true) true Try.f4.params.toList args.toList ds p := hA0
  have hsz : (DataW.weightsEach Try.prog (Try.f4.params.toList ++ Rows.tableBackSpec.plain.varTypes Try.prog) (ds ++ gs)).all (· ≤ reachBytes) = true := hsz0
  rw [Try.params4] at hA hval hsz
  obtain ⟨v0, vs0, d0, ds0, p0, q0, hargs, rfl, rfl, h0, r0⟩ := trodAll_cons hA
  obtain ⟨v1, vs1, d1, ds1, p1, q1, rfl, rfl, rfl, h1, r1⟩ := trodAll_cons r0
  obtain ⟨rfl, rfl, rfl⟩ := trodAll_nil r1
  obtain rfl : args = #[v0, v1] := by cases args; simp_all
  obtain ⟨rfl, rfl⟩ := trodVars_none hV
  have k0 := h0
  have lt0 : ∀ x ∈ p0, x.block < W.heap.size := by obtain ⟨m, hm⟩ := k0; exact DataW.trod_lt m _ _ _ hm
  obtain ⟨us0, c0, w0, i0⟩ := open_hosts (hval 0 22 v0 rfl rfl) h0
  have k1 := h1
  have lt1 : ∀ x ∈ p1, x.block < W.heap.size := by obtain ⟨m, hm⟩ := k1; exact DataW.trod_lt m _ _ _ hm
  obtain ⟨c1, m1, dm1, rfl, o1, i1, w1, rfl, x1⟩ := open_host (hval 1 25 v1 rfl rfl) h1
  have z1 : c1.tags.length ≤ 4398046510976 := sized_host hsz (j := 1) rfl rfl x1
  clear hA0 hval0
  refine (walk_TableBack c0 v0 us0 i0 c1 m1 o1 i1 z1 W w0 w1).mono fun e W' ⟨he, bel⟩ => ?_
  subst he
  exact ⟨_, rfl, _, _, _, [], _, [], hW', trodAll_mk1 (shut_bool Try.underlying4 _), (trodAll_cons_mk (Below.trod laidOut (by kernel_rfl) (of_decide_eq_true (by kernel_rfl)) k0 bel lt0) (trodAll_cons_mk (Below.trod laidOut (by kernel_rfl) (of_decide_eq_true (by kernel_rfl)) k1 bel lt1) trodAll_mk0)), rfl, bel.frame _, fun h => by cases h⟩

theorem over_TableBack : Rows.tableBackRow.holds Try.pinned (OpenSpec.ofChange Rows.tableBackSpec) :=
  OpenClaim.holds_of_wide 4 Try.f4 rfl rfl rfl rfl rfl rfl rfl ⟨rfl, rfl, rfl, rfl, rfl⟩ rfl rfl rfl rfl rfl (by kernel_rfl) Try.func4 (by kernel_rfl)
    (of_decide_eq_true (by kernel_rfl)) (by unfold Func.isWrapper; first | (rw [if_pos (by decide +kernel)]; kernel_rfl) | (rw [if_neg (by decide +kernel)]; exact ⟨rfl, rfl⟩))
    (fun os started H enc _ => lifted_TableBack os started H enc)

/-- The statement. -/
theorem tableBack_holds : Rows.TableBackSaid := over_TableBack
#print axioms tableBack_holds

end Go.Proofs.Ytcafjjfaamjipaa

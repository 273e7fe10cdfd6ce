/-
  HostForms, for any two hosts and any row of pairs: what package host answers is what the statement's own answers say. No condition.
-/
import Derived.Test.YtgjancpogblakaaHostFrame
namespace Go.Proofs.Ytgjancpogblakaa
open Go.ChangeShapes Go.WideShapes Go.ChangeAt Go.RowKit
open Go.ChangeMaps (open_string shut_string)

abbrev lH (ps : List PairT) : HostT := ⟨0, ByteArray.empty, 0, ByteArray.empty, 0, ps⟩
theorem sameH_refl (a : HostT) : sameH a a = true := decide_eq_true rfl

set_option maxRecDepth 100000 in
set_option maxHeartbeats 4000000 in
theorem walk_HostForms (a1 : HostT) (mv : Value) (oa : okHost a1) (_ : inI a1.id ∧ inI a1.prio ∧ inI a1.weight) (za : a1.tags.length ≤ 4398046510976) (b1 : HostT) (nv : Value) (_ : okHost b1) (_ : inI b1.id ∧ inI b1.prio ∧ inI b1.weight) (_ : b1.tags.length ≤ 4398046510976)
    (l1 : List PairT) (lv : Value) (_ : l1.length ≤ 4398046510976) (w : World) (hm : IsPairs w mv a1.tags) (hn : IsPairs w nv b1.tags) (hl : IsPairs w lv l1) :
    Calls Try.prog 3 #[hval a1 mv, hval b1 nv, lv] w fun e w' => e = .returned (.bool true) ∧ Below w.heap.size w w' := by
  obtain ⟨lo, lc, rfl⟩ := hl.shaped
  have K1 := fun W h => may_any a1 mv W oa h
  have K2 := fun W h => rMayHost_any a1 mv W oa h
  have K3 := fun W h h' => same_any a1 b1 mv nv W h h'
  have K4 := fun W h h' => rSameHost_any a1 b1 mv nv W h h'
  have K5 := fun W h h' => has_any a1 l1 mv (.slice lo l1.length lc) W h h'
  have K6 := fun W h h' => rHas_any a1 l1 mv (.slice lo l1.length lc) W h h'
  have K7 := fun W h => maySubset_any l1 (.slice lo l1.length lc) W h
  have K8 := fun W h => rMaySubset_any l1 (.slice lo l1.length lc) W h
  have K9 := fun v W h h' => rSameHost_any a1 a1 v mv W h h'
  have KC : ∀ W, IsPairs W mv a1.tags → Calls Try.prog 18 #[hval a1 mv] W fun e w' => ∃ mv', e = .returned (hval a1 mv') ∧ IsPairs w' mv' a1.tags ∧ Below W.heap.size W w' :=
    fun W h => (copy_any a1 mv W h za).mono fun _ _ ⟨mv', h1, h2, h3⟩ => ⟨mv', h1, own_pairs h2 rfl h.1, h3⟩
  rw [sameH_refl] at K9
  generalize mayHost a1 = m1 at K1 K2
  generalize sameH a1 b1 = m2 at K3 K4
  generalize hasPairs a1.tags l1 = m3 at K5 K6
  generalize mayPairs l1 = m4 at K7 K8
  go_enter Try.func3, Try.ntmps3
  go_wp2
  generalize hW0 : (w.alloc _).alloc _ = W0
  have hX : HasBox W0 w.heap.size 24 (hcells a1 mv) := by rw [← hW0]; exact (hasBox_new w _ _).alloc _
  have hY : HasBox W0 (w.heap.size + 1) 24 (hcells b1 nv) := by rw [← hW0]; exact hasBox_new' (w.alloc _) _ _ _ (by simp)
  have HB0 : Hid (Below w.heap.size w W0) := by show Below _ _ _; rw [← hW0]; exact ((Below.refl _ _).alloc (Nat.le_refl _) _).alloc (by simp) _
  have HX : ∀ W, Below W0.heap.size W0 W → HasBox W w.heap.size 24 (hcells a1 mv) := fun W h => hX.below h
  have HY : ∀ W, Below W0.heap.size W0 W → HasBox W (w.heap.size + 1) 24 (hcells b1 nv) := fun W h => hY.below h
  have HM : ∀ W, Below W0.heap.size W0 W → IsPairs W mv a1.tags := fun W h => hm.below (HB0.out.trans (h.mono HB0.out.size))
  have HN : ∀ W, Below W0.heap.size W0 W → IsPairs W nv b1.tags := fun W h => hn.below (HB0.out.trans (h.mono HB0.out.size))
  have HL : ∀ W, Below W0.heap.size W0 W → IsPairs W (.slice lo l1.length lc) l1 := fun W h => hl.below (HB0.out.trans (h.mono HB0.out.size))
  clear hW0 hX hY hm hn hl
  refine wp_region_mp ([eqP (hval a1 mv), intP, eqP (hval b1 nv), intP, intP, eqP (.slice lo l1.length lc), eqP (hval (lH l1) (.slice lo l1.length lc)), intP, intP, boolP]) (by kernel_rfl) (by kernel_rfl) ?_ ?_
  · simp only [stepsAll3]
    refine ⟨fun a W hF hE hd => ?_, fun a W hF hE hd => ?_, fun a W hF hE hd => ?_, fun a W hF hE hd => ?_, fun a W hF hE hd => ?_, fun a W hF hE hd => ?_, fun a W hF hE hd => ?_, fun a W hF hE hd => ?_, fun a W hF hE hd => ?_, fun a W hF hE hd => ?_, trivial⟩
    all_goals unfold StepAt
    · have t3 : a.tmps.getD 3 undef = .pointer (some ⟨w.heap.size, 0, none⟩) := hF.at 3 (by kernel_rfl)
      rw [Array.getD_eq_getD_getElem?] at t3
      refine .inl ⟨rfl, ?_⟩
      rw [run_obox _ _ 24 (.tmp 3) rfl (w.heap.size) (by simpa [Act.eval] using t3) 24 (hcells a1 mv) _ (HX W hE) Try.underlying24 rfl sizeHost]
      exact ⟨Below.refl _ _, rfl⟩
    · have t7 : a.tmps.getD 7 undef = hval a1 mv := hd { on := 0, ground := .data } (by simp) rfl
      rw [Array.getD_eq_getD_getElem?] at t7
      refine .inl ⟨rfl, ?_⟩
      go_simp
      exact (light_any a1 mv W (HM W hE)).mono fun e w2 ⟨r, _, h1, h2⟩ => ⟨_, h1, h2, r, rfl⟩
    · have t4 : a.tmps.getD 4 undef = .pointer (some ⟨w.heap.size + 1, 0, none⟩) := hF.at 4 (by kernel_rfl)
      rw [Array.getD_eq_getD_getElem?] at t4
      refine .inl ⟨rfl, ?_⟩
      rw [run_obox _ _ 24 (.tmp 4) rfl (w.heap.size + 1) (by simpa [Act.eval] using t4) 24 (hcells b1 nv) _ (HY W hE) Try.underlying24 rfl sizeHost]
      exact ⟨Below.refl _ _, rfl⟩
    · have t9 : a.tmps.getD 9 undef = hval b1 nv := hd { on := 2, ground := .data } (by simp) rfl
      rw [Array.getD_eq_getD_getElem?] at t9
      refine .inl ⟨rfl, ?_⟩
      go_simp
      exact (light_any b1 nv W (HN W hE)).mono fun e w2 ⟨r, _, h1, h2⟩ => ⟨_, h1, h2, r, rfl⟩
    · obtain ⟨n8, t8⟩ : ∃ n : Int, a.tmps.getD 8 undef = .int .i64 n := hd { on := 1, ground := .data } (by simp) rfl
      rw [Array.getD_eq_getD_getElem?] at t8
      obtain ⟨n10, t10⟩ : ∃ n : Int, a.tmps.getD 10 undef = .int .i64 n := hd { on := 3, ground := .data } (by simp) rfl
      rw [Array.getD_eq_getD_getElem?] at t10
      refine .inl ⟨rfl, ?_⟩
      go_simp
      exact ⟨Below.refl _ _, _, rfl⟩
    · have t2 : a.tmps.getD 2 undef = .slice lo l1.length lc := hF.at 2 (by kernel_rfl)
      rw [Array.getD_eq_getD_getElem?] at t2
      refine .inl ⟨rfl, ?_⟩
      go_simp
      exact ⟨Below.refl _ _, rfl⟩
    · have t12 : a.tmps.getD 12 undef = .slice lo l1.length lc := hd { on := 5, ground := .data } (by simp) rfl
      rw [Array.getD_eq_getD_getElem?] at t12
      refine .inl ⟨rfl, ?_⟩
      go_simp
      exact ⟨Below.refl _ _, rfl⟩
    · have t13 : a.tmps.getD 13 undef = hval (lH l1) (.slice lo l1.length lc) := hd { on := 6, ground := .data } (by simp) rfl
      rw [Array.getD_eq_getD_getElem?] at t13
      refine .inl ⟨rfl, ?_⟩
      go_simp
      exact (light_any (lH l1) (.slice lo l1.length lc) W (HL W hE)).mono fun e w2 ⟨r, _, h1, h2⟩ => ⟨_, h1, h2, r, rfl⟩
    · obtain ⟨n11, t11⟩ : ∃ n : Int, a.tmps.getD 11 undef = .int .i64 n := hd { on := 4, ground := .data } (by simp) rfl
      rw [Array.getD_eq_getD_getElem?] at t11
      obtain ⟨n14, t14⟩ : ∃ n : Int, a.tmps.getD 14 undef = .int .i64 n := hd { on := 7, ground := .data } (by simp) rfl
      rw [Array.getD_eq_getD_getElem?] at t14
      refine .inl ⟨rfl, ?_⟩
      go_simp
      exact ⟨Below.refl _ _, _, rfl⟩
    · obtain ⟨n15, t15⟩ : ∃ n : Int, a.tmps.getD 15 undef = .int .i64 n := hd { on := 8, ground := .data } (by simp) rfl
      rw [Array.getD_eq_getD_getElem?] at t15
      refine .inl ⟨rfl, ?_⟩
      go_simp
      exact ⟨Below.refl _ _, _, rfl⟩
  · intro vs W hE hV
    obtain ⟨q, h9⟩ : ∃ q : Bool, vs 9 = .bool q := hV 9 (by decide)
    have HWW : Hid (Below W0.heap.size W0 W) := hE
    have HBf : Hid (Below w.heap.size w W) := HB0.out.trans (hE.mono HB0.out.size)
    clear hV hE
    simp only [putsV, dstsV, List.foldl, h9, Act.put, List.setIfInBounds_toArray, List.set_cons_succ, List.set_cons_zero]
    clear h9
    generalize vs 0 = y0
    generalize vs 1 = y1
    generalize vs 2 = y2
    generalize vs 3 = y3
    generalize vs 4 = y4
    generalize vs 5 = y5
    generalize vs 6 = y6
    generalize vs 7 = y7
    generalize vs 8 = y8
    refine ‹∀ (a : Act) (w : World), Code.wp Try.prog (Code.cond _ _ _) _ a w → _› _ _ ?_
    cases q with
    | true =>
      go_wp2_with fail
      refine (awake_any _).mono ?_
      rintro e w1 ⟨rfl, hb⟩
      have HB1 : Hid (Below w.heap.size w w1) := HBf.out.trans (hb.mono HBf.out.size)
      clear hb
      go_wp2
      go_ret
      exact ⟨rfl, HB1.out⟩
    | false =>
      have HX' : ∀ W', Below W.heap.size W W' → HasBox W' w.heap.size 24 (hcells a1 mv) := fun W' h => HX W' (HWW.out.trans (h.mono HWW.out.size))
      have HY' : ∀ W', Below W.heap.size W W' → HasBox W' (w.heap.size + 1) 24 (hcells b1 nv) := fun W' h => HY W' (HWW.out.trans (h.mono HWW.out.size))
      have HM' : ∀ W', Below W.heap.size W W' → IsPairs W' mv a1.tags := fun W' h => HM W' (HWW.out.trans (h.mono HWW.out.size))
      have HN' : ∀ W', Below W.heap.size W W' → IsPairs W' nv b1.tags := fun W' h => HN W' (HWW.out.trans (h.mono HWW.out.size))
      have HL' : ∀ W', Below W.heap.size W W' → IsPairs W' (.slice lo l1.length lc) l1 := fun W' h => HL W' (HWW.out.trans (h.mono HWW.out.size))
      clear HX HY HM HN HL HB0
      have HX := HX'
      have HY := HY'
      have HM := HM'
      have HN := HN'
      have HL := HL'
      have HB0 := HBf
      clear HX' HY' HM' HN' HL' HBf
      go_wp2
      refine wp_region_mp ([eqP (hval a1 mv), eqP (.bool m1), eqP (hval a1 mv), eqP (.bool m1), eqP (.bool true), eqP (.bool true), eqP (hval a1 mv), eqP (hval b1 nv), eqP (.bool m2), eqP (hval a1 mv), eqP (hval b1 nv), eqP (.bool m2), eqP (.bool true), eqP (.bool true), eqP (.bool true), eqP (hval a1 mv), eqP (.slice lo l1.length lc), eqP (.bool m3), eqP (hval a1 mv), eqP (.slice lo l1.length lc), eqP (.bool m3), eqP (.bool true), eqP (.bool true), eqP (.bool true), eqP (.slice lo l1.length lc), eqP (.bool m4), eqP (.slice lo l1.length lc), eqP (.bool m4), eqP (.bool true), eqP (.bool true), eqP (.bool true), eqP (hval a1 mv), hostP a1, eqP (hval a1 mv), eqP (.bool true), eqP (.bool true), eqP (.bool true), eqP (.bool true), eqP (.bool true), eqP (.bool true)]) (by kernel_rfl) (by kernel_rfl) ?_ ?_
      · simp only [stepsAll3]
        refine ⟨fun a W hF hE hd => ?_, fun a W hF hE hd => ?_, fun a W hF hE hd => ?_, fun a W hF hE hd => ?_, fun a W hF hE hd => ?_, fun a W hF hE hd => ?_, fun a W hF hE hd => ?_, fun a W hF hE hd => ?_, fun a W hF hE hd => ?_, fun a W hF hE hd => ?_, fun a W hF hE hd => ?_, fun a W hF hE hd => ?_, fun a W hF hE hd => ?_, fun a W hF hE hd => ?_, fun a W hF hE hd => ?_, fun a W hF hE hd => ?_, fun a W hF hE hd => ?_, fun a W hF hE hd => ?_, fun a W hF hE hd => ?_, fun a W hF hE hd => ?_, fun a W hF hE hd => ?_, fun a W hF hE hd => ?_, fun a W hF hE hd => ?_, fun a W hF hE hd => ?_, fun a W hF hE hd => ?_, fun a W hF hE hd => ?_, fun a W hF hE hd => ?_, fun a W hF hE hd => ?_, fun a W hF hE hd => ?_, fun a W hF hE hd => ?_, fun a W hF hE hd => ?_, fun a W hF hE hd => ?_, fun a W hF hE hd => ?_, fun a W hF hE hd => ?_, fun a W hF hE hd => ?_, fun a W hF hE hd => ?_, fun a W hF hE hd => ?_, fun a W hF hE hd => ?_, fun a W hF hE hd => ?_, fun a W hF hE hd => ?_, trivial⟩
        all_goals unfold StepAt
        · have t3 : a.tmps.getD 3 undef = .pointer (some ⟨w.heap.size, 0, none⟩) := hF.at 3 (by kernel_rfl)
          rw [Array.getD_eq_getD_getElem?] at t3
          refine .inl ⟨rfl, ?_⟩
          rw [run_obox _ _ 24 (.tmp 3) rfl (w.heap.size) (by simpa [Act.eval] using t3) 24 (hcells a1 mv) _ (HX W hE) Try.underlying24 rfl sizeHost]
          exact ⟨Below.refl _ _, rfl⟩
        · have t18 : a.tmps.getD 18 undef = hval a1 mv := hd { on := 0, ground := .data } (by simp) rfl
          rw [Array.getD_eq_getD_getElem?] at t18
          refine .inl ⟨rfl, ?_⟩
          go_simp
          exact (K1 W (HM W hE)).mono fun e w2 h => ⟨_, h.1, h.2, rfl⟩
        · have t3 : a.tmps.getD 3 undef = .pointer (some ⟨w.heap.size, 0, none⟩) := hF.at 3 (by kernel_rfl)
          rw [Array.getD_eq_getD_getElem?] at t3
          refine .inl ⟨rfl, ?_⟩
          rw [run_obox _ _ 24 (.tmp 3) rfl (w.heap.size) (by simpa [Act.eval] using t3) 24 (hcells a1 mv) _ (HX W hE) Try.underlying24 rfl sizeHost]
          exact ⟨Below.refl _ _, rfl⟩
        · have t20 : a.tmps.getD 20 undef = hval a1 mv := hd { on := 2, ground := .data } (by simp) rfl
          rw [Array.getD_eq_getD_getElem?] at t20
          refine .inl ⟨rfl, ?_⟩
          go_simp
          exact (K2 W (HM W hE)).mono fun e w2 h => ⟨_, h.1, h.2, rfl⟩
        · have t19 : a.tmps.getD 19 undef = .bool m1 := hd { on := 1, ground := .data } (by simp) rfl
          rw [Array.getD_eq_getD_getElem?] at t19
          have t21 : a.tmps.getD 21 undef = .bool m1 := hd { on := 3, ground := .data } (by simp) rfl
          rw [Array.getD_eq_getD_getElem?] at t21
          refine .inl ⟨rfl, ?_⟩
          go_simp
          exact ⟨Below.refl _ _, rfl⟩
        · have t22 : a.tmps.getD 22 undef = .bool true := hd { on := 4, ground := .data } (by simp) rfl
          rw [Array.getD_eq_getD_getElem?] at t22
          refine .inl ⟨rfl, ?_⟩
          go_simp
          exact ⟨Below.refl _ _, rfl⟩
        · have t3 : a.tmps.getD 3 undef = .pointer (some ⟨w.heap.size, 0, none⟩) := hF.at 3 (by kernel_rfl)
          rw [Array.getD_eq_getD_getElem?] at t3
          have g23 : a.eval (.tmp 23) = .bool true := hd { on := 5, ground := .guard } (by simp) rfl
          refine .inl ⟨(by simp only [Region.wanted]; rw [yielded_of (d := 23) (by rfl) g23]; rfl), ?_⟩
          clear g23
          rw [run_obox _ _ 24 (.tmp 3) rfl (w.heap.size) (by simpa [Act.eval] using t3) 24 (hcells a1 mv) _ (HX W hE) Try.underlying24 rfl sizeHost]
          exact ⟨Below.refl _ _, rfl⟩
        · have t4 : a.tmps.getD 4 undef = .pointer (some ⟨w.heap.size + 1, 0, none⟩) := hF.at 4 (by kernel_rfl)
          rw [Array.getD_eq_getD_getElem?] at t4
          have g23 : a.eval (.tmp 23) = .bool true := hd { on := 5, ground := .guard } (by simp) rfl
          refine .inl ⟨(by simp only [Region.wanted]; rw [yielded_of (d := 23) (by rfl) g23]; rfl), ?_⟩
          clear g23
          rw [run_obox _ _ 24 (.tmp 4) rfl (w.heap.size + 1) (by simpa [Act.eval] using t4) 24 (hcells b1 nv) _ (HY W hE) Try.underlying24 rfl sizeHost]
          exact ⟨Below.refl _ _, rfl⟩
        · have t24 : a.tmps.getD 24 undef = hval a1 mv := hd { on := 6, ground := .data } (by simp) rfl
          rw [Array.getD_eq_getD_getElem?] at t24
          have t25 : a.tmps.getD 25 undef = hval b1 nv := hd { on := 7, ground := .data } (by simp) rfl
          rw [Array.getD_eq_getD_getElem?] at t25
          have g23 : a.eval (.tmp 23) = .bool true := hd { on := 5, ground := .guard } (by simp) rfl
          refine .inl ⟨(by simp only [Region.wanted]; rw [yielded_of (d := 23) (by rfl) g23]; rfl), ?_⟩
          clear g23
          go_simp
          exact (K3 W (HM W hE) (HN W hE)).mono fun e w2 h => ⟨_, h.1, h.2, rfl⟩
        · have t3 : a.tmps.getD 3 undef = .pointer (some ⟨w.heap.size, 0, none⟩) := hF.at 3 (by kernel_rfl)
          rw [Array.getD_eq_getD_getElem?] at t3
          have g23 : a.eval (.tmp 23) = .bool true := hd { on := 5, ground := .guard } (by simp) rfl
          refine .inl ⟨(by simp only [Region.wanted]; rw [yielded_of (d := 23) (by rfl) g23]; rfl), ?_⟩
          clear g23
          rw [run_obox _ _ 24 (.tmp 3) rfl (w.heap.size) (by simpa [Act.eval] using t3) 24 (hcells a1 mv) _ (HX W hE) Try.underlying24 rfl sizeHost]
          exact ⟨Below.refl _ _, rfl⟩
        · have t4 : a.tmps.getD 4 undef = .pointer (some ⟨w.heap.size + 1, 0, none⟩) := hF.at 4 (by kernel_rfl)
          rw [Array.getD_eq_getD_getElem?] at t4
          have g23 : a.eval (.tmp 23) = .bool true := hd { on := 5, ground := .guard } (by simp) rfl
          refine .inl ⟨(by simp only [Region.wanted]; rw [yielded_of (d := 23) (by rfl) g23]; rfl), ?_⟩
          clear g23
          rw [run_obox _ _ 24 (.tmp 4) rfl (w.heap.size + 1) (by simpa [Act.eval] using t4) 24 (hcells b1 nv) _ (HY W hE) Try.underlying24 rfl sizeHost]
          exact ⟨Below.refl _ _, rfl⟩
        · have t27 : a.tmps.getD 27 undef = hval a1 mv := hd { on := 9, ground := .data } (by simp) rfl
          rw [Array.getD_eq_getD_getElem?] at t27
          have t28 : a.tmps.getD 28 undef = hval b1 nv := hd { on := 10, ground := .data } (by simp) rfl
          rw [Array.getD_eq_getD_getElem?] at t28
          have g23 : a.eval (.tmp 23) = .bool true := hd { on := 5, ground := .guard } (by simp) rfl
          refine .inl ⟨(by simp only [Region.wanted]; rw [yielded_of (d := 23) (by rfl) g23]; rfl), ?_⟩
          clear g23
          go_simp
          exact (K4 W (HM W hE) (HN W hE)).mono fun e w2 h => ⟨_, h.1, h.2, rfl⟩
        · have t26 : a.tmps.getD 26 undef = .bool m2 := hd { on := 8, ground := .data } (by simp) rfl
          rw [Array.getD_eq_getD_getElem?] at t26
          have t29 : a.tmps.getD 29 undef = .bool m2 := hd { on := 11, ground := .data } (by simp) rfl
          rw [Array.getD_eq_getD_getElem?] at t29
          have g23 : a.eval (.tmp 23) = .bool true := hd { on := 5, ground := .guard } (by simp) rfl
          refine .inl ⟨(by simp only [Region.wanted]; rw [yielded_of (d := 23) (by rfl) g23]; rfl), ?_⟩
          clear g23
          go_simp
          exact ⟨Below.refl _ _, rfl⟩
        · have t23 : a.tmps.getD 23 undef = .bool true := hd { on := 5, ground := .data } (by simp) rfl
          rw [Array.getD_eq_getD_getElem?] at t23
          have t30 : a.tmps.getD 30 undef = .bool true := hd { on := 12, ground := .data } (by simp) rfl
          rw [Array.getD_eq_getD_getElem?] at t30
          refine .inl ⟨rfl, ?_⟩
          go_simp
          exact ⟨Below.refl _ _, rfl⟩
        · have t31 : a.tmps.getD 31 undef = .bool true := hd { on := 13, ground := .data } (by simp) rfl
          rw [Array.getD_eq_getD_getElem?] at t31
          refine .inl ⟨rfl, ?_⟩
          go_simp
          exact ⟨Below.refl _ _, rfl⟩
        · have t3 : a.tmps.getD 3 undef = .pointer (some ⟨w.heap.size, 0, none⟩) := hF.at 3 (by kernel_rfl)
          rw [Array.getD_eq_getD_getElem?] at t3
          have g32 : a.eval (.tmp 32) = .bool true := hd { on := 14, ground := .guard } (by simp) rfl
          refine .inl ⟨(by simp only [Region.wanted]; rw [yielded_of (d := 32) (by rfl) g32]; rfl), ?_⟩
          clear g32
          rw [run_obox _ _ 24 (.tmp 3) rfl (w.heap.size) (by simpa [Act.eval] using t3) 24 (hcells a1 mv) _ (HX W hE) Try.underlying24 rfl sizeHost]
          exact ⟨Below.refl _ _, rfl⟩
        · have t2 : a.tmps.getD 2 undef = .slice lo l1.length lc := hF.at 2 (by kernel_rfl)
          rw [Array.getD_eq_getD_getElem?] at t2
          have g32 : a.eval (.tmp 32) = .bool true := hd { on := 14, ground := .guard } (by simp) rfl
          refine .inl ⟨(by simp only [Region.wanted]; rw [yielded_of (d := 32) (by rfl) g32]; rfl), ?_⟩
          clear g32
          go_simp
          exact ⟨Below.refl _ _, rfl⟩
        · have t33 : a.tmps.getD 33 undef = hval a1 mv := hd { on := 15, ground := .data } (by simp) rfl
          rw [Array.getD_eq_getD_getElem?] at t33
          have t34 : a.tmps.getD 34 undef = .slice lo l1.length lc := hd { on := 16, ground := .data } (by simp) rfl
          rw [Array.getD_eq_getD_getElem?] at t34
          have g32 : a.eval (.tmp 32) = .bool true := hd { on := 14, ground := .guard } (by simp) rfl
          refine .inl ⟨(by simp only [Region.wanted]; rw [yielded_of (d := 32) (by rfl) g32]; rfl), ?_⟩
          clear g32
          go_simp
          exact (K5 W (HM W hE) (HL W hE)).mono fun e w2 h => ⟨_, h.1, h.2, rfl⟩
        · have t3 : a.tmps.getD 3 undef = .pointer (some ⟨w.heap.size, 0, none⟩) := hF.at 3 (by kernel_rfl)
          rw [Array.getD_eq_getD_getElem?] at t3
          have g32 : a.eval (.tmp 32) = .bool true := hd { on := 14, ground := .guard } (by simp) rfl
          refine .inl ⟨(by simp only [Region.wanted]; rw [yielded_of (d := 32) (by rfl) g32]; rfl), ?_⟩
          clear g32
          rw [run_obox _ _ 24 (.tmp 3) rfl (w.heap.size) (by simpa [Act.eval] using t3) 24 (hcells a1 mv) _ (HX W hE) Try.underlying24 rfl sizeHost]
          exact ⟨Below.refl _ _, rfl⟩
        · have t2 : a.tmps.getD 2 undef = .slice lo l1.length lc := hF.at 2 (by kernel_rfl)
          rw [Array.getD_eq_getD_getElem?] at t2
          have g32 : a.eval (.tmp 32) = .bool true := hd { on := 14, ground := .guard } (by simp) rfl
          refine .inl ⟨(by simp only [Region.wanted]; rw [yielded_of (d := 32) (by rfl) g32]; rfl), ?_⟩
          clear g32
          go_simp
          exact ⟨Below.refl _ _, rfl⟩
        · have t36 : a.tmps.getD 36 undef = hval a1 mv := hd { on := 18, ground := .data } (by simp) rfl
          rw [Array.getD_eq_getD_getElem?] at t36
          have t37 : a.tmps.getD 37 undef = .slice lo l1.length lc := hd { on := 19, ground := .data } (by simp) rfl
          rw [Array.getD_eq_getD_getElem?] at t37
          have g32 : a.eval (.tmp 32) = .bool true := hd { on := 14, ground := .guard } (by simp) rfl
          refine .inl ⟨(by simp only [Region.wanted]; rw [yielded_of (d := 32) (by rfl) g32]; rfl), ?_⟩
          clear g32
          go_simp
          exact (K6 W (HM W hE) (HL W hE)).mono fun e w2 h => ⟨_, h.1, h.2, rfl⟩
        · have t35 : a.tmps.getD 35 undef = .bool m3 := hd { on := 17, ground := .data } (by simp) rfl
          rw [Array.getD_eq_getD_getElem?] at t35
          have t38 : a.tmps.getD 38 undef = .bool m3 := hd { on := 20, ground := .data } (by simp) rfl
          rw [Array.getD_eq_getD_getElem?] at t38
          have g32 : a.eval (.tmp 32) = .bool true := hd { on := 14, ground := .guard } (by simp) rfl
          refine .inl ⟨(by simp only [Region.wanted]; rw [yielded_of (d := 32) (by rfl) g32]; rfl), ?_⟩
          clear g32
          go_simp
          exact ⟨Below.refl _ _, rfl⟩
        · have t32 : a.tmps.getD 32 undef = .bool true := hd { on := 14, ground := .data } (by simp) rfl
          rw [Array.getD_eq_getD_getElem?] at t32
          have t39 : a.tmps.getD 39 undef = .bool true := hd { on := 21, ground := .data } (by simp) rfl
          rw [Array.getD_eq_getD_getElem?] at t39
          refine .inl ⟨rfl, ?_⟩
          go_simp
          exact ⟨Below.refl _ _, rfl⟩
        · have t40 : a.tmps.getD 40 undef = .bool true := hd { on := 22, ground := .data } (by simp) rfl
          rw [Array.getD_eq_getD_getElem?] at t40
          refine .inl ⟨rfl, ?_⟩
          go_simp
          exact ⟨Below.refl _ _, rfl⟩
        · have t2 : a.tmps.getD 2 undef = .slice lo l1.length lc := hF.at 2 (by kernel_rfl)
          rw [Array.getD_eq_getD_getElem?] at t2
          have g41 : a.eval (.tmp 41) = .bool true := hd { on := 23, ground := .guard } (by simp) rfl
          refine .inl ⟨(by simp only [Region.wanted]; rw [yielded_of (d := 41) (by rfl) g41]; rfl), ?_⟩
          clear g41
          go_simp
          exact ⟨Below.refl _ _, rfl⟩
        · have t42 : a.tmps.getD 42 undef = .slice lo l1.length lc := hd { on := 24, ground := .data } (by simp) rfl
          rw [Array.getD_eq_getD_getElem?] at t42
          have g41 : a.eval (.tmp 41) = .bool true := hd { on := 23, ground := .guard } (by simp) rfl
          refine .inl ⟨(by simp only [Region.wanted]; rw [yielded_of (d := 41) (by rfl) g41]; rfl), ?_⟩
          clear g41
          go_simp
          exact (K7 W (HL W hE)).mono fun e w2 h => ⟨_, h.1, h.2, rfl⟩
        · have t2 : a.tmps.getD 2 undef = .slice lo l1.length lc := hF.at 2 (by kernel_rfl)
          rw [Array.getD_eq_getD_getElem?] at t2
          have g41 : a.eval (.tmp 41) = .bool true := hd { on := 23, ground := .guard } (by simp) rfl
          refine .inl ⟨(by simp only [Region.wanted]; rw [yielded_of (d := 41) (by rfl) g41]; rfl), ?_⟩
          clear g41
          go_simp
          exact ⟨Below.refl _ _, rfl⟩
        · have t44 : a.tmps.getD 44 undef = .slice lo l1.length lc := hd { on := 26, ground := .data } (by simp) rfl
          rw [Array.getD_eq_getD_getElem?] at t44
          have g41 : a.eval (.tmp 41) = .bool true := hd { on := 23, ground := .guard } (by simp) rfl
          refine .inl ⟨(by simp only [Region.wanted]; rw [yielded_of (d := 41) (by rfl) g41]; rfl), ?_⟩
          clear g41
          go_simp
          exact (K8 W (HL W hE)).mono fun e w2 h => ⟨_, h.1, h.2, rfl⟩
        · have t43 : a.tmps.getD 43 undef = .bool m4 := hd { on := 25, ground := .data } (by simp) rfl
          rw [Array.getD_eq_getD_getElem?] at t43
          have t45 : a.tmps.getD 45 undef = .bool m4 := hd { on := 27, ground := .data } (by simp) rfl
          rw [Array.getD_eq_getD_getElem?] at t45
          have g41 : a.eval (.tmp 41) = .bool true := hd { on := 23, ground := .guard } (by simp) rfl
          refine .inl ⟨(by simp only [Region.wanted]; rw [yielded_of (d := 41) (by rfl) g41]; rfl), ?_⟩
          clear g41
          go_simp
          exact ⟨Below.refl _ _, rfl⟩
        · have t41 : a.tmps.getD 41 undef = .bool true := hd { on := 23, ground := .data } (by simp) rfl
          rw [Array.getD_eq_getD_getElem?] at t41
          have t46 : a.tmps.getD 46 undef = .bool true := hd { on := 28, ground := .data } (by simp) rfl
          rw [Array.getD_eq_getD_getElem?] at t46
          refine .inl ⟨rfl, ?_⟩
          go_simp
          exact ⟨Below.refl _ _, rfl⟩
        · have t47 : a.tmps.getD 47 undef = .bool true := hd { on := 29, ground := .data } (by simp) rfl
          rw [Array.getD_eq_getD_getElem?] at t47
          refine .inl ⟨rfl, ?_⟩
          go_simp
          exact ⟨Below.refl _ _, rfl⟩
        · have t3 : a.tmps.getD 3 undef = .pointer (some ⟨w.heap.size, 0, none⟩) := hF.at 3 (by kernel_rfl)
          rw [Array.getD_eq_getD_getElem?] at t3
          have g48 : a.eval (.tmp 48) = .bool true := hd { on := 30, ground := .guard } (by simp) rfl
          refine .inl ⟨(by simp only [Region.wanted]; rw [yielded_of (d := 48) (by rfl) g48]; rfl), ?_⟩
          clear g48
          rw [run_obox _ _ 24 (.tmp 3) rfl (w.heap.size) (by simpa [Act.eval] using t3) 24 (hcells a1 mv) _ (HX W hE) Try.underlying24 rfl sizeHost]
          exact ⟨Below.refl _ _, rfl⟩
        · have t49 : a.tmps.getD 49 undef = hval a1 mv := hd { on := 31, ground := .data } (by simp) rfl
          rw [Array.getD_eq_getD_getElem?] at t49
          have g48 : a.eval (.tmp 48) = .bool true := hd { on := 30, ground := .guard } (by simp) rfl
          refine .inl ⟨(by simp only [Region.wanted]; rw [yielded_of (d := 48) (by rfl) g48]; rfl), ?_⟩
          clear g48
          go_simp
          exact (KC W (HM W hE)).mono fun e w2 ⟨mv, h1, h2, h3⟩ => ⟨_, h1, h3, mv, rfl, h2⟩
        · have t3 : a.tmps.getD 3 undef = .pointer (some ⟨w.heap.size, 0, none⟩) := hF.at 3 (by kernel_rfl)
          rw [Array.getD_eq_getD_getElem?] at t3
          have g48 : a.eval (.tmp 48) = .bool true := hd { on := 30, ground := .guard } (by simp) rfl
          refine .inl ⟨(by simp only [Region.wanted]; rw [yielded_of (d := 48) (by rfl) g48]; rfl), ?_⟩
          clear g48
          rw [run_obox _ _ 24 (.tmp 3) rfl (w.heap.size) (by simpa [Act.eval] using t3) 24 (hcells a1 mv) _ (HX W hE) Try.underlying24 rfl sizeHost]
          exact ⟨Below.refl _ _, rfl⟩
        · obtain ⟨v50, t50, p50⟩ : ∃ v, a.tmps.getD 50 undef = hval (a1) v ∧ IsPairs W v (HostT.tags (a1)) := hd { on := 32, ground := .data } (by simp) rfl
          rw [Array.getD_eq_getD_getElem?] at t50
          have t51 : a.tmps.getD 51 undef = hval a1 mv := hd { on := 33, ground := .data } (by simp) rfl
          rw [Array.getD_eq_getD_getElem?] at t51
          have g48 : a.eval (.tmp 48) = .bool true := hd { on := 30, ground := .guard } (by simp) rfl
          refine .inl ⟨(by simp only [Region.wanted]; rw [yielded_of (d := 48) (by rfl) g48]; rfl), ?_⟩
          clear g48
          go_simp
          exact (K9 _ W p50 (HM W hE)).mono fun e w2 h => ⟨_, h.1, h.2, rfl⟩
        · have t48 : a.tmps.getD 48 undef = .bool true := hd { on := 30, ground := .data } (by simp) rfl
          rw [Array.getD_eq_getD_getElem?] at t48
          have t52 : a.tmps.getD 52 undef = .bool true := hd { on := 34, ground := .data } (by simp) rfl
          rw [Array.getD_eq_getD_getElem?] at t52
          refine .inl ⟨rfl, ?_⟩
          go_simp
          exact ⟨Below.refl _ _, rfl⟩
        · have t53 : a.tmps.getD 53 undef = .bool true := hd { on := 35, ground := .data } (by simp) rfl
          rw [Array.getD_eq_getD_getElem?] at t53
          refine .inl ⟨rfl, ?_⟩
          go_simp
          exact ⟨Below.refl _ _, rfl⟩
        · have g54 : a.eval (.tmp 54) = .bool true := hd { on := 36, ground := .guard } (by simp) rfl
          refine .inl ⟨(by simp only [Region.wanted]; rw [yielded_of (d := 54) (by rfl) g54]; rfl), ?_⟩
          clear g54
          go_simp
          exact (awake_any W).mono fun e w2 h => ⟨_, h.1, h.2, rfl⟩
        · have t54 : a.tmps.getD 54 undef = .bool true := hd { on := 36, ground := .data } (by simp) rfl
          rw [Array.getD_eq_getD_getElem?] at t54
          have t55 : a.tmps.getD 55 undef = .bool true := hd { on := 37, ground := .data } (by simp) rfl
          rw [Array.getD_eq_getD_getElem?] at t55
          refine .inl ⟨rfl, ?_⟩
          go_simp
          exact ⟨Below.refl _ _, rfl⟩
        · have t56 : a.tmps.getD 56 undef = .bool true := hd { on := 38, ground := .data } (by simp) rfl
          rw [Array.getD_eq_getD_getElem?] at t56
          refine .inl ⟨rfl, ?_⟩
          go_simp
          exact ⟨Below.refl _ _, rfl⟩
      · intro vs W hE hV
        have h39 : vs 39 = .bool true := hV 39 (by decide)
        have HBf : Hid (Below w.heap.size w W) := HB0.out.trans (hE.mono HB0.out.size)
        clear hV hE
        simp only [putsV, dstsV, List.foldl, h39, Act.put, List.setIfInBounds_toArray, List.set_cons_succ, List.set_cons_zero]
        clear h39
        generalize vs 0 = y0
        generalize vs 1 = y1
        generalize vs 2 = y2
        generalize vs 3 = y3
        generalize vs 4 = y4
        generalize vs 5 = y5
        generalize vs 6 = y6
        generalize vs 7 = y7
        generalize vs 8 = y8
        generalize vs 9 = y9
        generalize vs 10 = y10
        generalize vs 11 = y11
        generalize vs 12 = y12
        generalize vs 13 = y13
        generalize vs 14 = y14
        generalize vs 15 = y15
        generalize vs 16 = y16
        generalize vs 17 = y17
        generalize vs 18 = y18
        generalize vs 19 = y19
        generalize vs 20 = y20
        generalize vs 21 = y21
        generalize vs 22 = y22
        generalize vs 23 = y23
        generalize vs 24 = y24
        generalize vs 25 = y25
        generalize vs 26 = y26
        generalize vs 27 = y27
        generalize vs 28 = y28
        generalize vs 29 = y29
        generalize vs 30 = y30
        generalize vs 31 = y31
        generalize vs 32 = y32
        generalize vs 33 = y33
        generalize vs 34 = y34
        generalize vs 35 = y35
        generalize vs 36 = y36
        generalize vs 37 = y37
        generalize vs 38 = y38
        refine ‹∀ (a : Act) (w : World), Code.wp Try.prog Code.ret _ a w → _› _ _ ?_
        go_wp2
        go_ret
        exact ⟨rfl, HBf.out⟩


set_option maxRecDepth 100000 in
theorem lifted_HostForms (os : Os) (started : os.Started) (H : Type) (enc : TypeId × Value → H) :
    ReturnsInHanded {} Try.checked os 3 .any (Rows.hostFormsSpec.pre6 enc Try.prog Try.f3 Rows.hostFormsRow.domain false) (Rows.hostFormsSpec.post enc Try.prog Try.f3 false true false false) := by
  refine returnsInHanded_of_change_sized (C := Try.checked) own started (by kernel_rfl) Try.func3
    (ChangeSpec.witness6 (enc := enc) (C := Try.checked) false ⟨#[], #[.agg #[.int .i64 0, .string ByteArray.empty, .int .i64 0, .string ByteArray.empty, .int .i64 0, .slice none 0 0], .agg #[.int .i64 0, .string ByteArray.empty, .int .i64 0, .string ByteArray.empty, .int .i64 0, .slice none 0 0], .slice none 0 0], []⟩ 8 (by kernel_rfl) (by kernel_rfl) (by kernel_rfl) (by kernel_rfl)) ?_
  intro W base args ds gs before hval0 hW hcnd hsz0 hholds
  have hval : ∀ (j : Nat) t v, Try.f3.params[j]? = some t → args[j]? = some v → Value.okWide Try.prog W .any base t v := hval0
  have hW' := hW
  obtain ⟨p, q, hA0, hV, rfl, hfz, hnd⟩ := hW
  have hA : DataW.TrodAll enc Try.prog W 0 (fun _ => true) true Try.f3.params.toList args.toList ds p := hA0
  have hsz : (DataW.weightsEach Try.prog (Try.f3.params.toList ++ Rows.hostFormsSpec.plain.varTypes Try.prog) (ds ++ gs)).all (· ≤ reachBytes) = true := hsz0
  rw [Try.params3] at hA hval hsz
  obtain ⟨v0, vs0, d0, ds0, p0, q0, hargs, rfl, rfl, h0, r0⟩ := trodAll_cons hA
  obtain ⟨v1, vs1, d1, ds1, p1, q1, rfl, rfl, rfl, h1, r1⟩ := trodAll_cons r0
  obtain ⟨v2, vs2, d2, ds2, p2, q2, rfl, rfl, rfl, h2, r2⟩ := trodAll_cons r1
  obtain ⟨rfl, rfl, rfl⟩ := trodAll_nil r2
  obtain rfl : args = #[v0, v1, v2] := by cases args; simp_all
  obtain ⟨rfl, rfl⟩ := trodVars_none hV
  have k0 := h0
  have lt0 : ∀ x ∈ p0, x.block < W.heap.size := by obtain ⟨m, hm⟩ := k0; exact DataW.trod_lt m _ _ _ hm
  obtain ⟨c0, m0, dm0, rfl, o0, i0, w0, rfl, x0⟩ := open_host (hval 0 24 v0 rfl rfl) h0
  have z0 : c0.tags.length ≤ 4398046510976 := sized_host hsz (j := 0) rfl rfl x0
  have k1 := h1
  have lt1 : ∀ x ∈ p1, x.block < W.heap.size := by obtain ⟨m, hm⟩ := k1; exact DataW.trod_lt m _ _ _ hm
  obtain ⟨c1, m1, dm1, rfl, o1, i1, w1, rfl, x1⟩ := open_host (hval 1 24 v1 rfl rfl) h1
  have z1 : c1.tags.length ≤ 4398046510976 := sized_host hsz (j := 1) rfl rfl x1
  have k2 := h2
  have lt2 : ∀ x ∈ p2, x.block < W.heap.size := by obtain ⟨m, hm⟩ := k2; exact DataW.trod_lt m _ _ _ hm
  obtain ⟨c2, w2, x2⟩ := open_prs (hval 2 22 v2 rfl rfl) h2
  have z2 : c2.length ≤ 4398046510976 := sized_pairs hsz (j := 2) rfl rfl x2
  clear hA0 hval0
  refine (walk_HostForms c0 m0 o0 i0 z0 c1 m1 o1 i1 z1 c2 v2 z2 W w0 w1 w2).mono fun e W' ⟨he, bel⟩ => ?_
  subst he
  exact ⟨_, rfl, _, _, _, [], _, [], hW', trodAll_mk1 (shut_bool Try.underlying4 _), (trodAll_cons_mk (Below.trod laidOut (by kernel_rfl) (of_decide_eq_true (by kernel_rfl)) k0 bel lt0) (trodAll_cons_mk (Below.trod laidOut (by kernel_rfl) (of_decide_eq_true (by kernel_rfl)) k1 bel lt1) (trodAll_cons_mk (Below.trod laidOut (by kernel_rfl) (of_decide_eq_true (by kernel_rfl)) k2 bel lt2) trodAll_mk0))), rfl, bel.frame _, fun h => by cases h⟩

theorem over_HostForms : Rows.hostFormsRow.holds Try.pinned (OpenSpec.ofChange Rows.hostFormsSpec) :=
  OpenClaim.holds_of_wide 3 Try.f3 rfl rfl rfl rfl rfl rfl rfl ⟨rfl, rfl, rfl, rfl, rfl⟩ rfl rfl rfl rfl rfl (by kernel_rfl) Try.func3 (by kernel_rfl)
    (of_decide_eq_true (by kernel_rfl)) (by unfold Func.isWrapper; first | (rw [if_pos (by decide +kernel)]; kernel_rfl) | (rw [if_neg (by decide +kernel)]; exact ⟨rfl, rfl⟩))
    (fun os started H enc _ => lifted_HostForms os started H enc)

/-- The statement. -/
theorem hostForms_holds : Rows.HostFormsSaid := over_HostForms
#print axioms hostForms_holds

end Go.Proofs.Ytgjancpogblakaa

/-
  The host that every program must know.
-/
import Derived.Test.YtgjancpogblakaaHostLaw
import Derived.Test.YtgjancpogblakaaHostMP
namespace Go.Proofs.Ytgjancpogblakaa
open Go.RowKit

abbrev awH : HostT := ⟨1, ⟨#[97]⟩, 0, ByteArray.empty, 1, [(⟨#[107]⟩, ⟨#[118]⟩)]⟩
abbrev awW : List PairT := [(⟨#[107]⟩, ⟨#[119]⟩)]
abbrev awV (w : World) : Value := .slice (some ⟨w.heap.size, 0, none⟩) 1 1
theorem okAw : okHost awH := by unfold okHost maxLen; decide
theorem okNo : okHost noHost := by unfold okHost maxLen; decide

theorem may_aw (mv : Value) (w : World) (h : IsPairs w mv awH.tags) : Calls Try.prog 10 #[hval awH mv] w fun e w' => e = .returned (.bool true) ∧ Below w.heap.size w w' := by
  have := may_any awH mv w okAw h
  rwa [show mayHost awH = true by decide +kernel] at this
theorem maynt_no (w : World) : Calls Try.prog 10 #[hval noHost nilW] w fun e w' => e = .returned (.bool false) ∧ Below w.heap.size w w' := by
  have := may_any noHost nilW w okNo (isPairs_nil w)
  rwa [show mayHost noHost = false by decide +kernel] at this
theorem has_aw (mv v : Value) (w : World) (h : IsPairs w mv awH.tags) (hv : IsPairs w v awH.tags) : Calls Try.prog 14 #[hval awH mv, v] w fun e w' => e = .returned (.bool true) ∧ Below w.heap.size w w' := by
  have := has_any awH awH.tags mv v w h hv
  rwa [show hasPairs awH.tags awH.tags = true by decide +kernel] at this
theorem hasnt_aw (mv v : Value) (w : World) (h : IsPairs w mv awH.tags) (hv : IsPairs w v awW) : Calls Try.prog 14 #[hval awH mv, v] w fun e w' => e = .returned (.bool false) ∧ Below w.heap.size w w' := by
  have := has_any awH awW mv v w h hv
  rwa [show hasPairs awH.tags awW = false by decide +kernel] at this
theorem same_aw (mv nv : Value) (w : World) (h : IsPairs w mv awH.tags) (hv : IsPairs w nv awH.tags) : Calls Try.prog 12 #[hval awH mv, hval awH nv] w fun e w' => e = .returned (.bool true) ∧ Below w.heap.size w w' := by
  have := same_any awH awH mv nv w h hv
  rwa [show sameH awH awH = true from decide_eq_true rfl] at this
theorem copy_aw (mv : Value) (w : World) (h : IsPairs w mv awH.tags) : Calls Try.prog 18 #[hval awH mv] w fun e w' => ∃ mv', e = .returned (hval awH mv') ∧ IsPairs w' mv' awH.tags ∧ Below w.heap.size w w' :=
  (copy_any awH mv w h (by decide)).mono fun _ _ ⟨mv', h1, h2, h3⟩ => ⟨mv', h1, own_pairs h2 rfl h.1, h3⟩

set_option maxRecDepth 100000 in
set_option maxHeartbeats 2000000 in
theorem awake_any (w : World) : Calls Try.prog 9 #[] w fun e w' => e = .returned (.bool true) ∧ Below w.heap.size w w' := by
  go_enter Try.func9, Try.ntmps9
  go_wp2
  generalize hW0 : (w.alloc _).alloc _ = W0
  have hX : HasBox W0 (w.heap.size + 1) 24 (hcells awH (awV w)) := by rw [← hW0]; exact hasBox_new' (w.alloc _) _ _ _ (by simp)
  have hP : IsPairs W0 (awV w) awH.tags := by rw [← hW0]; exact (one_pair w (⟨#[107]⟩, ⟨#[118]⟩) _ _ rfl (by unfold okPair maxLen; decide)).below ((Below.refl _ _).alloc (Nat.le_refl _) _)
  have HB0 : Hid (Below w.heap.size w W0) := by show Below _ _ _; rw [← hW0]; exact ((Below.refl _ _).alloc (Nat.le_refl _) _).alloc (by simp) _
  have HX : ∀ W, Below W0.heap.size W0 W → HasBox W (w.heap.size + 1) 24 (hcells awH (awV w)) := fun W h => hX.below h
  have HP : ∀ W, Below W0.heap.size W0 W → IsPairs W (awV w) awH.tags := fun W h => hP.below h
  clear hW0 hX hP
  refine wp_region_mp ([eqP (hval awH (awV w)), eqP (.bool true), eqP (.bool true), eqP (hval awH (awV w)), eqP (.pointer (some ⟨w.heap.size + 1, 5, none⟩)), eqP (awV w), eqP (.bool true), eqP (.bool true), eqP (.bool true), eqP (hval awH (awV w)), eqP (.agg #[.string ⟨#[107]⟩, .string ⟨#[119]⟩]), pairsP awW, eqP (.bool false), eqP (.bool true), eqP (.bool true), eqP (.bool true), eqP (hval awH (awV w)), eqP (hval awH (awV w)), hostP awH, eqP (.bool true), eqP (.bool true), eqP (.bool true), eqP (hval noHost nilW), eqP (.bool false), eqP (.bool true), eqP (.bool true), eqP (.bool true)]) (by kernel_rfl) (by kernel_rfl) ?_ ?_
  · simp only [stepsAll3]
    refine ⟨fun a W hF hE hd => ?_, fun a W hF hE hd => ?_, fun a W hF hE hd => ?_, fun a W hF hE hd => ?_, fun a W hF hE hd => ?_, fun a W hF hE hd => ?_, fun a W hF hE hd => ?_, fun a W hF hE hd => ?_, fun a W hF hE hd => ?_, fun a W hF hE hd => ?_, fun a W hF hE hd => ?_, fun a W hF hE hd => ?_, fun a W hF hE hd => ?_, fun a W hF hE hd => ?_, fun a W hF hE hd => ?_, fun a W hF hE hd => ?_, fun a W hF hE hd => ?_, fun a W hF hE hd => ?_, fun a W hF hE hd => ?_, fun a W hF hE hd => ?_, fun a W hF hE hd => ?_, fun a W hF hE hd => ?_, fun a W hF hE hd => ?_, fun a W hF hE hd => ?_, fun a W hF hE hd => ?_, fun a W hF hE hd => ?_, fun a W hF hE hd => ?_, trivial⟩
    all_goals unfold StepAt
    · have t1 : a.tmps.getD 1 undef = .pointer (some ⟨w.heap.size + 1, 0, none⟩) := hF.at 1 (by kernel_rfl)
      rw [Array.getD_eq_getD_getElem?] at t1
      refine .inl ⟨rfl, ?_⟩
      rw [run_obox _ _ 24 (.tmp 1) rfl (w.heap.size + 1) (by simpa [Act.eval] using t1) 24 (hcells awH (awV w)) _ (HX W hE) Try.underlying24 rfl sizeHost]
      exact ⟨Below.refl _ _, rfl⟩
    · have t5 : a.tmps.getD 5 undef = hval awH (awV w) := hd { on := 0, ground := .data } (by simp) rfl
      rw [Array.getD_eq_getD_getElem?] at t5
      refine .inl ⟨rfl, ?_⟩
      go_simp
      exact (may_aw _ W (HP W hE)).mono fun e w2 h => ⟨_, h.1, h.2, rfl⟩
    · have t6 : a.tmps.getD 6 undef = .bool true := hd { on := 1, ground := .data } (by simp) rfl
      rw [Array.getD_eq_getD_getElem?] at t6
      refine .inl ⟨rfl, ?_⟩
      go_simp
      exact ⟨Below.refl _ _, rfl⟩
    · have t1 : a.tmps.getD 1 undef = .pointer (some ⟨w.heap.size + 1, 0, none⟩) := hF.at 1 (by kernel_rfl)
      rw [Array.getD_eq_getD_getElem?] at t1
      have g7 : a.eval (.tmp 7) = .bool true := hd { on := 2, ground := .guard } (by simp) rfl
      refine .inl ⟨(by simp only [Region.wanted]; rw [yielded_of (d := 7) (by rfl) g7]; rfl), ?_⟩
      clear g7
      rw [run_obox _ _ 24 (.tmp 1) rfl (w.heap.size + 1) (by simpa [Act.eval] using t1) 24 (hcells awH (awV w)) _ (HX W hE) Try.underlying24 rfl sizeHost]
      exact ⟨Below.refl _ _, rfl⟩
    · have t1 : a.tmps.getD 1 undef = .pointer (some ⟨w.heap.size + 1, 0, none⟩) := hF.at 1 (by kernel_rfl)
      rw [Array.getD_eq_getD_getElem?] at t1
      have g7 : a.eval (.tmp 7) = .bool true := hd { on := 2, ground := .guard } (by simp) rfl
      refine .inl ⟨(by simp only [Region.wanted]; rw [yielded_of (d := 7) (by rfl) g7]; rfl), ?_⟩
      clear g7
      go_simp
      exact ⟨Below.refl _ _, rfl⟩
    · have t9 : a.tmps.getD 9 undef = .pointer (some ⟨w.heap.size + 1, 5, none⟩) := hd { on := 4, ground := .data } (by simp) rfl
      rw [Array.getD_eq_getD_getElem?] at t9
      have g7 : a.eval (.tmp 7) = .bool true := hd { on := 2, ground := .guard } (by simp) rfl
      refine .inl ⟨(by simp only [Region.wanted]; rw [yielded_of (d := 7) (by rfl) g7]; rfl), ?_⟩
      clear g7
      have c5 : W.cell? ⟨w.heap.size + 1, 5, none⟩ = some (awV w) := (HX W hE).cell 5
      go_simp
      exact ⟨Below.refl _ _, rfl⟩
    · have t8 : a.tmps.getD 8 undef = hval awH (awV w) := hd { on := 3, ground := .data } (by simp) rfl
      rw [Array.getD_eq_getD_getElem?] at t8
      have t10 : a.tmps.getD 10 undef = awV w := hd { on := 5, ground := .data } (by simp) rfl
      rw [Array.getD_eq_getD_getElem?] at t10
      have g7 : a.eval (.tmp 7) = .bool true := hd { on := 2, ground := .guard } (by simp) rfl
      refine .inl ⟨(by simp only [Region.wanted]; rw [yielded_of (d := 7) (by rfl) g7]; rfl), ?_⟩
      clear g7
      go_simp
      exact (has_aw _ _ W (HP W hE) (HP W hE)).mono fun e w2 h => ⟨_, h.1, h.2, rfl⟩
    · have t7 : a.tmps.getD 7 undef = .bool true := hd { on := 2, ground := .data } (by simp) rfl
      rw [Array.getD_eq_getD_getElem?] at t7
      have t11 : a.tmps.getD 11 undef = .bool true := hd { on := 6, ground := .data } (by simp) rfl
      rw [Array.getD_eq_getD_getElem?] at t11
      refine .inl ⟨rfl, ?_⟩
      go_simp
      exact ⟨Below.refl _ _, rfl⟩
    · have t12 : a.tmps.getD 12 undef = .bool true := hd { on := 7, ground := .data } (by simp) rfl
      rw [Array.getD_eq_getD_getElem?] at t12
      refine .inl ⟨rfl, ?_⟩
      go_simp
      exact ⟨Below.refl _ _, rfl⟩
    · have t1 : a.tmps.getD 1 undef = .pointer (some ⟨w.heap.size + 1, 0, none⟩) := hF.at 1 (by kernel_rfl)
      rw [Array.getD_eq_getD_getElem?] at t1
      have g13 : a.eval (.tmp 13) = .bool true := hd { on := 8, ground := .guard } (by simp) rfl
      refine .inl ⟨(by simp only [Region.wanted]; rw [yielded_of (d := 13) (by rfl) g13]; rfl), ?_⟩
      clear g13
      rw [run_obox _ _ 24 (.tmp 1) rfl (w.heap.size + 1) (by simpa [Act.eval] using t1) 24 (hcells awH (awV w)) _ (HX W hE) Try.underlying24 rfl sizeHost]
      exact ⟨Below.refl _ _, rfl⟩
    · have g13 : a.eval (.tmp 13) = .bool true := hd { on := 8, ground := .guard } (by simp) rfl
      refine .inl ⟨(by simp only [Region.wanted]; rw [yielded_of (d := 13) (by rfl) g13]; rfl), ?_⟩
      clear g13
      go_simp
      exact ⟨Below.refl _ _, rfl⟩
    · have t15 : a.tmps.getD 15 undef = .agg #[.string ⟨#[107]⟩, .string ⟨#[119]⟩] := hd { on := 10, ground := .data } (by simp) rfl
      rw [Array.getD_eq_getD_getElem?] at t15
      have g13 : a.eval (.tmp 13) = .bool true := hd { on := 8, ground := .guard } (by simp) rfl
      refine .inl ⟨(by simp only [Region.wanted]; rw [yielded_of (d := 13) (by rfl) g13]; rfl), ?_⟩
      clear g13
      go_simp
      exact ⟨(Below.refl _ _).alloc (Nat.le_refl _) _, one_pair W _ _ _ rfl (by unfold okPair maxLen; decide)⟩
    · have t14 : a.tmps.getD 14 undef = hval awH (awV w) := hd { on := 9, ground := .data } (by simp) rfl
      rw [Array.getD_eq_getD_getElem?] at t14
      obtain ⟨v16, t16, p16⟩ : ∃ v, a.tmps.getD 16 undef = v ∧ IsPairs W v awW := ⟨_, rfl, hd { on := 11, ground := .data } (by simp) rfl⟩
      rw [Array.getD_eq_getD_getElem?] at t16
      have g13 : a.eval (.tmp 13) = .bool true := hd { on := 8, ground := .guard } (by simp) rfl
      refine .inl ⟨(by simp only [Region.wanted]; rw [yielded_of (d := 13) (by rfl) g13]; rfl), ?_⟩
      clear g13
      go_simp
      exact (hasnt_aw _ _ W (HP W hE) p16).mono fun e w2 h => ⟨_, h.1, h.2, rfl⟩
    · have t17 : a.tmps.getD 17 undef = .bool false := hd { on := 12, ground := .data } (by simp) rfl
      rw [Array.getD_eq_getD_getElem?] at t17
      have g13 : a.eval (.tmp 13) = .bool true := hd { on := 8, ground := .guard } (by simp) rfl
      refine .inl ⟨(by simp only [Region.wanted]; rw [yielded_of (d := 13) (by rfl) g13]; rfl), ?_⟩
      clear g13
      go_simp
      exact ⟨Below.refl _ _, rfl⟩
    · have t13 : a.tmps.getD 13 undef = .bool true := hd { on := 8, ground := .data } (by simp) rfl
      rw [Array.getD_eq_getD_getElem?] at t13
      have t18 : a.tmps.getD 18 undef = .bool true := hd { on := 13, ground := .data } (by simp) rfl
      rw [Array.getD_eq_getD_getElem?] at t18
      refine .inl ⟨rfl, ?_⟩
      go_simp
      exact ⟨Below.refl _ _, rfl⟩
    · have t19 : a.tmps.getD 19 undef = .bool true := hd { on := 14, ground := .data } (by simp) rfl
      rw [Array.getD_eq_getD_getElem?] at t19
      refine .inl ⟨rfl, ?_⟩
      go_simp
      exact ⟨Below.refl _ _, rfl⟩
    · have t1 : a.tmps.getD 1 undef = .pointer (some ⟨w.heap.size + 1, 0, none⟩) := hF.at 1 (by kernel_rfl)
      rw [Array.getD_eq_getD_getElem?] at t1
      have g20 : a.eval (.tmp 20) = .bool true := hd { on := 15, ground := .guard } (by simp) rfl
      refine .inl ⟨(by simp only [Region.wanted]; rw [yielded_of (d := 20) (by rfl) g20]; rfl), ?_⟩
      clear g20
      rw [run_obox _ _ 24 (.tmp 1) rfl (w.heap.size + 1) (by simpa [Act.eval] using t1) 24 (hcells awH (awV w)) _ (HX W hE) Try.underlying24 rfl sizeHost]
      exact ⟨Below.refl _ _, rfl⟩
    · have t1 : a.tmps.getD 1 undef = .pointer (some ⟨w.heap.size + 1, 0, none⟩) := hF.at 1 (by kernel_rfl)
      rw [Array.getD_eq_getD_getElem?] at t1
      have g20 : a.eval (.tmp 20) = .bool true := hd { on := 15, ground := .guard } (by simp) rfl
      refine .inl ⟨(by simp only [Region.wanted]; rw [yielded_of (d := 20) (by rfl) g20]; rfl), ?_⟩
      clear g20
      rw [run_obox _ _ 24 (.tmp 1) rfl (w.heap.size + 1) (by simpa [Act.eval] using t1) 24 (hcells awH (awV w)) _ (HX W hE) Try.underlying24 rfl sizeHost]
      exact ⟨Below.refl _ _, rfl⟩
    · have t22 : a.tmps.getD 22 undef = hval awH (awV w) := hd { on := 17, ground := .data } (by simp) rfl
      rw [Array.getD_eq_getD_getElem?] at t22
      have g20 : a.eval (.tmp 20) = .bool true := hd { on := 15, ground := .guard } (by simp) rfl
      refine .inl ⟨(by simp only [Region.wanted]; rw [yielded_of (d := 20) (by rfl) g20]; rfl), ?_⟩
      clear g20
      go_simp
      exact (copy_aw _ W (HP W hE)).mono fun e w2 ⟨mv, h1, h2, h3⟩ => ⟨_, h1, h3, mv, rfl, h2⟩
    · have t21 : a.tmps.getD 21 undef = hval awH (awV w) := hd { on := 16, ground := .data } (by simp) rfl
      rw [Array.getD_eq_getD_getElem?] at t21
      obtain ⟨v23, t23, p23⟩ : ∃ v, a.tmps.getD 23 undef = hval awH v ∧ IsPairs W v (HostT.tags awH) := hd { on := 18, ground := .data } (by simp) rfl
      rw [Array.getD_eq_getD_getElem?] at t23
      have g20 : a.eval (.tmp 20) = .bool true := hd { on := 15, ground := .guard } (by simp) rfl
      refine .inl ⟨(by simp only [Region.wanted]; rw [yielded_of (d := 20) (by rfl) g20]; rfl), ?_⟩
      clear g20
      go_simp
      exact (same_aw _ _ W (HP W hE) p23).mono fun e w2 h => ⟨_, h.1, h.2, rfl⟩
    · have t20 : a.tmps.getD 20 undef = .bool true := hd { on := 15, ground := .data } (by simp) rfl
      rw [Array.getD_eq_getD_getElem?] at t20
      have t24 : a.tmps.getD 24 undef = .bool true := hd { on := 19, ground := .data } (by simp) rfl
      rw [Array.getD_eq_getD_getElem?] at t24
      refine .inl ⟨rfl, ?_⟩
      go_simp
      exact ⟨Below.refl _ _, rfl⟩
    · have t25 : a.tmps.getD 25 undef = .bool true := hd { on := 20, ground := .data } (by simp) rfl
      rw [Array.getD_eq_getD_getElem?] at t25
      refine .inl ⟨rfl, ?_⟩
      go_simp
      exact ⟨Below.refl _ _, rfl⟩
    · have g26 : a.eval (.tmp 26) = .bool true := hd { on := 21, ground := .guard } (by simp) rfl
      refine .inl ⟨(by simp only [Region.wanted]; rw [yielded_of (d := 26) (by rfl) g26]; rfl), ?_⟩
      clear g26
      go_simp
      exact ⟨Below.refl _ _, rfl⟩
    · have t27 : a.tmps.getD 27 undef = hval noHost nilW := hd { on := 22, ground := .data } (by simp) rfl
      rw [Array.getD_eq_getD_getElem?] at t27
      have g26 : a.eval (.tmp 26) = .bool true := hd { on := 21, ground := .guard } (by simp) rfl
      refine .inl ⟨(by simp only [Region.wanted]; rw [yielded_of (d := 26) (by rfl) g26]; rfl), ?_⟩
      clear g26
      go_simp
      exact (maynt_no W).mono fun e w2 h => ⟨_, h.1, h.2, rfl⟩
    · have t28 : a.tmps.getD 28 undef = .bool false := hd { on := 23, ground := .data } (by simp) rfl
      rw [Array.getD_eq_getD_getElem?] at t28
      have g26 : a.eval (.tmp 26) = .bool true := hd { on := 21, ground := .guard } (by simp) rfl
      refine .inl ⟨(by simp only [Region.wanted]; rw [yielded_of (d := 26) (by rfl) g26]; rfl), ?_⟩
      clear g26
      go_simp
      exact ⟨Below.refl _ _, rfl⟩
    · have t26 : a.tmps.getD 26 undef = .bool true := hd { on := 21, ground := .data } (by simp) rfl
      rw [Array.getD_eq_getD_getElem?] at t26
      have t29 : a.tmps.getD 29 undef = .bool true := hd { on := 24, ground := .data } (by simp) rfl
      rw [Array.getD_eq_getD_getElem?] at t29
      refine .inl ⟨rfl, ?_⟩
      go_simp
      exact ⟨Below.refl _ _, rfl⟩
    · have t30 : a.tmps.getD 30 undef = .bool true := hd { on := 25, ground := .data } (by simp) rfl
      rw [Array.getD_eq_getD_getElem?] at t30
      refine .inl ⟨rfl, ?_⟩
      go_simp
      exact ⟨Below.refl _ _, rfl⟩
  · intro vs W hE hV
    have h26 : vs 26 = .bool true := hV 26 (by decide)
    have HBf : Hid (Below w.heap.size w W) := HB0.out.trans (hE.mono HB0.out.size)
    clear hV hE
    simp only [putsV, dstsV, List.foldl, h26, Act.put, List.setIfInBounds_toArray, List.set_cons_succ, List.set_cons_zero]
    clear h26
    generalize vs 0 = y0
    generalize vs 1 = y1
    generalize vs 2 = y2
    generalize vs 3 = y3
    generalize vs 4 = y4
    generalize vs 5 = y5
    generalize vs 6 = y6
    generalize vs 7 = y7
    generalize vs 8 = y8
    generalize vs 9 = y9
    generalize vs 10 = y10
    generalize vs 11 = y11
    generalize vs 12 = y12
    generalize vs 13 = y13
    generalize vs 14 = y14
    generalize vs 15 = y15
    generalize vs 16 = y16
    generalize vs 17 = y17
    generalize vs 18 = y18
    generalize vs 19 = y19
    generalize vs 20 = y20
    generalize vs 21 = y21
    generalize vs 22 = y22
    generalize vs 23 = y23
    generalize vs 24 = y24
    generalize vs 25 = y25
    refine ‹∀ (a : Act) (w : World), Code.wp Try.prog Code.ret _ a w → _› _ _ ?_
    go_wp2
    go_ret
    exact ⟨rfl, HBf.out⟩

end Go.Proofs.Ytgjancpogblakaa

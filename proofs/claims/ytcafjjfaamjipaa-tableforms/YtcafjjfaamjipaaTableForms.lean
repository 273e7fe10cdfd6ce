/-
  TableForms, for any two rows of hosts, any host and any number: what package table answers is what the statement's own answers say. No condition.
-/
import Derived.Test.YtcafjjfaamjipaaTableFrame
import Derived.Test.YtcafjjfaamjipaaTableShown
import Derived.Test.YtcafjjfaamjipaaRefSame
namespace Go.Proofs.Ytcafjjfaamjipaa
open Go.ChangeShapes Go.WideShapes Go.ChangeAt Go.RowKit

theorem radd_hosts (hs : List HostT) (h : HostT) (mv v : Value) (vs : List Value) (w : World) (hv : IsHosts w v vs hs) (oh : okHost h) (hm : IsPairs w mv h.tags) :
    Calls Try.prog 12 #[v, hval h mv] w fun e w' => ∃ v' vs', e = .returned (.tuple #[v', .int .i64 (addR hs h).2]) ∧ IsHosts w' v' vs' (shown (addR hs h)) ∧ Below w.heap.size w w' :=
  (rAdd_any hs h mv v vs w hv oh hm).mono fun _ _ ⟨h1, h2⟩ => by
    obtain ⟨v', vs', h3, h4⟩ := listed_hosts h1 (addR_ok (okAll_of hv) ⟨oh, hm.1⟩)
    exact ⟨v', vs', h3, h4, h2⟩
theorem rcut_hosts (hs : List HostT) (id : Int) (v : Value) (vs : List Value) (w : World) (hv : IsHosts w v vs hs) :
    Calls Try.prog 14 #[v, .int .i64 id] w fun e w' => ∃ v' vs', e = .returned (.tuple #[v', .int .i64 (cutR hs id).2]) ∧ IsHosts w' v' vs' (shown (cutR hs id)) ∧ Below w.heap.size w w' :=
  (rCut_any hs id v vs w hv).mono fun _ _ ⟨h1, h2⟩ => by
    obtain ⟨v', vs', h3, h4⟩ := listed_hosts (p := cutR hs id) h1 (cutR_ok (okAll_of hv))
    exact ⟨v', vs', h3, h4, h2⟩
theorem same_true (L : List HostT) (v u : Value) (vs us : List Value) (w : World) (hv : IsHosts w v vs L) (hu : IsHosts w u us L) : Calls Try.prog 17 #[v, u] w fun e w' => e = .returned (.bool true) ∧ Below w.heap.size w w' := by
  have := rSameHosts_any L L v u vs us w hv hu
  rwa [decide_eq_true rfl] at this
theorem ints_true (L : List Int) (v u : Value) (w : World) (hv : IsInts w v L) (hu : IsInts w u L) : Calls Try.prog 18 #[v, u] w fun e w' => e = .returned (.bool true) ∧ Below w.heap.size w w' := by
  have := rInts_any L L v u w hv hu
  rwa [decide_eq_true rfl] at this

set_option maxRecDepth 100000 in
set_option maxHeartbeats 8000000 in
theorem walk_TableForms (ls : List HostT) (lv : Value) (us : List Value) (_ : ∀ i, i < ls.length → inI (ls.getD i noHost).id) (ts : List HostT) (tv : Value) (vs : List Value) (_ : ∀ i, i < ts.length → inI (ts.getD i noHost).id)
    (h : HostT) (mv : Value) (oh : okHost h) (_ : inI h.id ∧ inI h.prio ∧ inI h.weight) (_ : h.tags.length ≤ 4398046510976) (id : Int) (_ : -9223372036854775808 ≤ id ∧ id ≤ 9223372036854775807) (w : World) (hl : IsHosts w lv us ls) (ht : IsHosts w tv vs ts) (hm : IsPairs w mv h.tags) :
    Calls Try.prog 3 #[lv, tv, hval h mv, .int .i64 id] w fun e w' => e = .returned (.bool true) ∧ Below w.heap.size w w' := by
  have KA := fun W p q => tadd_hosts ls h mv lv us W p oh q
  have KB := fun W p q => radd_hosts ls h mv lv us W p oh q
  have KC := fun W p => tcut_hosts ls id lv us W p
  have KD := fun W p => rcut_hosts ls id lv us W p
  have KE := fun W p q => tchange_any ls ts lv tv us vs W p q
  have KF := fun W p q => rChange_any ls ts lv tv us vs W p q
  have KG := fun W p => tmay_any ls lv us W p
  have KH := fun W p => rMayTable_any ls lv us W p
  have KI := fun W p => tfind_any ls id lv us W p
  have KJ := fun W p => rFind_any ls id lv us W p
  generalize (addR ls h).2 = n1 at KA KB
  generalize shown (addR ls h) = L1 at KA KB
  generalize (cutR ls id).2 = n2 at KC KD
  generalize shown (cutR ls id) = L2 at KC KD
  generalize changeR ls ts = R at KE KF
  generalize mayTab ls = q1 at KG KH
  generalize findH ls id = f1 at KI KJ
  obtain ⟨C1, C2, C3, n3⟩ := R
  go_enter Try.func3, Try.ntmps3
  go_wp2
  generalize hW0 : w.alloc _ = W0
  have hX : HasBox W0 w.heap.size 25 (hcells h mv) := by rw [← hW0]; exact hasBox_new w _ _
  have HB0 : Hid (Below w.heap.size w W0) := by show Below _ _ _; rw [← hW0]; exact (Below.refl _ _).alloc (Nat.le_refl _) _
  have HX : ∀ W, Below W0.heap.size W0 W → HasBox W w.heap.size 25 (hcells h mv) := fun W h => hX.below h
  have HM : ∀ W, Below W0.heap.size W0 W → IsPairs W mv h.tags := fun W h => hm.below (HB0.out.trans (h.mono HB0.out.size))
  have HL : ∀ W, Below W0.heap.size W0 W → IsHosts W lv us ls := fun W h => hl.below (HB0.out.trans (h.mono HB0.out.size))
  have HT : ∀ W, Below W0.heap.size W0 W → IsHosts W tv vs ts := fun W h => ht.below (HB0.out.trans (h.mono HB0.out.size))
  clear hW0 hX hm hl ht
  refine wp_region_mp ([eqP (lv), intP, eqP (tv), intP, intP, eqP (hval h mv), intP, intP, boolP]) (by kernel_rfl) (by kernel_rfl) ?_ ?_
  · go_light
    simp only [stepsAll3]
    refine ⟨fun a W hF hE hd => ?_, fun a W hF hE hd => ?_, fun a W hF hE hd => ?_, fun a W hF hE hd => ?_, fun a W hF hE hd => ?_, fun a W hF hE hd => ?_, fun a W hF hE hd => ?_, fun a W hF hE hd => ?_, fun a W hF hE hd => ?_, trivial⟩
    all_goals unfold StepAt
    · have t0 : a.tmps.getD 0 undef = lv := hF.at 0 (by kernel_rfl)
      rw [Array.getD_eq_getD_getElem?] at t0
      refine .inl ⟨rfl, ?_⟩
      go_simp
      exact ⟨Below.refl _ _, rfl⟩
    · have t25 : a.tmps.getD 25 undef = lv := hd { on := 0, ground := .data } (by simp) rfl
      rw [Array.getD_eq_getD_getElem?] at t25
      refine .inl ⟨rfl, ?_⟩
      go_simp
      exact (light8_any ls lv us W (HL W hE)).mono fun e w2 ⟨r, _, h1, h2⟩ => ⟨_, h1, h2, r, rfl⟩
    · have t1 : a.tmps.getD 1 undef = tv := hF.at 1 (by kernel_rfl)
      rw [Array.getD_eq_getD_getElem?] at t1
      refine .inl ⟨rfl, ?_⟩
      go_simp
      exact ⟨Below.refl _ _, rfl⟩
    · have t27 : a.tmps.getD 27 undef = tv := hd { on := 2, ground := .data } (by simp) rfl
      rw [Array.getD_eq_getD_getElem?] at t27
      refine .inl ⟨rfl, ?_⟩
      go_simp
      exact (light8_any ts tv vs W (HT W hE)).mono fun e w2 ⟨r, _, h1, h2⟩ => ⟨_, h1, h2, r, rfl⟩
    · obtain ⟨n26, t26⟩ : ∃ n : Int, a.tmps.getD 26 undef = .int .i64 n := hd { on := 1, ground := .data } (by simp) rfl
      rw [Array.getD_eq_getD_getElem?] at t26
      obtain ⟨n28, t28⟩ : ∃ n : Int, a.tmps.getD 28 undef = .int .i64 n := hd { on := 3, ground := .data } (by simp) rfl
      rw [Array.getD_eq_getD_getElem?] at t28
      refine .inl ⟨rfl, ?_⟩
      go_simp
      exact ⟨Below.refl _ _, _, rfl⟩
    · have t6 : a.tmps.getD 6 undef = .pointer (some ⟨w.heap.size, 0, none⟩) := hF.at 6 (by kernel_rfl)
      rw [Array.getD_eq_getD_getElem?] at t6
      refine .inl ⟨rfl, ?_⟩
      rw [run_obox _ _ 25 (.tmp 6) rfl (w.heap.size) (by simpa [Act.eval] using t6) 25 (hcells h mv) _ (HX W hE) Try.underlying25 rfl sizeHost]
      exact ⟨Below.refl _ _, rfl⟩
    · have t30 : a.tmps.getD 30 undef = hval h mv := hd { on := 5, ground := .data } (by simp) rfl
      rw [Array.getD_eq_getD_getElem?] at t30
      refine .inl ⟨rfl, ?_⟩
      go_simp
      exact (light_any h mv W (HM W hE)).mono fun e w2 ⟨r, _, h1, h2⟩ => ⟨_, h1, h2, r, rfl⟩
    · obtain ⟨n29, t29⟩ : ∃ n : Int, a.tmps.getD 29 undef = .int .i64 n := hd { on := 4, ground := .data } (by simp) rfl
      rw [Array.getD_eq_getD_getElem?] at t29
      obtain ⟨n31, t31⟩ : ∃ n : Int, a.tmps.getD 31 undef = .int .i64 n := hd { on := 6, ground := .data } (by simp) rfl
      rw [Array.getD_eq_getD_getElem?] at t31
      refine .inl ⟨rfl, ?_⟩
      go_simp
      exact ⟨Below.refl _ _, _, rfl⟩
    · obtain ⟨n32, t32⟩ : ∃ n : Int, a.tmps.getD 32 undef = .int .i64 n := hd { on := 7, ground := .data } (by simp) rfl
      rw [Array.getD_eq_getD_getElem?] at t32
      refine .inl ⟨rfl, ?_⟩
      go_simp
      exact ⟨Below.refl _ _, _, rfl⟩
  · intro ws W hE hV
    obtain ⟨q, h8⟩ : ∃ q : Bool, ws 8 = .bool q := hV 8 (by decide)
    have HWW : Hid (Below W0.heap.size W0 W) := hE
    have HBf : Hid (Below w.heap.size w W) := HB0.out.trans (hE.mono HB0.out.size)
    clear hV hE
    simp only [putsV, dstsV, List.foldl, h8, Act.put, List.setIfInBounds_toArray, List.set_cons_succ, List.set_cons_zero]
    clear h8
    generalize ws 0 = y0
    generalize ws 1 = y1
    generalize ws 2 = y2
    generalize ws 3 = y3
    generalize ws 4 = y4
    generalize ws 5 = y5
    generalize ws 6 = y6
    generalize ws 7 = y7
    refine ‹∀ (a : Act) (w : World), Code.wp Try.prog (Code.cond _ _ _) _ a w → _› _ _ ?_
    cases q with
    | true =>
      go_wp2_with fail
      refine (awake8_any _).mono ?_
      rintro e w1 ⟨rfl, hb⟩
      have HB1 : Hid (Below w.heap.size w w1) := HBf.out.trans (hb.mono HBf.out.size)
      clear hb
      go_wp2
      go_ret
      exact ⟨rfl, HB1.out⟩
    | false =>
      go_wp2_with (first | (refine wpList_load_box rfl 25 (.tmp 6) rfl w.heap.size rfl 25 (hcells h mv) _ (HX _ HWW.out) Try.underlying25 rfl sizeHost ?_) | fail)
      refine (KA _ (HL _ HWW.out) (HM _ HWW.out)).mono ?_
      rintro e x1 ⟨a1, as1, rfl, p1, hb⟩
      have HE1 : Hid (Below W0.heap.size W0 x1) := HWW.out.trans (hb.mono HWW.out.size)
      have PA1 : Hid (IsHosts x1 a1 as1 L1) := p1
      clear hb p1
      go_wp2_with (first | (refine wpList_load_box rfl 25 (.tmp 6) rfl w.heap.size rfl 25 (hcells h mv) _ (HX _ HE1.out) Try.underlying25 rfl sizeHost ?_) | fail)
      refine (KB _ (HL _ HE1.out) (HM _ HE1.out)).mono ?_
      rintro e x2 ⟨a2, as2, rfl, p1, hb⟩
      have HE2 : Hid (Below W0.heap.size W0 x2) := HE1.out.trans (hb.mono HE1.out.size)
      have PA2 : Hid (IsHosts x2 a1 as1 L1) := PA1.out.below hb
      have PB2 : Hid (IsHosts x2 a2 as2 L1) := p1
      clear hb p1
      go_wp2_with fail
      refine (KC _ (HL _ HE2.out)).mono ?_
      rintro e x3 ⟨a3, as3, rfl, p1, hb⟩
      have HE3 : Hid (Below W0.heap.size W0 x3) := HE2.out.trans (hb.mono HE2.out.size)
      have PA3 : Hid (IsHosts x3 a1 as1 L1) := PA2.out.below hb
      have PB3 : Hid (IsHosts x3 a2 as2 L1) := PB2.out.below hb
      have PC3 : Hid (IsHosts x3 a3 as3 L2) := p1
      clear hb p1
      go_wp2_with fail
      refine (KD _ (HL _ HE3.out)).mono ?_
      rintro e x4 ⟨a4, as4, rfl, p1, hb⟩
      have HE4 : Hid (Below W0.heap.size W0 x4) := HE3.out.trans (hb.mono HE3.out.size)
      have PA4 : Hid (IsHosts x4 a1 as1 L1) := PA3.out.below hb
      have PB4 : Hid (IsHosts x4 a2 as2 L1) := PB3.out.below hb
      have PC4 : Hid (IsHosts x4 a3 as3 L2) := PC3.out.below hb
      have PD4 : Hid (IsHosts x4 a4 as4 L2) := p1
      clear hb p1
      go_wp2_with fail
      refine (KE _ (HL _ HE4.out) (HT _ HE4.out)).mono ?_
      rintro e x5 ⟨⟨i1, i2, i3, rfl, p1, p2, p3⟩, hb⟩
      have HE5 : Hid (Below W0.heap.size W0 x5) := HE4.out.trans (hb.mono HE4.out.size)
      have PA5 : Hid (IsHosts x5 a1 as1 L1) := PA4.out.below hb
      have PB5 : Hid (IsHosts x5 a2 as2 L1) := PB4.out.below hb
      have PC5 : Hid (IsHosts x5 a3 as3 L2) := PC4.out.below hb
      have PD5 : Hid (IsHosts x5 a4 as4 L2) := PD4.out.below hb
      have I15 : Hid (IsInts x5 i1 C1) := p1
      have I25 : Hid (IsInts x5 i2 C2) := p2
      have I35 : Hid (IsInts x5 i3 C3) := p3
      clear hb p1 p2 p3
      go_wp2_with fail
      refine (KF _ (HL _ HE5.out) (HT _ HE5.out)).mono ?_
      rintro e x6 ⟨⟨j1, j2, j3, rfl, p1, p2, p3⟩, hb⟩
      have HE6 : Hid (Below W0.heap.size W0 x6) := HE5.out.trans (hb.mono HE5.out.size)
      have PA6 : Hid (IsHosts x6 a1 as1 L1) := PA5.out.below hb
      have PB6 : Hid (IsHosts x6 a2 as2 L1) := PB5.out.below hb
      have PC6 : Hid (IsHosts x6 a3 as3 L2) := PC5.out.below hb
      have PD6 : Hid (IsHosts x6 a4 as4 L2) := PD5.out.below hb
      have I16 : Hid (IsInts x6 i1 C1) := I15.out.below hb
      have I26 : Hid (IsInts x6 i2 C2) := I25.out.below hb
      have I36 : Hid (IsInts x6 i3 C3) := I35.out.below hb
      have J16 : Hid (IsInts x6 j1 C1) := p1
      have J26 : Hid (IsInts x6 j2 C2) := p2
      have J36 : Hid (IsInts x6 j3 C3) := p3
      clear hb p1 p2 p3
      go_wp2_with fail
      refine (same_true L1 _ _ _ _ _ PA6.out PB6.out).mono ?_
      rintro e x7 ⟨rfl, hb⟩
      have HE7 : Hid (Below W0.heap.size W0 x7) := HE6.out.trans (hb.mono HE6.out.size)
      have PA7 : Hid (IsHosts x7 a1 as1 L1) := PA6.out.below hb
      have PB7 : Hid (IsHosts x7 a2 as2 L1) := PB6.out.below hb
      have PC7 : Hid (IsHosts x7 a3 as3 L2) := PC6.out.below hb
      have PD7 : Hid (IsHosts x7 a4 as4 L2) := PD6.out.below hb
      have I17 : Hid (IsInts x7 i1 C1) := I16.out.below hb
      have I27 : Hid (IsInts x7 i2 C2) := I26.out.below hb
      have I37 : Hid (IsInts x7 i3 C3) := I36.out.below hb
      have J17 : Hid (IsInts x7 j1 C1) := J16.out.below hb
      have J27 : Hid (IsInts x7 j2 C2) := J26.out.below hb
      have J37 : Hid (IsInts x7 j3 C3) := J36.out.below hb
      clear hb
      go_wp2_with fail
      refine (same_true L2 _ _ _ _ _ PC7.out PD7.out).mono ?_
      rintro e x8 ⟨rfl, hb⟩
      have HE8 : Hid (Below W0.heap.size W0 x8) := HE7.out.trans (hb.mono HE7.out.size)
      have PA8 : Hid (IsHosts x8 a1 as1 L1) := PA7.out.below hb
      have PB8 : Hid (IsHosts x8 a2 as2 L1) := PB7.out.below hb
      have PC8 : Hid (IsHosts x8 a3 as3 L2) := PC7.out.below hb
      have PD8 : Hid (IsHosts x8 a4 as4 L2) := PD7.out.below hb
      have I18 : Hid (IsInts x8 i1 C1) := I17.out.below hb
      have I28 : Hid (IsInts x8 i2 C2) := I27.out.below hb
      have I38 : Hid (IsInts x8 i3 C3) := I37.out.below hb
      have J18 : Hid (IsInts x8 j1 C1) := J17.out.below hb
      have J28 : Hid (IsInts x8 j2 C2) := J27.out.below hb
      have J38 : Hid (IsInts x8 j3 C3) := J37.out.below hb
      clear hb
      go_wp2_with fail
      refine (ints_true C1 _ _ _ I18.out J18.out).mono ?_
      rintro e x9 ⟨rfl, hb⟩
      have HE9 : Hid (Below W0.heap.size W0 x9) := HE8.out.trans (hb.mono HE8.out.size)
      have PA9 : Hid (IsHosts x9 a1 as1 L1) := PA8.out.below hb
      have PB9 : Hid (IsHosts x9 a2 as2 L1) := PB8.out.below hb
      have PC9 : Hid (IsHosts x9 a3 as3 L2) := PC8.out.below hb
      have PD9 : Hid (IsHosts x9 a4 as4 L2) := PD8.out.below hb
      have I19 : Hid (IsInts x9 i1 C1) := I18.out.below hb
      have I29 : Hid (IsInts x9 i2 C2) := I28.out.below hb
      have I39 : Hid (IsInts x9 i3 C3) := I38.out.below hb
      have J19 : Hid (IsInts x9 j1 C1) := J18.out.below hb
      have J29 : Hid (IsInts x9 j2 C2) := J28.out.below hb
      have J39 : Hid (IsInts x9 j3 C3) := J38.out.below hb
      clear hb
      go_wp2_with fail
      refine (ints_true C2 _ _ _ I29.out J29.out).mono ?_
      rintro e x10 ⟨rfl, hb⟩
      have HE10 : Hid (Below W0.heap.size W0 x10) := HE9.out.trans (hb.mono HE9.out.size)
      have PA10 : Hid (IsHosts x10 a1 as1 L1) := PA9.out.below hb
      have PB10 : Hid (IsHosts x10 a2 as2 L1) := PB9.out.below hb
      have PC10 : Hid (IsHosts x10 a3 as3 L2) := PC9.out.below hb
      have PD10 : Hid (IsHosts x10 a4 as4 L2) := PD9.out.below hb
      have I110 : Hid (IsInts x10 i1 C1) := I19.out.below hb
      have I210 : Hid (IsInts x10 i2 C2) := I29.out.below hb
      have I310 : Hid (IsInts x10 i3 C3) := I39.out.below hb
      have J110 : Hid (IsInts x10 j1 C1) := J19.out.below hb
      have J210 : Hid (IsInts x10 j2 C2) := J29.out.below hb
      have J310 : Hid (IsInts x10 j3 C3) := J39.out.below hb
      clear hb
      go_wp2_with fail
      refine (ints_true C3 _ _ _ I310.out J310.out).mono ?_
      rintro e x11 ⟨rfl, hb⟩
      have HE11 : Hid (Below W0.heap.size W0 x11) := HE10.out.trans (hb.mono HE10.out.size)
      have PA11 : Hid (IsHosts x11 a1 as1 L1) := PA10.out.below hb
      have PB11 : Hid (IsHosts x11 a2 as2 L1) := PB10.out.below hb
      have PC11 : Hid (IsHosts x11 a3 as3 L2) := PC10.out.below hb
      have PD11 : Hid (IsHosts x11 a4 as4 L2) := PD10.out.below hb
      have I111 : Hid (IsInts x11 i1 C1) := I110.out.below hb
      have I211 : Hid (IsInts x11 i2 C2) := I210.out.below hb
      have I311 : Hid (IsInts x11 i3 C3) := I310.out.below hb
      have J111 : Hid (IsInts x11 j1 C1) := J110.out.below hb
      have J211 : Hid (IsInts x11 j2 C2) := J210.out.below hb
      have J311 : Hid (IsInts x11 j3 C3) := J310.out.below hb
      clear hb
      go_wp2_with fail
      refine (KG _ (HL _ HE11.out)).mono ?_
      rintro e x12 ⟨rfl, hb⟩
      have HE12 : Hid (Below W0.heap.size W0 x12) := HE11.out.trans (hb.mono HE11.out.size)
      have PA12 : Hid (IsHosts x12 a1 as1 L1) := PA11.out.below hb
      have PB12 : Hid (IsHosts x12 a2 as2 L1) := PB11.out.below hb
      have PC12 : Hid (IsHosts x12 a3 as3 L2) := PC11.out.below hb
      have PD12 : Hid (IsHosts x12 a4 as4 L2) := PD11.out.below hb
      have I112 : Hid (IsInts x12 i1 C1) := I111.out.below hb
      have I212 : Hid (IsInts x12 i2 C2) := I211.out.below hb
      have I312 : Hid (IsInts x12 i3 C3) := I311.out.below hb
      have J112 : Hid (IsInts x12 j1 C1) := J111.out.below hb
      have J212 : Hid (IsInts x12 j2 C2) := J211.out.below hb
      have J312 : Hid (IsInts x12 j3 C3) := J311.out.below hb
      clear hb
      go_wp2_with fail
      refine (KH _ (HL _ HE12.out)).mono ?_
      rintro e x13 ⟨rfl, hb⟩
      have HE13 : Hid (Below W0.heap.size W0 x13) := HE12.out.trans (hb.mono HE12.out.size)
      have PA13 : Hid (IsHosts x13 a1 as1 L1) := PA12.out.below hb
      have PB13 : Hid (IsHosts x13 a2 as2 L1) := PB12.out.below hb
      have PC13 : Hid (IsHosts x13 a3 as3 L2) := PC12.out.below hb
      have PD13 : Hid (IsHosts x13 a4 as4 L2) := PD12.out.below hb
      have I113 : Hid (IsInts x13 i1 C1) := I112.out.below hb
      have I213 : Hid (IsInts x13 i2 C2) := I212.out.below hb
      have I313 : Hid (IsInts x13 i3 C3) := I312.out.below hb
      have J113 : Hid (IsInts x13 j1 C1) := J112.out.below hb
      have J213 : Hid (IsInts x13 j2 C2) := J212.out.below hb
      have J313 : Hid (IsInts x13 j3 C3) := J312.out.below hb
      clear hb
      go_wp2_with fail
      refine (KI _ (HL _ HE13.out)).mono ?_
      rintro e x14 ⟨rfl, hb⟩
      have HE14 : Hid (Below W0.heap.size W0 x14) := HE13.out.trans (hb.mono HE13.out.size)
      have PA14 : Hid (IsHosts x14 a1 as1 L1) := PA13.out.below hb
      have PB14 : Hid (IsHosts x14 a2 as2 L1) := PB13.out.below hb
      have PC14 : Hid (IsHosts x14 a3 as3 L2) := PC13.out.below hb
      have PD14 : Hid (IsHosts x14 a4 as4 L2) := PD13.out.below hb
      have I114 : Hid (IsInts x14 i1 C1) := I113.out.below hb
      have I214 : Hid (IsInts x14 i2 C2) := I213.out.below hb
      have I314 : Hid (IsInts x14 i3 C3) := I313.out.below hb
      have J114 : Hid (IsInts x14 j1 C1) := J113.out.below hb
      have J214 : Hid (IsInts x14 j2 C2) := J213.out.below hb
      have J314 : Hid (IsInts x14 j3 C3) := J313.out.below hb
      clear hb
      go_wp2_with fail
      refine (KJ _ (HL _ HE14.out)).mono ?_
      rintro e x15 ⟨rfl, hb⟩
      have HE15 : Hid (Below W0.heap.size W0 x15) := HE14.out.trans (hb.mono HE14.out.size)
      have PA15 : Hid (IsHosts x15 a1 as1 L1) := PA14.out.below hb
      have PB15 : Hid (IsHosts x15 a2 as2 L1) := PB14.out.below hb
      have PC15 : Hid (IsHosts x15 a3 as3 L2) := PC14.out.below hb
      have PD15 : Hid (IsHosts x15 a4 as4 L2) := PD14.out.below hb
      have I115 : Hid (IsInts x15 i1 C1) := I114.out.below hb
      have I215 : Hid (IsInts x15 i2 C2) := I214.out.below hb
      have I315 : Hid (IsInts x15 i3 C3) := I314.out.below hb
      have J115 : Hid (IsInts x15 j1 C1) := J114.out.below hb
      have J215 : Hid (IsInts x15 j2 C2) := J214.out.below hb
      have J315 : Hid (IsInts x15 j3 C3) := J314.out.below hb
      clear hb
      go_wp2_with fail
      refine (awake8_any _).mono ?_
      rintro e x16 ⟨rfl, hb⟩
      have HE16 : Hid (Below W0.heap.size W0 x16) := HE15.out.trans (hb.mono HE15.out.size)
      have PA16 : Hid (IsHosts x16 a1 as1 L1) := PA15.out.below hb
      have PB16 : Hid (IsHosts x16 a2 as2 L1) := PB15.out.below hb
      have PC16 : Hid (IsHosts x16 a3 as3 L2) := PC15.out.below hb
      have PD16 : Hid (IsHosts x16 a4 as4 L2) := PD15.out.below hb
      have I116 : Hid (IsInts x16 i1 C1) := I115.out.below hb
      have I216 : Hid (IsInts x16 i2 C2) := I215.out.below hb
      have I316 : Hid (IsInts x16 i3 C3) := I315.out.below hb
      have J116 : Hid (IsInts x16 j1 C1) := J115.out.below hb
      have J216 : Hid (IsInts x16 j2 C2) := J215.out.below hb
      have J316 : Hid (IsInts x16 j3 C3) := J315.out.below hb
      clear hb
      go_wp2
      go_ret
      exact ⟨rfl, HB0.out.trans (HE16.out.mono HB0.out.size)⟩


set_option maxRecDepth 100000 in
theorem lifted_TableForms (os : Os) (started : os.Started) (H : Type) (enc : TypeId × Value → H) :
    ReturnsInHanded {} Try.checked os 3 .any (Rows.tableFormsSpec.pre6 enc Try.prog Try.f3 Rows.tableFormsRow.domain false) (Rows.tableFormsSpec.post enc Try.prog Try.f3 false true false false) := by
  refine returnsInHanded_of_change_sized (C := Try.checked) own started (by kernel_rfl) Try.func3
    (ChangeSpec.witness6 (enc := enc) (C := Try.checked) false ⟨#[], #[.slice none 0 0, .slice none 0 0, .agg #[.int .i64 0, .string ByteArray.empty, .int .i64 0, .string ByteArray.empty, .int .i64 0, .slice none 0 0], .int .i64 0], []⟩ 8 (by kernel_rfl) (by kernel_rfl) (by kernel_rfl) (by kernel_rfl)) ?_
  intro W base args ds gs before hval0 hW hcnd hsz0 hholds
  have hval : ∀ (j : Nat) t v, Try.f3.params[j]? = some t → args[j]? = some v → Value.okWide Try.prog W .any base t v := hval0
  have hW' := hW
  obtain ⟨p, q, hA0, hV, rfl, hfz, hnd⟩ := hW
  have hA : DataW.TrodAll enc Try.prog W 0 (fun _ => true) true Try.f3.params.toList args.toList ds p := hA0
  have hsz : (DataW.weightsEach Try.prog (Try.f3.params.toList ++ Rows.tableFormsSpec.plain.varTypes Try.prog) (ds ++ gs)).all (· ≤ reachBytes) = true := hsz0
  rw [Try.params3] at hA hval hsz
  obtain ⟨v0, vs0, d0, ds0, p0, q0, hargs, rfl, rfl, h0, r0⟩ := trodAll_cons hA
  obtain ⟨v1, vs1, d1, ds1, p1, q1, rfl, rfl, rfl, h1, r1⟩ := trodAll_cons r0
  obtain ⟨v2, vs2, d2, ds2, p2, q2, rfl, rfl, rfl, h2, r2⟩ := trodAll_cons r1
  obtain ⟨v3, vs3, d3, ds3, p3, q3, rfl, rfl, rfl, h3, r3⟩ := trodAll_cons r2
  obtain ⟨rfl, rfl, rfl⟩ := trodAll_nil r3
  obtain rfl : args = #[v0, v1, v2, v3] := by cases args; simp_all
  obtain ⟨rfl, rfl⟩ := trodVars_none hV
  have k0 := h0
  have lt0 : ∀ x ∈ p0, x.block < W.heap.size := by obtain ⟨m, hm⟩ := k0; exact DataW.trod_lt m _ _ _ hm
  obtain ⟨us0, c0, w0, i0⟩ := open_hosts (hval 0 22 v0 rfl rfl) h0
  have k1 := h1
  have lt1 : ∀ x ∈ p1, x.block < W.heap.size := by obtain ⟨m, hm⟩ := k1; exact DataW.trod_lt m _ _ _ hm
  obtain ⟨us1, c1, w1, i1⟩ := open_hosts (hval 1 22 v1 rfl rfl) h1
  have k2 := h2
  have lt2 : ∀ x ∈ p2, x.block < W.heap.size := by obtain ⟨m, hm⟩ := k2; exact DataW.trod_lt m _ _ _ hm
  obtain ⟨c2, m2, dm2, rfl, o2, i2, w2, rfl, x2⟩ := open_host (hval 2 25 v2 rfl rfl) h2
  have z2 : c2.tags.length ≤ 4398046510976 := sized_host hsz (j := 2) rfl rfl x2
  obtain ⟨a3, rfl, rfl, rfl, w3⟩ := open_int Try.underlying3 (hval 3 3 v3 rfl rfl) h3
  clear hA0 hval0
  refine (walk_TableForms c0 v0 us0 i0 c1 v1 us1 i1 c2 m2 o2 i2 z2 a3 (wf_i64 w3) W w0 w1 w2).mono fun e W' ⟨he, bel⟩ => ?_
  subst he
  exact ⟨_, rfl, _, _, _, [], _, [], hW', trodAll_mk1 (shut_bool Try.underlying4 _), (trodAll_cons_mk (Below.trod laidOut (by kernel_rfl) (of_decide_eq_true (by kernel_rfl)) k0 bel lt0) (trodAll_cons_mk (Below.trod laidOut (by kernel_rfl) (of_decide_eq_true (by kernel_rfl)) k1 bel lt1) (trodAll_cons_mk (Below.trod laidOut (by kernel_rfl) (of_decide_eq_true (by kernel_rfl)) k2 bel lt2) (trodAll_cons_mk (shut_int Try.underlying3 w3) trodAll_mk0)))), rfl, bel.frame _, fun h => by cases h⟩

theorem over_TableForms : Rows.tableFormsRow.holds Try.pinned (OpenSpec.ofChange Rows.tableFormsSpec) :=
  OpenClaim.holds_of_wide 3 Try.f3 rfl rfl rfl rfl rfl rfl rfl ⟨rfl, rfl, rfl, rfl, rfl⟩ rfl rfl rfl rfl rfl (by kernel_rfl) Try.func3 (by kernel_rfl)
    (of_decide_eq_true (by kernel_rfl)) (by unfold Func.isWrapper; first | (rw [if_pos (by decide +kernel)]; kernel_rfl) | (rw [if_neg (by decide +kernel)]; exact ⟨rfl, rfl⟩))
    (fun os started H enc _ => lifted_TableForms os started H enc)

/-- The statement. -/
theorem tableForms_holds : Rows.TableFormsSaid := over_TableForms
#print axioms tableForms_holds

end Go.Proofs.Ytcafjjfaamjipaa

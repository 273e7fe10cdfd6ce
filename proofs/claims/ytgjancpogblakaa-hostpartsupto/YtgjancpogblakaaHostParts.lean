/-
  HostParts, for every host and any two rows of pairs that are together of bulk at most 1048576: who has a subset has each part of it, and who has each of two has both.
-/
import Derived.Test.YtgjancpogblakaaHostUpto
namespace Go.Proofs.Ytgjancpogblakaa
open Go.ChangeShapes Go.WideShapes Go.ChangeAt Go.RowKit

theorem hasPairs_append (ps l m : List PairT) : hasPairs ps (l ++ m) = (hasPairs ps l && hasPairs ps m) := by unfold hasPairs; rw [List.all_append]
theorem hasPairs_self (ps : List PairT) : hasPairs ps ps = true := hasPairs_end fun _ hp => hp
theorem has_each {ps l : List PairT} {k : Nat} (h : hasPairs ps l = true) (hk : k < l.length) : hasPairs ps [l.getD k noP] = true := by
  unfold hasPairs at h ⊢
  rw [List.all_eq_true] at h
  rw [List.getD_eq_getElem?_getD, List.getElem?_eq_getElem hk, Option.getD_some]
  simpa using h _ (List.getElem_mem hk)

set_option maxRecDepth 100000 in
set_option maxHeartbeats 8000000 in
theorem walk_HostParts (h : HostT) (mv : Value) (_ : okHost h) (_ : inI h.id ∧ inI h.prio ∧ inI h.weight) (l : List PairT) (lv : Value) (m : List PairT) (nv : Value) (w : World) (hm : IsPairs w mv h.tags) (hl : IsPairs w lv l) (hn : IsPairs w nv m) (hlen : l.length + m.length ≤ 1048576) :
    Calls Try.prog 4 #[hval h mv, lv, nv] w fun e w' => e = .returned (.bool true) ∧ Below w.heap.size w w' := by
  obtain ⟨mo, mc, rfl⟩ := hm.shaped
  obtain ⟨lo, lc, rfl⟩ := hl.shaped
  obtain ⟨no, nc, rfl⟩ := hn.shaped
  obtain ⟨i0, hi, hz0, hz1, hz2⟩ := info_of infoPair
  have hll : l.length ≤ 9223372036854775807 := by omega
  have HM0 : Hid (IsPairs w (.slice mo h.tags.length mc) h.tags) := hm
  have HL0 : Hid (IsPairs w (.slice lo l.length lc) l) := hl
  have HN0 : Hid (IsPairs w (.slice no m.length nc) m) := hn
  have L0 := fun W H => light_any h (.slice mo h.tags.length mc) W H
  have L1 := fun W H => light_any ⟨0, ByteArray.empty, 0, ByteArray.empty, 0, l⟩ (.slice lo l.length lc) W H
  have L2 := fun W H => light_any ⟨0, ByteArray.empty, 0, ByteArray.empty, 0, m⟩ (.slice no m.length nc) W H
  have KB0 := fun v W a b => has_any h (l ++ m) (.slice mo h.tags.length mc) v W a b
  have KL := fun W a b => has_any h l (.slice mo h.tags.length mc) (.slice lo l.length lc) W a b
  have KN := fun W a b => has_any h m (.slice mo h.tags.length mc) (.slice no m.length nc) W a b
  have KM := fun W a b => has_any h h.tags (.slice mo h.tags.length mc) (.slice mo h.tags.length mc) W a b
  have KZ0 := fun W a b => has_any h [] (.slice mo h.tags.length mc) nilW W a b
  have KO : ∀ W x y (u v : Value), hasPairs h.tags [(x, y)] = true → IsPairs W u h.tags → IsPairs W v [(x, y)] → Calls Try.prog 14 #[hval h u, v] W fun e w' => e = .returned (.bool true) ∧ Below W.heap.size W w' := fun W x y u v hq a b => by
    have := has_any h [(x, y)] u v W a b
    rwa [hq] at this
  rw [hasPairs_append] at KB0
  rw [hasPairs_self] at KM
  have KZ : ∀ W, IsPairs W (.slice mo h.tags.length mc) h.tags → Calls Try.prog 14 #[hval h (.slice mo h.tags.length mc), nilW] W fun e w' => e = .returned (.bool true) ∧ Below W.heap.size W w' := fun W a => by
    have := KZ0 W a (isPairs_nil W)
    rwa [show hasPairs h.tags [] = true from rfl] at this
  obtain ⟨q2, hq2⟩ : ∃ q, hasPairs h.tags m = q := ⟨_, rfl⟩
  rw [hq2] at KB0 KN
  clear hm hl hn KZ0 hq2
  go_enter Try.func4, Try.ntmps4
  go_wp2_with fail
  refine (L0 _ (HM0.out.below ((Below.refl _ _).alloc (Nat.le_refl _) _))).mono ?_
  rintro e w1 ⟨r0, hr0, rfl, hb⟩
  have HX1 : Hid (HasBox w1 w.heap.size 24 (hcells h (.slice mo h.tags.length mc))) := (hasBox_new w _ _).below hb
  have HB1 : Hid (Below w.heap.size w w1) := ((Below.refl _ _).alloc (Nat.le_refl _) _).trans (hb.mono (by simp))
  clear hb L0
  go_wp2_with fail
  refine (L1 _ (HL0.out.below HB1.out)).mono ?_
  rintro e w2 ⟨r1, hr1, rfl, hb⟩
  have HX2 : Hid (HasBox w2 w.heap.size 24 (hcells h (.slice mo h.tags.length mc))) := HX1.out.below hb
  have HB2 : Hid (Below w.heap.size w w2) := HB1.out.trans (hb.mono HB1.out.size)
  clear hb L1 HX1 HB1
  go_wp2_with fail
  refine (L2 _ (HN0.out.below HB2.out)).mono ?_
  rintro e w3 ⟨r2, hr2, rfl, hb⟩
  have HX3 : Hid (HasBox w3 w.heap.size 24 (hcells h (.slice mo h.tags.length mc))) := HX2.out.below hb
  have HB3 : Hid (Below w.heap.size w w3) := HB2.out.trans (hb.mono HB2.out.size)
  clear hb L2 HX2 HB2
  obtain ⟨r, e2⟩ : ∃ r : Int, wrap64 (wrap64 (r0 + r1) + r2) = r := ⟨_, rfl⟩
  clear hr0 hr1 hr2
  by_cases hpos : 0 < r
  · go_wp2_with fail
    refine (awake_any _).mono ?_
    rintro e w4 ⟨rfl, hb⟩
    have HB4 : Hid (Below w.heap.size w w4) := HB3.out.trans (hb.mono HB3.out.size)
    clear hb
    go_wp2
    go_ret
    exact ⟨rfl, HB4.out⟩
  have HLW := fun o => HL0.out.below (HB3.out.alloc HB3.out.size o)
  go_wp2_with (at_builtin; refine wpList_append_row rfl (.tmp 22) (.tmp 23) 22 rfl w3.heap.size 34 i0 _ 2 32 Try.underlying22 hi hz0 hz1 hz2 rfl (by decide) _ 0 _ rfl (own_empty w3 _ 2 _ (Nat.le_refl _)) _ l.length (pairCells l) rfl (HLW _).2 (pairCells_one _) (by unfold maxLen; omega) (by omega) (by simp) ?_)
  intro v1 w4 hown hgrow hat
  obtain ⟨vo, vc, rfl⟩ := (isRow_own hown).shaped
  have HO4 : Hid (w4.ownsRow w3.heap.size 34 2 (.slice vo l.length vc) l.length (pairCells l)) := hown
  have HB4 : Hid (Below w3.heap.size w3 w4) := ((Below.refl _ _).alloc (Nat.le_refl _) _).grown hgrow (by simp) (fun q hq => by simp [Value.ownBlock] at hq; omega)
  have HNW : Hid (IsPairs w4 (.slice no m.length nc) m) := (HN0.out.below HB3.out).below HB4.out
  clear hown hgrow hat HLW
  go_wp2_with (at_builtin; refine wpList_append_row rfl (.tmp 24) (.tmp 25) 22 rfl w3.heap.size 34 i0 _ 2 32 Try.underlying22 hi hz0 hz1 hz2 rfl (by decide) _ l.length _ rfl HO4.out _ m.length (pairCells m) rfl HNW.out.2 (pairCells_one _) (by unfold maxLen; omega) (by omega) HB4.out.size ?_)
  intro v2 w5 hown hgrow hat
  rw [← pairCells_append] at hown
  obtain ⟨bo, bc, rfl⟩ := (isRow_own hown).shaped
  have HBB : Hid (Below w3.heap.size w3 w5) := HB4.out.grown hgrow HB4.out.size (own_base HO4.out)
  have hBo : IsPairs w5 (.slice bo (l.length + m.length) bc) (l ++ m) := own_pairs hown (by rw [List.length_append]) (fun p hp => (List.mem_append.1 hp).elim (HL0.out.1 p) (HN0.out.1 p))
  have HB5 : Hid (Below w.heap.size w w5) := HB3.out.trans (HBB.out.mono HB3.out.size)
  clear hown hgrow hat HO4 HB4 HNW
  go_wp2
  have hX5 : HasBox w5 w.heap.size 24 (hcells h (.slice mo h.tags.length mc)) := HX3.out.below HBB.out
  have HX : ∀ W, Below w5.heap.size w5 W → HasBox W w.heap.size 24 (hcells h (.slice mo h.tags.length mc)) := fun W q => hX5.below q
  have HM : ∀ W, Below w5.heap.size w5 W → IsPairs W (.slice mo h.tags.length mc) h.tags := fun W q => HM0.out.below (HB5.out.trans (q.mono HB5.out.size))
  have HL : ∀ W, Below w5.heap.size w5 W → IsPairs W (.slice lo l.length lc) l := fun W q => HL0.out.below (HB5.out.trans (q.mono HB5.out.size))
  have HN : ∀ W, Below w5.heap.size w5 W → IsPairs W (.slice no m.length nc) m := fun W q => HN0.out.below (HB5.out.trans (q.mono HB5.out.size))
  have HBo : ∀ W, Below w5.heap.size w5 W → IsPairs W (.slice bo (l.length + m.length) bc) (l ++ m) := fun W q => hBo.below q
  have KB := fun W a b => KB0 (.slice bo (l.length + m.length) bc) W a b
  clear hX5 hBo KB0 HX3 HB3 HBB e2
  cases hq : hasPairs h.tags l with
  | true =>
    have hq1 : Hid (hasPairs h.tags l = true) := hq
    rw [hq] at KL KB
    rw [Bool.true_and] at KB
    clear hq
    refine wp_region_mp ([eqP (hval h (.slice mo h.tags.length mc)), eqP (.slice bo (l.length + m.length) bc), eqP (.bool q2), eqP (hval h (.slice mo h.tags.length mc)), eqP (.slice lo l.length lc), eqP (.bool true), eqP (.bool true), eqP (hval h (.slice mo h.tags.length mc)), eqP (.slice no m.length nc), eqP (.bool q2), eqP (.bool q2), eqP (.bool false), eqP (.bool false), eqP (hval h (.slice mo h.tags.length mc)), eqP (.pointer (some ⟨w.heap.size, 5, none⟩)), eqP (.slice mo h.tags.length mc), eqP (.bool true), eqP (.bool false), eqP (.bool false), eqP (.bool false), eqP (hval h (.slice mo h.tags.length mc)), eqP (.bool true), eqP (.bool false), eqP (.bool false)]) (by kernel_rfl) (by kernel_rfl) ?_ ?_
    · simp only [stepsAll3]
      refine ⟨fun a W hF hE hd => ?_, fun a W hF hE hd => ?_, fun a W hF hE hd => ?_, fun a W hF hE hd => ?_, fun a W hF hE hd => ?_, fun a W hF hE hd => ?_, fun a W hF hE hd => ?_, fun a W hF hE hd => ?_, fun a W hF hE hd => ?_, fun a W hF hE hd => ?_, fun a W hF hE hd => ?_, fun a W hF hE hd => ?_, fun a W hF hE hd => ?_, fun a W hF hE hd => ?_, fun a W hF hE hd => ?_, fun a W hF hE hd => ?_, fun a W hF hE hd => ?_, fun a W hF hE hd => ?_, fun a W hF hE hd => ?_, fun a W hF hE hd => ?_, fun a W hF hE hd => ?_, fun a W hF hE hd => ?_, fun a W hF hE hd => ?_, fun a W hF hE hd => ?_, trivial⟩
      all_goals unfold StepAt
      · have t3 : a.tmps.getD 3 undef = .pointer (some ⟨w.heap.size, 0, none⟩) := hF.at 3 (by kernel_rfl)
        rw [Array.getD_eq_getD_getElem?] at t3
        refine .inl ⟨rfl, ?_⟩
        rw [run_obox _ _ 24 (.tmp 3) rfl (w.heap.size) (by simpa [Act.eval] using t3) 24 (hcells h (.slice mo h.tags.length mc)) _ (HX W hE) Try.underlying24 rfl sizeHost]
        exact ⟨Below.refl _ _, rfl⟩
      · have t7 : a.tmps.getD 7 undef = .slice bo (l.length + m.length) bc := hF.at 7 (by kernel_rfl)
        rw [Array.getD_eq_getD_getElem?] at t7
        refine .inl ⟨rfl, ?_⟩
        go_simp
        exact ⟨Below.refl _ _, rfl⟩
      · have t27 : a.tmps.getD 27 undef = hval h (.slice mo h.tags.length mc) := hd { on := 0, ground := .data } (by simp) rfl
        rw [Array.getD_eq_getD_getElem?] at t27
        have t28 : a.tmps.getD 28 undef = .slice bo (l.length + m.length) bc := hd { on := 1, ground := .data } (by simp) rfl
        rw [Array.getD_eq_getD_getElem?] at t28
        refine .inl ⟨rfl, ?_⟩
        go_simp
        exact (KB W (HM W hE) (HBo W hE)).mono fun e w2 h => ⟨_, h.1, h.2, rfl⟩
      · have t3 : a.tmps.getD 3 undef = .pointer (some ⟨w.heap.size, 0, none⟩) := hF.at 3 (by kernel_rfl)
        rw [Array.getD_eq_getD_getElem?] at t3
        refine .inl ⟨rfl, ?_⟩
        rw [run_obox _ _ 24 (.tmp 3) rfl (w.heap.size) (by simpa [Act.eval] using t3) 24 (hcells h (.slice mo h.tags.length mc)) _ (HX W hE) Try.underlying24 rfl sizeHost]
        exact ⟨Below.refl _ _, rfl⟩
      · have t1 : a.tmps.getD 1 undef = .slice lo l.length lc := hF.at 1 (by kernel_rfl)
        rw [Array.getD_eq_getD_getElem?] at t1
        refine .inl ⟨rfl, ?_⟩
        go_simp
        exact ⟨Below.refl _ _, rfl⟩
      · have t30 : a.tmps.getD 30 undef = hval h (.slice mo h.tags.length mc) := hd { on := 3, ground := .data } (by simp) rfl
        rw [Array.getD_eq_getD_getElem?] at t30
        have t31 : a.tmps.getD 31 undef = .slice lo l.length lc := hd { on := 4, ground := .data } (by simp) rfl
        rw [Array.getD_eq_getD_getElem?] at t31
        refine .inl ⟨rfl, ?_⟩
        go_simp
        exact (KL W (HM W hE) (HL W hE)).mono fun e w2 h => ⟨_, h.1, h.2, rfl⟩
      · have t32 : a.tmps.getD 32 undef = .bool true := hd { on := 5, ground := .data } (by simp) rfl
        rw [Array.getD_eq_getD_getElem?] at t32
        refine .inl ⟨rfl, ?_⟩
        go_simp
        exact ⟨Below.refl _ _, rfl⟩
      · have t3 : a.tmps.getD 3 undef = .pointer (some ⟨w.heap.size, 0, none⟩) := hF.at 3 (by kernel_rfl)
        rw [Array.getD_eq_getD_getElem?] at t3
        have g33 : a.eval (.tmp 33) = .bool true := hd { on := 6, ground := .guard } (by simp) rfl
        refine .inl ⟨(by simp only [Region.wanted]; rw [yielded_of (d := 33) (by rfl) g33]; rfl), ?_⟩
        clear g33
        rw [run_obox _ _ 24 (.tmp 3) rfl (w.heap.size) (by simpa [Act.eval] using t3) 24 (hcells h (.slice mo h.tags.length mc)) _ (HX W hE) Try.underlying24 rfl sizeHost]
        exact ⟨Below.refl _ _, rfl⟩
      · have t2 : a.tmps.getD 2 undef = .slice no m.length nc := hF.at 2 (by kernel_rfl)
        rw [Array.getD_eq_getD_getElem?] at t2
        have g33 : a.eval (.tmp 33) = .bool true := hd { on := 6, ground := .guard } (by simp) rfl
        refine .inl ⟨(by simp only [Region.wanted]; rw [yielded_of (d := 33) (by rfl) g33]; rfl), ?_⟩
        clear g33
        go_simp
        exact ⟨Below.refl _ _, rfl⟩
      · have t34 : a.tmps.getD 34 undef = hval h (.slice mo h.tags.length mc) := hd { on := 7, ground := .data } (by simp) rfl
        rw [Array.getD_eq_getD_getElem?] at t34
        have t35 : a.tmps.getD 35 undef = .slice no m.length nc := hd { on := 8, ground := .data } (by simp) rfl
        rw [Array.getD_eq_getD_getElem?] at t35
        have g33 : a.eval (.tmp 33) = .bool true := hd { on := 6, ground := .guard } (by simp) rfl
        refine .inl ⟨(by simp only [Region.wanted]; rw [yielded_of (d := 33) (by rfl) g33]; rfl), ?_⟩
        clear g33
        go_simp
        exact (KN W (HM W hE) (HN W hE)).mono fun e w2 h => ⟨_, h.1, h.2, rfl⟩
      · have t33 : a.tmps.getD 33 undef = .bool true := hd { on := 6, ground := .data } (by simp) rfl
        rw [Array.getD_eq_getD_getElem?] at t33
        have t36 : a.tmps.getD 36 undef = .bool q2 := hd { on := 9, ground := .data } (by simp) rfl
        rw [Array.getD_eq_getD_getElem?] at t36
        refine .inl ⟨rfl, ?_⟩
        go_simp
        exact ⟨Below.refl _ _, rfl⟩
      · have t29 : a.tmps.getD 29 undef = .bool q2 := hd { on := 2, ground := .data } (by simp) rfl
        rw [Array.getD_eq_getD_getElem?] at t29
        have t37 : a.tmps.getD 37 undef = .bool q2 := hd { on := 10, ground := .data } (by simp) rfl
        rw [Array.getD_eq_getD_getElem?] at t37
        refine .inl ⟨rfl, ?_⟩
        go_simp
        exact ⟨Below.refl _ _, rfl⟩
      · have t38 : a.tmps.getD 38 undef = .bool false := hd { on := 11, ground := .data } (by simp) rfl
        rw [Array.getD_eq_getD_getElem?] at t38
        refine .inl ⟨rfl, ?_⟩
        go_simp
        exact ⟨Below.refl _ _, rfl⟩
      · have t3 : a.tmps.getD 3 undef = .pointer (some ⟨w.heap.size, 0, none⟩) := hF.at 3 (by kernel_rfl)
        rw [Array.getD_eq_getD_getElem?] at t3
        have g39 : a.eval (.tmp 39) = .bool false := hd { on := 12, ground := .guard } (by simp) rfl
        refine .inl ⟨(by simp only [Region.wanted]; rw [yielded_of (d := 39) (by rfl) g39]; rfl), ?_⟩
        clear g39
        rw [run_obox _ _ 24 (.tmp 3) rfl (w.heap.size) (by simpa [Act.eval] using t3) 24 (hcells h (.slice mo h.tags.length mc)) _ (HX W hE) Try.underlying24 rfl sizeHost]
        exact ⟨Below.refl _ _, rfl⟩
      · have t3 : a.tmps.getD 3 undef = .pointer (some ⟨w.heap.size, 0, none⟩) := hF.at 3 (by kernel_rfl)
        rw [Array.getD_eq_getD_getElem?] at t3
        have g39 : a.eval (.tmp 39) = .bool false := hd { on := 12, ground := .guard } (by simp) rfl
        refine .inl ⟨(by simp only [Region.wanted]; rw [yielded_of (d := 39) (by rfl) g39]; rfl), ?_⟩
        clear g39
        go_simp
        exact ⟨Below.refl _ _, rfl⟩
      · have t41 : a.tmps.getD 41 undef = .pointer (some ⟨w.heap.size, 5, none⟩) := hd { on := 14, ground := .data } (by simp) rfl
        rw [Array.getD_eq_getD_getElem?] at t41
        have g39 : a.eval (.tmp 39) = .bool false := hd { on := 12, ground := .guard } (by simp) rfl
        refine .inl ⟨(by simp only [Region.wanted]; rw [yielded_of (d := 39) (by rfl) g39]; rfl), ?_⟩
        clear g39
        have c5 : W.cell? ⟨w.heap.size, 5, none⟩ = some (.slice mo h.tags.length mc) := (HX W hE).cell 5
        go_simp
        exact ⟨Below.refl _ _, rfl⟩
      · have t40 : a.tmps.getD 40 undef = hval h (.slice mo h.tags.length mc) := hd { on := 13, ground := .data } (by simp) rfl
        rw [Array.getD_eq_getD_getElem?] at t40
        have t42 : a.tmps.getD 42 undef = .slice mo h.tags.length mc := hd { on := 15, ground := .data } (by simp) rfl
        rw [Array.getD_eq_getD_getElem?] at t42
        have g39 : a.eval (.tmp 39) = .bool false := hd { on := 12, ground := .guard } (by simp) rfl
        refine .inl ⟨(by simp only [Region.wanted]; rw [yielded_of (d := 39) (by rfl) g39]; rfl), ?_⟩
        clear g39
        go_simp
        exact (KM W (HM W hE) (HM W hE)).mono fun e w2 h => ⟨_, h.1, h.2, rfl⟩
      · have t43 : a.tmps.getD 43 undef = .bool true := hd { on := 16, ground := .data } (by simp) rfl
        rw [Array.getD_eq_getD_getElem?] at t43
        have g39 : a.eval (.tmp 39) = .bool false := hd { on := 12, ground := .guard } (by simp) rfl
        refine .inl ⟨(by simp only [Region.wanted]; rw [yielded_of (d := 39) (by rfl) g39]; rfl), ?_⟩
        clear g39
        go_simp
        exact ⟨Below.refl _ _, rfl⟩
      · have t39 : a.tmps.getD 39 undef = .bool false := hd { on := 12, ground := .data } (by simp) rfl
        rw [Array.getD_eq_getD_getElem?] at t39
        have t44 : a.tmps.getD 44 undef = .bool false := hd { on := 17, ground := .data } (by simp) rfl
        rw [Array.getD_eq_getD_getElem?] at t44
        refine .inl ⟨rfl, ?_⟩
        go_simp
        exact ⟨Below.refl _ _, rfl⟩
      · have t45 : a.tmps.getD 45 undef = .bool false := hd { on := 18, ground := .data } (by simp) rfl
        rw [Array.getD_eq_getD_getElem?] at t45
        refine .inl ⟨rfl, ?_⟩
        go_simp
        exact ⟨Below.refl _ _, rfl⟩
      · have t3 : a.tmps.getD 3 undef = .pointer (some ⟨w.heap.size, 0, none⟩) := hF.at 3 (by kernel_rfl)
        rw [Array.getD_eq_getD_getElem?] at t3
        have g46 : a.eval (.tmp 46) = .bool false := hd { on := 19, ground := .guard } (by simp) rfl
        refine .inl ⟨(by simp only [Region.wanted]; rw [yielded_of (d := 46) (by rfl) g46]; rfl), ?_⟩
        clear g46
        rw [run_obox _ _ 24 (.tmp 3) rfl (w.heap.size) (by simpa [Act.eval] using t3) 24 (hcells h (.slice mo h.tags.length mc)) _ (HX W hE) Try.underlying24 rfl sizeHost]
        exact ⟨Below.refl _ _, rfl⟩
      · have t47 : a.tmps.getD 47 undef = hval h (.slice mo h.tags.length mc) := hd { on := 20, ground := .data } (by simp) rfl
        rw [Array.getD_eq_getD_getElem?] at t47
        have g46 : a.eval (.tmp 46) = .bool false := hd { on := 19, ground := .guard } (by simp) rfl
        refine .inl ⟨(by simp only [Region.wanted]; rw [yielded_of (d := 46) (by rfl) g46]; rfl), ?_⟩
        clear g46
        go_simp
        exact (KZ W (HM W hE)).mono fun e w2 h => ⟨_, h.1, h.2, rfl⟩
      · have t48 : a.tmps.getD 48 undef = .bool true := hd { on := 21, ground := .data } (by simp) rfl
        rw [Array.getD_eq_getD_getElem?] at t48
        have g46 : a.eval (.tmp 46) = .bool false := hd { on := 19, ground := .guard } (by simp) rfl
        refine .inl ⟨(by simp only [Region.wanted]; rw [yielded_of (d := 46) (by rfl) g46]; rfl), ?_⟩
        clear g46
        go_simp
        exact ⟨Below.refl _ _, rfl⟩
      · have t46 : a.tmps.getD 46 undef = .bool false := hd { on := 19, ground := .data } (by simp) rfl
        rw [Array.getD_eq_getD_getElem?] at t46
        have t49 : a.tmps.getD 49 undef = .bool false := hd { on := 22, ground := .data } (by simp) rfl
        rw [Array.getD_eq_getD_getElem?] at t49
        refine .inl ⟨rfl, ?_⟩
        go_simp
        exact ⟨Below.refl _ _, rfl⟩
    · intro vs W hE hV
      have h23 : vs 23 = .bool false := hV 23 (by decide)
      have HWW : Hid (Below w5.heap.size w5 W) := hE
      have HBf : Hid (Below w.heap.size w W) := HB5.out.trans (hE.mono HB5.out.size)
      clear hV hE
      simp only [putsV, dstsV, List.foldl, h23, Act.put, List.setIfInBounds_toArray, List.set_cons_succ, List.set_cons_zero]
      clear h23
      generalize vs 0 = y0
      generalize vs 1 = y1
      generalize vs 2 = y2
      generalize vs 3 = y3
      generalize vs 4 = y4
      generalize vs 5 = y5
      generalize vs 6 = y6
      generalize vs 7 = y7
      generalize vs 8 = y8
      generalize vs 9 = y9
      generalize vs 10 = y10
      generalize vs 11 = y11
      generalize vs 12 = y12
      generalize vs 13 = y13
      generalize vs 14 = y14
      generalize vs 15 = y15
      generalize vs 16 = y16
      generalize vs 17 = y17
      generalize vs 18 = y18
      generalize vs 19 = y19
      generalize vs 20 = y20
      generalize vs 21 = y21
      generalize vs 22 = y22
      refine ‹∀ (a : Act) (w : World), Code.wp Try.prog (Code.cond _ _ _) _ a w → _› _ _ ?_
      have HX6 : Hid (HasBox W w.heap.size 24 (hcells h (.slice mo h.tags.length mc))) := HX W HWW.out
      have HM6 : Hid (IsPairs W (.slice mo h.tags.length mc) h.tags) := HM W HWW.out
      have HL6 : Hid (IsPairs W (.slice lo l.length lc) l) := HL W HWW.out
      clear HX HM HL HN HBo HWW HB5
      go_wp2
      go_loopw [9, 53] (fun _ i wr => ∃ k : Nat, k ≤ l.length ∧ i = .int .i64 k ∧ Below W.heap.size W wr) (fun _ i _ => l.length - (intOf i).toNat)
      case atStart => exact ⟨0, Nat.zero_le _, rfl, Below.refl _ _⟩
      case round =>
        obtain ⟨k, hk, rfl, hb⟩ := hrel
        have HB : Hid (Below W.heap.size W wr) := hb
        clear hb
        by_cases hlt : k < l.length
        · obtain ⟨b1, o1, rfl, hbl1, g1, g2⟩ := (HL6.out.below HB.out).at k hlt
          have HXr : Hid (HasBox wr w.heap.size 24 (hcells h (.slice mo h.tags.length mc))) := HX6.out.below HB.out
          have HMr : Hid (IsPairs wr (.slice mo h.tags.length mc) h.tags) := HM6.out.below HB.out
          have HLr : Hid (IsPairs wr (.slice (some ⟨b1, o1, none⟩) l.length lc) l) := HL6.out.below HB.out
          have HPk : Hid (hasPairs h.tags [l.getD k noP] = true) := has_each hq1.out hlt
          have HOk : Hid (okPair (l.getD k noP)) := HLr.out.ok k hlt
          generalize l.getD k noP = pq at g1 g2 HPk HOk
          obtain ⟨x, y⟩ := pq
          simp only at g1 g2
          have HF := fun o => HXr.out.alloc o
          have HFm := fun o => HMr.out.below ((Below.refl _ _).alloc (Nat.le_refl _) o)
          have HFl := fun o => HLr.out.below ((Below.refl _ _).alloc (Nat.le_refl _) o)
          go_wp2_with (first | (refine wpList_load_box rfl 24 (.tmp 3) rfl w.heap.size rfl 24 _ _ (HF _) Try.underlying24 rfl sizeHost ?_) | fail)
          refine (KL _ (HFm _) (HFl _)).mono ?_
          rintro e w7 ⟨rfl, hb⟩
          have HX7 : Hid (HasBox w7 w.heap.size 24 (hcells h (.slice mo h.tags.length mc))) := (HF _).below hb
          have HM7 : Hid (IsPairs w7 (.slice mo h.tags.length mc) h.tags) := (HFm _).below hb
          have c0 : w7.cell? ⟨wr.heap.size, 0, none⟩ = some (.string x) := by rw [hb.cell (by simp), World.cell?_alloc_at _ _ _ _ rfl]; rfl
          have c1 : w7.cell? ⟨wr.heap.size, 1, none⟩ = some (.string y) := by rw [hb.cell (by simp), World.cell?_alloc_at _ _ _ _ rfl]; rfl
          have HB7 : Hid (Below W.heap.size W w7) := (HB.out.alloc HB.out.size _).trans (hb.mono (by have := HB.out.size; simp; omega))
          clear hb HF HFm HFl g1 g2
          have HFm := fun o => HM7.out.below ((Below.refl _ _).alloc (Nat.le_refl _) o)
          go_wp2_with (first | (refine wpList_load_box rfl 24 (.tmp 3) rfl w.heap.size rfl 24 _ _ HX7.out Try.underlying24 rfl sizeHost ?_) | fail)
          refine (KO _ x y _ _ HPk.out (HFm _) (one_pair w7 (x, y) _ _ rfl HOk.out)).mono ?_
          rintro e w8 ⟨rfl, hb⟩
          have HB8 : Hid (Below W.heap.size W w8) := (HB7.out.alloc HB7.out.size _).trans (hb.mono (by have := HB7.out.size; simp; omega))
          clear hb
          go_wp2
          go_roundw
          case rel => exact ⟨k + 1, by omega, by go_num, HB8.out⟩
          case measure => simp [intOf]; omega
        · have HBx : Hid (Below w.heap.size w wr) := HBf.out.trans (HB.out.mono HBf.out.size)
          go_wp2_with fail
          refine (awake_any _).mono ?_
          rintro e w9 ⟨rfl, hb⟩
          have HB9 : Hid (Below w.heap.size w w9) := HBx.out.trans (hb.mono HBx.out.size)
          clear hb
          go_wp2
          go_ret
          exact ⟨rfl, HB9.out⟩
  | false =>
    rw [hq] at KL KB
    rw [Bool.false_and] at KB
    clear hq
    refine wp_region_mp ([eqP (hval h (.slice mo h.tags.length mc)), eqP (.slice bo (l.length + m.length) bc), eqP (.bool false), eqP (hval h (.slice mo h.tags.length mc)), eqP (.slice lo l.length lc), eqP (.bool false), eqP (.bool false), eqP (undef), eqP (undef), eqP (undef), eqP (.bool false), eqP (.bool false), eqP (.bool false), eqP (hval h (.slice mo h.tags.length mc)), eqP (.pointer (some ⟨w.heap.size, 5, none⟩)), eqP (.slice mo h.tags.length mc), eqP (.bool true), eqP (.bool false), eqP (.bool false), eqP (.bool false), eqP (hval h (.slice mo h.tags.length mc)), eqP (.bool true), eqP (.bool false), eqP (.bool false)]) (by kernel_rfl) (by kernel_rfl) ?_ ?_
    · simp only [stepsAll3]
      refine ⟨fun a W hF hE hd => ?_, fun a W hF hE hd => ?_, fun a W hF hE hd => ?_, fun a W hF hE hd => ?_, fun a W hF hE hd => ?_, fun a W hF hE hd => ?_, fun a W hF hE hd => ?_, fun a W hF hE hd => ?_, fun a W hF hE hd => ?_, fun a W hF hE hd => ?_, fun a W hF hE hd => ?_, fun a W hF hE hd => ?_, fun a W hF hE hd => ?_, fun a W hF hE hd => ?_, fun a W hF hE hd => ?_, fun a W hF hE hd => ?_, fun a W hF hE hd => ?_, fun a W hF hE hd => ?_, fun a W hF hE hd => ?_, fun a W hF hE hd => ?_, fun a W hF hE hd => ?_, fun a W hF hE hd => ?_, fun a W hF hE hd => ?_, fun a W hF hE hd => ?_, trivial⟩
      all_goals unfold StepAt
      · have t3 : a.tmps.getD 3 undef = .pointer (some ⟨w.heap.size, 0, none⟩) := hF.at 3 (by kernel_rfl)
        rw [Array.getD_eq_getD_getElem?] at t3
        refine .inl ⟨rfl, ?_⟩
        rw [run_obox _ _ 24 (.tmp 3) rfl (w.heap.size) (by simpa [Act.eval] using t3) 24 (hcells h (.slice mo h.tags.length mc)) _ (HX W hE) Try.underlying24 rfl sizeHost]
        exact ⟨Below.refl _ _, rfl⟩
      · have t7 : a.tmps.getD 7 undef = .slice bo (l.length + m.length) bc := hF.at 7 (by kernel_rfl)
        rw [Array.getD_eq_getD_getElem?] at t7
        refine .inl ⟨rfl, ?_⟩
        go_simp
        exact ⟨Below.refl _ _, rfl⟩
      · have t27 : a.tmps.getD 27 undef = hval h (.slice mo h.tags.length mc) := hd { on := 0, ground := .data } (by simp) rfl
        rw [Array.getD_eq_getD_getElem?] at t27
        have t28 : a.tmps.getD 28 undef = .slice bo (l.length + m.length) bc := hd { on := 1, ground := .data } (by simp) rfl
        rw [Array.getD_eq_getD_getElem?] at t28
        refine .inl ⟨rfl, ?_⟩
        go_simp
        exact (KB W (HM W hE) (HBo W hE)).mono fun e w2 h => ⟨_, h.1, h.2, rfl⟩
      · have t3 : a.tmps.getD 3 undef = .pointer (some ⟨w.heap.size, 0, none⟩) := hF.at 3 (by kernel_rfl)
        rw [Array.getD_eq_getD_getElem?] at t3
        refine .inl ⟨rfl, ?_⟩
        rw [run_obox _ _ 24 (.tmp 3) rfl (w.heap.size) (by simpa [Act.eval] using t3) 24 (hcells h (.slice mo h.tags.length mc)) _ (HX W hE) Try.underlying24 rfl sizeHost]
        exact ⟨Below.refl _ _, rfl⟩
      · have t1 : a.tmps.getD 1 undef = .slice lo l.length lc := hF.at 1 (by kernel_rfl)
        rw [Array.getD_eq_getD_getElem?] at t1
        refine .inl ⟨rfl, ?_⟩
        go_simp
        exact ⟨Below.refl _ _, rfl⟩
      · have t30 : a.tmps.getD 30 undef = hval h (.slice mo h.tags.length mc) := hd { on := 3, ground := .data } (by simp) rfl
        rw [Array.getD_eq_getD_getElem?] at t30
        have t31 : a.tmps.getD 31 undef = .slice lo l.length lc := hd { on := 4, ground := .data } (by simp) rfl
        rw [Array.getD_eq_getD_getElem?] at t31
        refine .inl ⟨rfl, ?_⟩
        go_simp
        exact (KL W (HM W hE) (HL W hE)).mono fun e w2 h => ⟨_, h.1, h.2, rfl⟩
      · have t32 : a.tmps.getD 32 undef = .bool false := hd { on := 5, ground := .data } (by simp) rfl
        rw [Array.getD_eq_getD_getElem?] at t32
        refine .inl ⟨rfl, ?_⟩
        go_simp
        exact ⟨Below.refl _ _, rfl⟩
      · have g33 : a.eval (.tmp 33) = .bool false := hd { on := 6, ground := .guard } (by simp) rfl
        exact .inr ⟨(by simp only [Region.wanted]; rw [yielded_of (d := 33) (by rfl) g33]; rfl), rfl⟩
      · have g33 : a.eval (.tmp 33) = .bool false := hd { on := 6, ground := .guard } (by simp) rfl
        exact .inr ⟨(by simp only [Region.wanted]; rw [yielded_of (d := 33) (by rfl) g33]; rfl), rfl⟩
      · have g33 : a.eval (.tmp 33) = .bool false := hd { on := 6, ground := .guard } (by simp) rfl
        exact .inr ⟨(by simp only [Region.wanted]; rw [yielded_of (d := 33) (by rfl) g33]; rfl), rfl⟩
      · have t33 : a.tmps.getD 33 undef = .bool false := hd { on := 6, ground := .data } (by simp) rfl
        rw [Array.getD_eq_getD_getElem?] at t33
        refine .inl ⟨rfl, ?_⟩
        go_simp
        exact ⟨Below.refl _ _, rfl⟩
      · have t29 : a.tmps.getD 29 undef = .bool false := hd { on := 2, ground := .data } (by simp) rfl
        rw [Array.getD_eq_getD_getElem?] at t29
        have t37 : a.tmps.getD 37 undef = .bool false := hd { on := 10, ground := .data } (by simp) rfl
        rw [Array.getD_eq_getD_getElem?] at t37
        refine .inl ⟨rfl, ?_⟩
        go_simp
        exact ⟨Below.refl _ _, rfl⟩
      · have t38 : a.tmps.getD 38 undef = .bool false := hd { on := 11, ground := .data } (by simp) rfl
        rw [Array.getD_eq_getD_getElem?] at t38
        refine .inl ⟨rfl, ?_⟩
        go_simp
        exact ⟨Below.refl _ _, rfl⟩
      · have t3 : a.tmps.getD 3 undef = .pointer (some ⟨w.heap.size, 0, none⟩) := hF.at 3 (by kernel_rfl)
        rw [Array.getD_eq_getD_getElem?] at t3
        have g39 : a.eval (.tmp 39) = .bool false := hd { on := 12, ground := .guard } (by simp) rfl
        refine .inl ⟨(by simp only [Region.wanted]; rw [yielded_of (d := 39) (by rfl) g39]; rfl), ?_⟩
        clear g39
        rw [run_obox _ _ 24 (.tmp 3) rfl (w.heap.size) (by simpa [Act.eval] using t3) 24 (hcells h (.slice mo h.tags.length mc)) _ (HX W hE) Try.underlying24 rfl sizeHost]
        exact ⟨Below.refl _ _, rfl⟩
      · have t3 : a.tmps.getD 3 undef = .pointer (some ⟨w.heap.size, 0, none⟩) := hF.at 3 (by kernel_rfl)
        rw [Array.getD_eq_getD_getElem?] at t3
        have g39 : a.eval (.tmp 39) = .bool false := hd { on := 12, ground := .guard } (by simp) rfl
        refine .inl ⟨(by simp only [Region.wanted]; rw [yielded_of (d := 39) (by rfl) g39]; rfl), ?_⟩
        clear g39
        go_simp
        exact ⟨Below.refl _ _, rfl⟩
      · have t41 : a.tmps.getD 41 undef = .pointer (some ⟨w.heap.size, 5, none⟩) := hd { on := 14, ground := .data } (by simp) rfl
        rw [Array.getD_eq_getD_getElem?] at t41
        have g39 : a.eval (.tmp 39) = .bool false := hd { on := 12, ground := .guard } (by simp) rfl
        refine .inl ⟨(by simp only [Region.wanted]; rw [yielded_of (d := 39) (by rfl) g39]; rfl), ?_⟩
        clear g39
        have c5 : W.cell? ⟨w.heap.size, 5, none⟩ = some (.slice mo h.tags.length mc) := (HX W hE).cell 5
        go_simp
        exact ⟨Below.refl _ _, rfl⟩
      · have t40 : a.tmps.getD 40 undef = hval h (.slice mo h.tags.length mc) := hd { on := 13, ground := .data } (by simp) rfl
        rw [Array.getD_eq_getD_getElem?] at t40
        have t42 : a.tmps.getD 42 undef = .slice mo h.tags.length mc := hd { on := 15, ground := .data } (by simp) rfl
        rw [Array.getD_eq_getD_getElem?] at t42
        have g39 : a.eval (.tmp 39) = .bool false := hd { on := 12, ground := .guard } (by simp) rfl
        refine .inl ⟨(by simp only [Region.wanted]; rw [yielded_of (d := 39) (by rfl) g39]; rfl), ?_⟩
        clear g39
        go_simp
        exact (KM W (HM W hE) (HM W hE)).mono fun e w2 h => ⟨_, h.1, h.2, rfl⟩
      · have t43 : a.tmps.getD 43 undef = .bool true := hd { on := 16, ground := .data } (by simp) rfl
        rw [Array.getD_eq_getD_getElem?] at t43
        have g39 : a.eval (.tmp 39) = .bool false := hd { on := 12, ground := .guard } (by simp) rfl
        refine .inl ⟨(by simp only [Region.wanted]; rw [yielded_of (d := 39) (by rfl) g39]; rfl), ?_⟩
        clear g39
        go_simp
        exact ⟨Below.refl _ _, rfl⟩
      · have t39 : a.tmps.getD 39 undef = .bool false := hd { on := 12, ground := .data } (by simp) rfl
        rw [Array.getD_eq_getD_getElem?] at t39
        have t44 : a.tmps.getD 44 undef = .bool false := hd { on := 17, ground := .data } (by simp) rfl
        rw [Array.getD_eq_getD_getElem?] at t44
        refine .inl ⟨rfl, ?_⟩
        go_simp
        exact ⟨Below.refl _ _, rfl⟩
      · have t45 : a.tmps.getD 45 undef = .bool false := hd { on := 18, ground := .data } (by simp) rfl
        rw [Array.getD_eq_getD_getElem?] at t45
        refine .inl ⟨rfl, ?_⟩
        go_simp
        exact ⟨Below.refl _ _, rfl⟩
      · have t3 : a.tmps.getD 3 undef = .pointer (some ⟨w.heap.size, 0, none⟩) := hF.at 3 (by kernel_rfl)
        rw [Array.getD_eq_getD_getElem?] at t3
        have g46 : a.eval (.tmp 46) = .bool false := hd { on := 19, ground := .guard } (by simp) rfl
        refine .inl ⟨(by simp only [Region.wanted]; rw [yielded_of (d := 46) (by rfl) g46]; rfl), ?_⟩
        clear g46
        rw [run_obox _ _ 24 (.tmp 3) rfl (w.heap.size) (by simpa [Act.eval] using t3) 24 (hcells h (.slice mo h.tags.length mc)) _ (HX W hE) Try.underlying24 rfl sizeHost]
        exact ⟨Below.refl _ _, rfl⟩
      · have t47 : a.tmps.getD 47 undef = hval h (.slice mo h.tags.length mc) := hd { on := 20, ground := .data } (by simp) rfl
        rw [Array.getD_eq_getD_getElem?] at t47
        have g46 : a.eval (.tmp 46) = .bool false := hd { on := 19, ground := .guard } (by simp) rfl
        refine .inl ⟨(by simp only [Region.wanted]; rw [yielded_of (d := 46) (by rfl) g46]; rfl), ?_⟩
        clear g46
        go_simp
        exact (KZ W (HM W hE)).mono fun e w2 h => ⟨_, h.1, h.2, rfl⟩
      · have t48 : a.tmps.getD 48 undef = .bool true := hd { on := 21, ground := .data } (by simp) rfl
        rw [Array.getD_eq_getD_getElem?] at t48
        have g46 : a.eval (.tmp 46) = .bool false := hd { on := 19, ground := .guard } (by simp) rfl
        refine .inl ⟨(by simp only [Region.wanted]; rw [yielded_of (d := 46) (by rfl) g46]; rfl), ?_⟩
        clear g46
        go_simp
        exact ⟨Below.refl _ _, rfl⟩
      · have t46 : a.tmps.getD 46 undef = .bool false := hd { on := 19, ground := .data } (by simp) rfl
        rw [Array.getD_eq_getD_getElem?] at t46
        have t49 : a.tmps.getD 49 undef = .bool false := hd { on := 22, ground := .data } (by simp) rfl
        rw [Array.getD_eq_getD_getElem?] at t49
        refine .inl ⟨rfl, ?_⟩
        go_simp
        exact ⟨Below.refl _ _, rfl⟩
    · intro vs W hE hV
      have h23 : vs 23 = .bool false := hV 23 (by decide)
      have HWW : Hid (Below w5.heap.size w5 W) := hE
      have HBf : Hid (Below w.heap.size w W) := HB5.out.trans (hE.mono HB5.out.size)
      clear hV hE
      simp only [putsV, dstsV, List.foldl, h23, Act.put, List.setIfInBounds_toArray, List.set_cons_succ, List.set_cons_zero]
      clear h23
      generalize vs 0 = y0
      generalize vs 1 = y1
      generalize vs 2 = y2
      generalize vs 3 = y3
      generalize vs 4 = y4
      generalize vs 5 = y5
      generalize vs 6 = y6
      generalize vs 7 = y7
      generalize vs 8 = y8
      generalize vs 9 = y9
      generalize vs 10 = y10
      generalize vs 11 = y11
      generalize vs 12 = y12
      generalize vs 13 = y13
      generalize vs 14 = y14
      generalize vs 15 = y15
      generalize vs 16 = y16
      generalize vs 17 = y17
      generalize vs 18 = y18
      generalize vs 19 = y19
      generalize vs 20 = y20
      generalize vs 21 = y21
      generalize vs 22 = y22
      refine ‹∀ (a : Act) (w : World), Code.wp Try.prog (Code.cond _ _ _) _ a w → _› _ _ ?_
      have HX6 : Hid (HasBox W w.heap.size 24 (hcells h (.slice mo h.tags.length mc))) := HX W HWW.out
      have HM6 : Hid (IsPairs W (.slice mo h.tags.length mc) h.tags) := HM W HWW.out
      have HL6 : Hid (IsPairs W (.slice lo l.length lc) l) := HL W HWW.out
      clear HX HM HL HN HBo HWW HB5
      go_wp2
      go_loopw [9, 53] (fun _ i wr => ∃ k : Nat, k ≤ l.length ∧ i = .int .i64 k ∧ Below W.heap.size W wr) (fun _ i _ => l.length - (intOf i).toNat)
      case atStart => exact ⟨0, Nat.zero_le _, rfl, Below.refl _ _⟩
      case round =>
        obtain ⟨k, hk, rfl, hb⟩ := hrel
        have HB : Hid (Below W.heap.size W wr) := hb
        clear hb
        by_cases hlt : k < l.length
        · obtain ⟨b1, o1, rfl, hbl1, g1, g2⟩ := (HL6.out.below HB.out).at k hlt
          have HXr : Hid (HasBox wr w.heap.size 24 (hcells h (.slice mo h.tags.length mc))) := HX6.out.below HB.out
          have HMr : Hid (IsPairs wr (.slice mo h.tags.length mc) h.tags) := HM6.out.below HB.out
          have HLr : Hid (IsPairs wr (.slice (some ⟨b1, o1, none⟩) l.length lc) l) := HL6.out.below HB.out
          generalize l.getD k noP = pq at g1 g2
          obtain ⟨x, y⟩ := pq
          simp only at g1 g2
          have HF := fun o => HXr.out.alloc o
          have HFm := fun o => HMr.out.below ((Below.refl _ _).alloc (Nat.le_refl _) o)
          have HFl := fun o => HLr.out.below ((Below.refl _ _).alloc (Nat.le_refl _) o)
          go_wp2_with (first | (refine wpList_load_box rfl 24 (.tmp 3) rfl w.heap.size rfl 24 _ _ (HF _) Try.underlying24 rfl sizeHost ?_) | fail)
          refine (KL _ (HFm _) (HFl _)).mono ?_
          rintro e w7 ⟨rfl, hb⟩
          have HB7 : Hid (Below W.heap.size W w7) := (HB.out.alloc HB.out.size _).trans (hb.mono (by have := HB.out.size; simp; omega))
          clear hb HF HFm HFl g1 g2
          go_wp2
          go_roundw
          case rel => exact ⟨k + 1, by omega, by go_num, HB7.out⟩
          case measure => simp [intOf]; omega
        · have HBx : Hid (Below w.heap.size w wr) := HBf.out.trans (HB.out.mono HBf.out.size)
          go_wp2_with fail
          refine (awake_any _).mono ?_
          rintro e w9 ⟨rfl, hb⟩
          have HB9 : Hid (Below w.heap.size w w9) := HBx.out.trans (hb.mono HBx.out.size)
          clear hb
          go_wp2
          go_ret
          exact ⟨rfl, HB9.out⟩

set_option maxRecDepth 100000 in
theorem lifted_HostParts (os : Os) (started : os.Started) (H : Type) (enc : TypeId × Value → H) (F : Stop.Interp) :
    ReturnsInHanded {} Try.checked os 4 .any ((Rows.OpenSpec.upto Rows.hostPartsSpec).pre6 enc Try.prog Try.f4 Rows.hostPartsUptoRow.domain false) (((Rows.OpenSpec.upto Rows.hostPartsSpec).at F).post enc Try.prog Try.f4 false true false false) := by
  refine returnsInHanded_of_cond (C := Try.checked) (s := Rows.OpenSpec.upto Rows.hostPartsSpec) (k := Rows.uptoSmall) rfl own started (by kernel_rfl) Try.func4
    (OpenSpec.witness (enc := enc) (C := Try.checked) (s := Rows.OpenSpec.upto Rows.hostPartsSpec) (k := Rows.uptoSmall) rfl false ⟨#[], #[.agg #[.int .i64 0, .string ByteArray.empty, .int .i64 0, .string ByteArray.empty, .int .i64 0, .slice none 0 0], .slice none 0 0, .slice none 0 0], []⟩ 8 (by kernel_rfl) (by kernel_rfl) (by kernel_rfl)
      (x := ([.agg [.lit (.int .i64 0), .lit (.string []), .lit (.int .i64 0), .lit (.string []), .lit (.int .i64 0), .nil], .nil, .nil], [], [])) (by kernel_rfl) rfl (by kernel_rfl)) ?_
  intro W base args ds gs before hval0 hW hcnd hk0 hholds
  have hval : ∀ (j : Nat) t v, Try.f4.params[j]? = some t → args[j]? = some v → Value.okWide Try.prog W .any base t v := hval0
  have hW' := hW
  obtain ⟨p, q, hA0, hV, rfl, hfz, hnd⟩ := hW
  have hA : DataW.TrodAll enc Try.prog W 0 (fun _ => true) true Try.f4.params.toList args.toList ds p := hA0
  rw [Try.params4] at hA hval
  obtain ⟨v0, vs0, d0, ds0, p0, q0, hargs, rfl, rfl, h0, r0⟩ := trodAll_cons hA
  obtain ⟨v1, vs1, d1, ds1, p1, q1, rfl, rfl, rfl, h1, r1⟩ := trodAll_cons r0
  obtain ⟨v2, vs2, d2, ds2, p2, q2, rfl, rfl, rfl, h2, r2⟩ := trodAll_cons r1
  obtain ⟨rfl, rfl, rfl⟩ := trodAll_nil r2
  obtain rfl : args = #[v0, v1, v2] := by cases args; simp_all
  obtain ⟨rfl, rfl⟩ := trodVars_none hV
  have k0 := h0
  have lt0 : ∀ x ∈ p0, x.block < W.heap.size := by obtain ⟨m, hm⟩ := k0; exact DataW.trod_lt m _ _ _ hm
  obtain ⟨c0, m0, dm0, rfl, o0, i0, w0, rfl, x0⟩ := open_host (hval 0 24 v0 rfl rfl) h0
  have k1 := h1
  have lt1 : ∀ x ∈ p1, x.block < W.heap.size := by obtain ⟨m, hm⟩ := k1; exact DataW.trod_lt m _ _ _ hm
  obtain ⟨c1, w1, x1⟩ := open_prs (hval 1 22 v1 rfl rfl) h1
  have k2 := h2
  have lt2 : ∀ x ∈ p2, x.block < W.heap.size := by obtain ⟨m, hm⟩ := k2; exact DataW.trod_lt m _ _ _ hm
  obtain ⟨c2, w2, x2⟩ := open_prs (hval 2 22 v2 rfl rfl) h2
  clear hA0 hval0
  have hk : Rows.uptoBulkAll (_ ++ []) ≤ 1048576 := of_decide_eq_true hk0
  rw [List.append_nil] at hk
  refine (walk_HostParts c0 m0 o0 i0 c1 v1 c2 v2 W w0 w1 w2 (short_HostParts x0 x1 x2 hk)).mono fun e W' ⟨he, bel⟩ => ?_
  subst he
  exact ⟨_, rfl, _, _, _, [], _, [], hW', trodAll_mk1 (shut_bool Try.underlying4 _), (trodAll_cons_mk (Below.trod laidOut (by kernel_rfl) (of_decide_eq_true (by kernel_rfl)) k0 bel lt0) (trodAll_cons_mk (Below.trod laidOut (by kernel_rfl) (of_decide_eq_true (by kernel_rfl)) k1 bel lt1) (trodAll_cons_mk (Below.trod laidOut (by kernel_rfl) (of_decide_eq_true (by kernel_rfl)) k2 bel lt2) trodAll_mk0))), rfl, bel.frame _, fun h => by cases h⟩

theorem over_HostParts : Rows.hostPartsUptoRow.holds Try.pinned (Rows.OpenSpec.upto Rows.hostPartsSpec) :=
  OpenClaim.holds_of_cond 4 Try.f4 rfl rfl rfl rfl rfl rfl rfl ⟨rfl, rfl, rfl, rfl, rfl⟩ rfl rfl rfl rfl rfl (by kernel_rfl) Try.func4 (by kernel_rfl)
    (of_decide_eq_true (by kernel_rfl)) (by unfold Func.isWrapper; first | (rw [if_pos (by decide +kernel)]; kernel_rfl) | (rw [if_neg (by decide +kernel)]; exact ⟨rfl, rfl⟩))
    (fun os started H enc _ F => lifted_HostParts os started H enc F)

/-- The statement. -/
theorem hostPartsUpto_holds : Rows.HostPartsUptoSaid := over_HostParts
#print axioms hostPartsUpto_holds

end Go.Proofs.Ytgjancpogblakaa

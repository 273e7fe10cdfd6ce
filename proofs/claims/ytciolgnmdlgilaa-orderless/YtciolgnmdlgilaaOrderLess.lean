/-
  OrderLess, for any three keys: none is less than itself; of two unlike ones just one is less; less is carried on. No condition.
-/
import Derived.Test.YtciolgnmdlgilaaOrderFrame
namespace Go.Proofs.Ytciolgnmdlgilaa
open Go.ChangeShapes Go.WideShapes Go.ChangeAt Go.RowKit

theorem box3 (w : World) (a b c : Int × Int) (t : Nat) : ∃ W, W = ((w.alloc (.cells #[.int .i64 a.1, .int .i64 a.2] t)).alloc (.cells #[.int .i64 b.1, .int .i64 b.2] t)).alloc (.cells #[.int .i64 c.1, .int .i64 c.2] t) ∧ Below w.heap.size w W ∧
    (∀ s : WB W.heap.size W, s.w.cell? ⟨w.heap.size, 0, none⟩ = some (.int .i64 a.1) ∧ s.w.cell? ⟨w.heap.size, 1, none⟩ = some (.int .i64 a.2) ∧ s.w.cell? ⟨w.heap.size + 1, 0, none⟩ = some (.int .i64 b.1) ∧ s.w.cell? ⟨w.heap.size + 1, 1, none⟩ = some (.int .i64 b.2) ∧
      s.w.cell? ⟨w.heap.size + 1 + 1, 0, none⟩ = some (.int .i64 c.1) ∧ s.w.cell? ⟨w.heap.size + 1 + 1, 1, none⟩ = some (.int .i64 c.2)) := by
  obtain ⟨W, hW⟩ : ∃ W, W = ((w.alloc (.cells #[.int .i64 a.1, .int .i64 a.2] t)).alloc (.cells #[.int .i64 b.1, .int .i64 b.2] t)).alloc (.cells #[.int .i64 c.1, .int .i64 c.2] t) := ⟨_, rfl⟩
  have hs : W.heap.size = w.heap.size + 3 := by rw [hW]; simp
  refine ⟨W, hW, by rw [hW]; exact (((Below.refl _ _).alloc (Nat.le_refl _) _).alloc (by simp) _).alloc (by simp; omega) _, fun s => ⟨?_, ?_, ?_, ?_, ?_, ?_⟩⟩
  · exact (s.h.cell (p := ⟨w.heap.size, 0, none⟩) (by show w.heap.size < _; omega)).trans (by rw [hW, World.cell?_alloc_past _ _ _ (by simp; try omega), World.cell?_alloc_past _ _ _ (by simp; try omega), World.cell?_alloc_at _ _ _ _ (by simp)]; rfl)
  · exact (s.h.cell (p := ⟨w.heap.size, 1, none⟩) (by show w.heap.size < _; omega)).trans (by rw [hW, World.cell?_alloc_past _ _ _ (by simp; try omega), World.cell?_alloc_past _ _ _ (by simp; try omega), World.cell?_alloc_at _ _ _ _ (by simp)]; rfl)
  · exact (s.h.cell (p := ⟨w.heap.size + 1, 0, none⟩) (by show w.heap.size + 1 < _; omega)).trans (by rw [hW, World.cell?_alloc_past _ _ _ (by simp; try omega), World.cell?_alloc_at _ _ _ _ (by simp)]; rfl)
  · exact (s.h.cell (p := ⟨w.heap.size + 1, 1, none⟩) (by show w.heap.size + 1 < _; omega)).trans (by rw [hW, World.cell?_alloc_past _ _ _ (by simp; try omega), World.cell?_alloc_at _ _ _ _ (by simp)]; rfl)
  · exact (s.h.cell (p := ⟨w.heap.size + 1 + 1, 0, none⟩) (by show w.heap.size + 1 + 1 < _; omega)).trans (by rw [hW, World.cell?_alloc_at _ _ _ _ (by simp)]; rfl)
  · exact (s.h.cell (p := ⟨w.heap.size + 1 + 1, 1, none⟩) (by show w.heap.size + 1 + 1 < _; omega)).trans (by rw [hW, World.cell?_alloc_at _ _ _ _ (by simp)]; rfl)

set_option maxHeartbeats 4000000 in
theorem walk_OrderLess (a : Int × Int) (_ : inK a) (b : Int × Int) (_ : inK b) (c : Int × Int) (_ : inK c) (w : World) :
    Calls Try.prog 7 #[kval a, kval b, kval c] w fun e w' => e = .returned (.bool true) ∧ Below w.heap.size w w' := by
  obtain ⟨W, hW, hBW, hcell⟩ := box3 w a b c 24
  have haa := ltK_irrefl a
  have : Nonempty (WB W.heap.size W) := ⟨⟨W, Below.refl _ _⟩⟩
  have c1 := fun s => (hcell s).1
  have c2 := fun s => (hcell s).2.1
  have c3 := fun s => (hcell s).2.2.1
  have c4 := fun s => (hcell s).2.2.2.1
  have c5 := fun s => (hcell s).2.2.2.2.1
  have c6 := fun s => (hcell s).2.2.2.2.2
  clear hcell
  have HBW : Hid (Below w.heap.size w W) := hBW
  clear hBW
  unfold kval
  obtain ⟨a1, a2⟩ := a
  obtain ⟨b1, b2⟩ := b
  obtain ⟨d1, d2⟩ := c
  simp only at *
  have hcase : (a1 = b1 ∧ a2 = b2 ∧ ltK (a1, a2) (b1, b2) = false) ∨ ((a1 == b1) = false ∧ ltK (a1, a2) (b1, b2) = true ∧ ltK (b1, b2) (a1, a2) = false) ∨ ((a1 == b1) = false ∧ ltK (a1, a2) (b1, b2) = false ∧ ltK (b1, b2) (a1, a2) = true) ∨
      (a1 = b1 ∧ (a2 == b2) = false ∧ ltK (a1, a2) (b1, b2) = true ∧ ltK (b1, b2) (a1, a2) = false) ∨ (a1 = b1 ∧ (a2 == b2) = false ∧ ltK (a1, a2) (b1, b2) = false ∧ ltK (b1, b2) (a1, a2) = true) := by
    unfold ltK
    simp only [beq_eq_false_iff_ne, decide_eq_true_eq, decide_eq_false_iff_not]
    omega
  have hbc : ltK (b1, b2) (d1, d2) = false ∨ (ltK (b1, b2) (d1, d2) = true ∧ (ltK (a1, a2) (b1, b2) = true → ltK (a1, a2) (d1, d2) = true)) := by
    cases h : ltK (b1, b2) (d1, d2)
    · exact .inl rfl
    · exact .inr ⟨rfl, fun h' => ltK_trans h' h⟩
  rcases hcase with ⟨rfl, rfl, hab⟩ | ⟨q1, hab, hba⟩ | ⟨q1, hab, hba⟩ | ⟨rfl, q2, hab, hba⟩ | ⟨rfl, q2, hab, hba⟩
  · clear hbc
    go_enter Try.func7, Try.ntmps7
    go_wp2
    rw [← hW]
    clear hW
    refine wp_region_below W.heap.size W (by kernel_rfl) (by kernel_rfl) (Below.refl _ _) ?_
    repeat (go_big_quiet_step (first
      | (go_at_call 16; exact calls_below (Nat.le_refl _) (less_to _ _ _ _ _ (by assumption) _))))
    refine wpQuiet_nil ?_
    rintro _ ⟨s, rfl⟩
    go_wp2_with (first
      | (go_at_call 16; refine (less_to _ _ _ _ _ (by assumption) _).mono ?_; rintro e w1 ⟨rfl, hb⟩; obtain ⟨s1, rfl⟩ := wb_next (Nat.le_refl _) hb; clear hb)
      | (go_at_call 8; refine (awake_any _).mono ?_; rintro e w1 ⟨rfl, hb⟩; obtain ⟨s1, rfl⟩ := wb_next (Nat.le_refl _) hb; clear hb))
    go_ret
    exact ⟨rfl, HBW.out.trans ((WB.h _).mono HBW.out.size)⟩
  · rcases hbc with hbc | ⟨hbc, hac⟩
    · go_enter Try.func7, Try.ntmps7
      go_wp2
      rw [← hW]
      clear hW
      refine wp_region_below W.heap.size W (by kernel_rfl) (by kernel_rfl) (Below.refl _ _) ?_
      repeat (go_big_quiet_step (first
        | (go_at_call 16; exact calls_below (Nat.le_refl _) (less_to _ _ _ _ _ (by assumption) _))))
      refine wpQuiet_nil ?_
      rintro _ ⟨s, rfl⟩
      go_wp2_with (first
        | (go_at_call 16; refine (less_to _ _ _ _ _ (by assumption) _).mono ?_; rintro e w1 ⟨rfl, hb⟩; obtain ⟨s1, rfl⟩ := wb_next (Nat.le_refl _) hb; clear hb)
        | (go_at_call 8; refine (awake_any _).mono ?_; rintro e w1 ⟨rfl, hb⟩; obtain ⟨s1, rfl⟩ := wb_next (Nat.le_refl _) hb; clear hb))
      go_ret
      exact ⟨rfl, HBW.out.trans ((WB.h _).mono HBW.out.size)⟩
    · have hac := hac hab
      go_enter Try.func7, Try.ntmps7
      go_wp2
      rw [← hW]
      clear hW
      refine wp_region_below W.heap.size W (by kernel_rfl) (by kernel_rfl) (Below.refl _ _) ?_
      repeat (go_big_quiet_step (first
        | (go_at_call 16; exact calls_below (Nat.le_refl _) (less_to _ _ _ _ _ (by assumption) _))))
      refine wpQuiet_nil ?_
      rintro _ ⟨s, rfl⟩
      go_wp2_with (first
        | (go_at_call 16; refine (less_to _ _ _ _ _ (by assumption) _).mono ?_; rintro e w1 ⟨rfl, hb⟩; obtain ⟨s1, rfl⟩ := wb_next (Nat.le_refl _) hb; clear hb)
        | (go_at_call 8; refine (awake_any _).mono ?_; rintro e w1 ⟨rfl, hb⟩; obtain ⟨s1, rfl⟩ := wb_next (Nat.le_refl _) hb; clear hb))
      go_ret
      exact ⟨rfl, HBW.out.trans ((WB.h _).mono HBW.out.size)⟩
  · clear hbc
    go_enter Try.func7, Try.ntmps7
    go_wp2
    rw [← hW]
    clear hW
    refine wp_region_below W.heap.size W (by kernel_rfl) (by kernel_rfl) (Below.refl _ _) ?_
    repeat (go_big_quiet_step (first
      | (go_at_call 16; exact calls_below (Nat.le_refl _) (less_to _ _ _ _ _ (by assumption) _))))
    refine wpQuiet_nil ?_
    rintro _ ⟨s, rfl⟩
    go_wp2_with (first
      | (go_at_call 16; refine (less_to _ _ _ _ _ (by assumption) _).mono ?_; rintro e w1 ⟨rfl, hb⟩; obtain ⟨s1, rfl⟩ := wb_next (Nat.le_refl _) hb; clear hb)
      | (go_at_call 8; refine (awake_any _).mono ?_; rintro e w1 ⟨rfl, hb⟩; obtain ⟨s1, rfl⟩ := wb_next (Nat.le_refl _) hb; clear hb))
    go_ret
    exact ⟨rfl, HBW.out.trans ((WB.h _).mono HBW.out.size)⟩
  · rcases hbc with hbc | ⟨hbc, hac⟩
    · go_enter Try.func7, Try.ntmps7
      go_wp2
      rw [← hW]
      clear hW
      refine wp_region_below W.heap.size W (by kernel_rfl) (by kernel_rfl) (Below.refl _ _) ?_
      repeat (go_big_quiet_step (first
        | (go_at_call 16; exact calls_below (Nat.le_refl _) (less_to _ _ _ _ _ (by assumption) _))))
      refine wpQuiet_nil ?_
      rintro _ ⟨s, rfl⟩
      go_wp2_with (first
        | (go_at_call 16; refine (less_to _ _ _ _ _ (by assumption) _).mono ?_; rintro e w1 ⟨rfl, hb⟩; obtain ⟨s1, rfl⟩ := wb_next (Nat.le_refl _) hb; clear hb)
        | (go_at_call 8; refine (awake_any _).mono ?_; rintro e w1 ⟨rfl, hb⟩; obtain ⟨s1, rfl⟩ := wb_next (Nat.le_refl _) hb; clear hb))
      go_ret
      exact ⟨rfl, HBW.out.trans ((WB.h _).mono HBW.out.size)⟩
    · have hac := hac hab
      go_enter Try.func7, Try.ntmps7
      go_wp2
      rw [← hW]
      clear hW
      refine wp_region_below W.heap.size W (by kernel_rfl) (by kernel_rfl) (Below.refl _ _) ?_
      repeat (go_big_quiet_step (first
        | (go_at_call 16; exact calls_below (Nat.le_refl _) (less_to _ _ _ _ _ (by assumption) _))))
      refine wpQuiet_nil ?_
      rintro _ ⟨s, rfl⟩
      go_wp2_with (first
        | (go_at_call 16; refine (less_to _ _ _ _ _ (by assumption) _).mono ?_; rintro e w1 ⟨rfl, hb⟩; obtain ⟨s1, rfl⟩ := wb_next (Nat.le_refl _) hb; clear hb)
        | (go_at_call 8; refine (awake_any _).mono ?_; rintro e w1 ⟨rfl, hb⟩; obtain ⟨s1, rfl⟩ := wb_next (Nat.le_refl _) hb; clear hb))
      go_ret
      exact ⟨rfl, HBW.out.trans ((WB.h _).mono HBW.out.size)⟩
  · clear hbc
    go_enter Try.func7, Try.ntmps7
    go_wp2
    rw [← hW]
    clear hW
    refine wp_region_below W.heap.size W (by kernel_rfl) (by kernel_rfl) (Below.refl _ _) ?_
    repeat (go_big_quiet_step (first
      | (go_at_call 16; exact calls_below (Nat.le_refl _) (less_to _ _ _ _ _ (by assumption) _))))
    refine wpQuiet_nil ?_
    rintro _ ⟨s, rfl⟩
    go_wp2_with (first
      | (go_at_call 16; refine (less_to _ _ _ _ _ (by assumption) _).mono ?_; rintro e w1 ⟨rfl, hb⟩; obtain ⟨s1, rfl⟩ := wb_next (Nat.le_refl _) hb; clear hb)
      | (go_at_call 8; refine (awake_any _).mono ?_; rintro e w1 ⟨rfl, hb⟩; obtain ⟨s1, rfl⟩ := wb_next (Nat.le_refl _) hb; clear hb))
    go_ret
    exact ⟨rfl, HBW.out.trans ((WB.h _).mono HBW.out.size)⟩

set_option maxRecDepth 100000 in
theorem lifted_OrderLess (os : Os) (started : os.Started) (H : Type) (enc : TypeId × Value → H) :
    ReturnsInHanded {} Try.checked os 7 .any (Rows.orderLessSpec.pre6 enc Try.prog Try.f7 Rows.orderLessRow.domain false) (Rows.orderLessSpec.post enc Try.prog Try.f7 false true false false) := by
  refine returnsInHanded_of_change_sized (C := Try.checked) own started (by kernel_rfl) Try.func7
    (ChangeSpec.witness6 (enc := enc) (C := Try.checked) false ⟨#[], #[.agg #[.int .i64 0, .int .i64 0], .agg #[.int .i64 0, .int .i64 0], .agg #[.int .i64 0, .int .i64 0]], []⟩ 8 (by kernel_rfl) (by kernel_rfl) (by kernel_rfl) (by kernel_rfl)) ?_
  intro W base args ds gs before hval0 hW hcnd hsz0 hholds
  have hval : ∀ (j : Nat) t v, Try.f7.params[j]? = some t → args[j]? = some v → Value.okWide Try.prog W .any base t v := hval0
  have hW' := hW
  obtain ⟨p, q, hA0, hV, rfl, hfz, hnd⟩ := hW
  have hA : DataW.TrodAll enc Try.prog W 0 (fun _ => true) true Try.f7.params.toList args.toList ds p := hA0
  have hsz : (DataW.weightsEach Try.prog (Try.f7.params.toList ++ Rows.orderLessSpec.plain.varTypes Try.prog) (ds ++ gs)).all (· ≤ reachBytes) = true := hsz0
  rw [Try.params7] at hA hval hsz
  obtain ⟨v0, vs0, d0, ds0, p0, q0, hargs, rfl, rfl, h0, r0⟩ := trodAll_cons hA
  obtain ⟨v1, vs1, d1, ds1, p1, q1, rfl, rfl, rfl, h1, r1⟩ := trodAll_cons r0
  obtain ⟨v2, vs2, d2, ds2, p2, q2, rfl, rfl, rfl, h2, r2⟩ := trodAll_cons r1
  obtain ⟨rfl, rfl, rfl⟩ := trodAll_nil r2
  obtain rfl : args = #[v0, v1, v2] := by cases args; simp_all
  obtain ⟨rfl, rfl⟩ := trodVars_none hV
  have k0 := h0
  have lt0 : ∀ x ∈ p0, x.block < W.heap.size := by obtain ⟨m, hm⟩ := k0; exact DataW.trod_lt m _ _ _ hm
  obtain ⟨z0, rfl, w0, _⟩ := open_key Try.underlying24 (by kernel_rfl) (by kernel_rfl) Try.underlying3 Try.underlying3 (hval 0 24 v0 rfl rfl) h0
  have k1 := h1
  have lt1 : ∀ x ∈ p1, x.block < W.heap.size := by obtain ⟨m, hm⟩ := k1; exact DataW.trod_lt m _ _ _ hm
  obtain ⟨z1, rfl, w1, _⟩ := open_key Try.underlying24 (by kernel_rfl) (by kernel_rfl) Try.underlying3 Try.underlying3 (hval 1 24 v1 rfl rfl) h1
  have k2 := h2
  have lt2 : ∀ x ∈ p2, x.block < W.heap.size := by obtain ⟨m, hm⟩ := k2; exact DataW.trod_lt m _ _ _ hm
  obtain ⟨z2, rfl, w2, _⟩ := open_key Try.underlying24 (by kernel_rfl) (by kernel_rfl) Try.underlying3 Try.underlying3 (hval 2 24 v2 rfl rfl) h2
  clear hA0 hval0
  refine (walk_OrderLess z0 w0 z1 w1 z2 w2 W).mono fun e W' ⟨he, bel⟩ => ?_
  subst he
  exact ⟨_, rfl, _, _, _, [], _, [], hW', trodAll_mk1 (shut_bool Try.underlying4 _), (trodAll_cons_mk (Below.trod laidOut (by kernel_rfl) (of_decide_eq_true (by kernel_rfl)) k0 bel lt0) (trodAll_cons_mk (Below.trod laidOut (by kernel_rfl) (of_decide_eq_true (by kernel_rfl)) k1 bel lt1) (trodAll_cons_mk (Below.trod laidOut (by kernel_rfl) (of_decide_eq_true (by kernel_rfl)) k2 bel lt2) trodAll_mk0))), rfl, bel.frame _, fun h => by cases h⟩

theorem over_OrderLess : Rows.orderLessRow.holds Try.pinned (OpenSpec.ofChange Rows.orderLessSpec) :=
  OpenClaim.holds_of_wide 7 Try.f7 rfl rfl rfl rfl rfl rfl rfl ⟨rfl, rfl, rfl, rfl, rfl⟩ rfl rfl rfl rfl rfl (by kernel_rfl) Try.func7 (by kernel_rfl)
    (of_decide_eq_true (by kernel_rfl)) (by unfold Func.isWrapper; first | (rw [if_pos (by decide +kernel)]; kernel_rfl) | (rw [if_neg (by decide +kernel)]; exact ⟨rfl, rfl⟩))
    (fun os started H enc _ => lifted_OrderLess os started H enc)

/-- The statement. -/
theorem orderLess_holds : Rows.OrderLessSaid := over_OrderLess
#print axioms orderLess_holds

end Go.Proofs.Ytciolgnmdlgilaa

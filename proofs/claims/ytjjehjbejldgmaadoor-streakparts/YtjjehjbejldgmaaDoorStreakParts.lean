/-
  StreakParts, for every configuration, count, row of answers and place: answers in two parts are as in one; the configuration that counts may be. No condition on the call.
-/
import Derived.Test.YtjjehjbejldgmaaDoorStreak2
import Derived.Test.YtjjehjbejldgmaaDoorRefStreak
import Derived.Test.YtjjehjbejldgmaaDoorRowCut
import Derived.Test.YtjjehjbejldgmaaDoorRel6
namespace Go.Proofs.YtjjehjbejldgmaaDoor
open Go.ChangeShapes Go.WideShapes Go.ChangeAt Go.RowKit
open Go.ChangeMaps (open_string shut_string)

theorem u_modl (f : Int) (m : Nat) (hm : 0 < m) : ∃ F : Nat, F < m ∧ (IntKind.u64.wrap f).tmod (m : Int) = (F : Int) := by
  rw [IntKind.wrap_u64, Int.tmod_eq_emod_of_nonneg (by omega)]
  have h1 := Int.emod_nonneg (f % 18446744073709551616) (show (m : Int) ≠ 0 by omega)
  have h2 := Int.emod_lt_of_pos (f % 18446744073709551616) (show (0 : Int) < m by omega)
  exact ⟨((f % 18446744073709551616) % (m : Int)).toNat, by omega, by omega⟩

set_option maxRecDepth 100000 in
set_option maxHeartbeats 8000000 in
theorem walk_StreakParts (c : Cfg) (hz : c.zone.size ≤ 9223372036854775807) (n : Int) (_ : -9223372036854775808 ≤ n ∧ n ≤ 9223372036854775807) (l : List Bool) (v : Value) (pl : Int) (_ : -9223372036854775808 ≤ pl ∧ pl ≤ 9223372036854775807) (w : World) (htab : TabC w) (hl : IsBools w v l) :
    Calls Tryd.prog 5 #[.agg c.arr, .int .i64 n, v, .int .i64 pl] w fun e w' => e = .returned (.bool true) ∧ Below w.heap.size w w' := by
  obtain ⟨ao, cap, rfl⟩ := hl.shaped
  have HT : Hid (TabC w) := htab
  have HL : Hid (IsBools w (.slice ao l.length cap) l) := hl
  clear htab hl
  have HI : Hid ((Tryd.prog.info? 23).map (·.size) = some c.arr.size) := arr_inf c
  have HZ21 : Hid (c.arr[21]? = some (.string c.zone)) := rfl
  by_cases hs : 200 < l.length ∨ 100 < c.zone.size
  · clear HL
    by_cases h1 : 200 < l.length
    · have h1' : (200 : Int) < (l.length : Int) := by omega
      clear h1 hs HZ21
      generalize c.arr = cs at HI ⊢
      go_enter Tryd.func5, Tryd.ntmps5
      go_upto_region 1 with fail
      generalize hW0 : w.alloc _ = W0
      have HB0 : Hid (Below w.heap.size w W0) := by show Below _ _ _; rw [← hW0]; exact (Below.refl _ _).alloc (Nat.le_refl _) _
      clear hW0
      go_wp2_with fail
      refine (awake11_any _ (HT.out.below HB0.out)).mono ?_
      rintro e w2 ⟨rfl, hb⟩
      have HB2 : Hid (Below w.heap.size w w2) := HB0.out.trans (hb.mono HB0.out.size)
      clear hb HB0
      go_wp2
      go_ret
      exact ⟨rfl, HB2.out⟩
    · have h1' : ¬ (200 : Int) < (l.length : Int) := by omega
      have h2' : (100 : Int) < (c.zone.size : Int) := by omega
      clear h1 hs hz
      generalize c.zone = zs at HZ21 h2'
      generalize c.arr = cs at HI HZ21 ⊢
      go_enter Tryd.func5, Tryd.ntmps5
      go_upto_region 1 with fail
      generalize hW0 : w.alloc _ = W0
      have g21 : W0.cell? ⟨w.heap.size, 21, none⟩ = some (.string zs) := by rw [← hW0]; exact (HasBox.cell (heap_alloc_new w _) 21).trans HZ21.out
      have HB0 : Hid (Below w.heap.size w W0) := by show Below _ _ _; rw [← hW0]; exact (Below.refl _ _).alloc (Nat.le_refl _) _
      clear hW0
      go_wp2_with fail
      refine (awake11_any _ (HT.out.below HB0.out)).mono ?_
      rintro e w2 ⟨rfl, hb⟩
      have HB2 : Hid (Below w.heap.size w w2) := HB0.out.trans (hb.mono HB0.out.size)
      clear hb HB0 g21
      go_wp2
      go_ret
      exact ⟨rfl, HB2.out⟩
  · have h1' : ¬ (200 : Int) < (l.length : Int) := by omega
    have h2' : ¬ (100 : Int) < (c.zone.size : Int) := by omega
    have HLen : Hid (l.length ≤ 200) := by show _ ≤ _; omega
    obtain ⟨k, hk, hkm⟩ := u_modl pl (l.length + 1) (by omega)
    have HCap : Hid (l.length ≤ cap) := HL.out.2.1.2.1
    have HJ : Hid ((0 : Int) ≤ (k : Int) ∧ (k : Int) ≤ (l.length : Int) ∧ (k : Int) ≤ (cap : Int)) := by show _ ∧ _ ∧ _; have := HCap.out; omega
    have HK : Hid (k ≤ l.length) := by show _ ≤ _; omega
    have hk1 : wrap64 ((l.length : Int) + 1) = (l.length : Int) + 1 := by unfold wrap64; omega
    have hk2 : IntKind.i64.wrap ((l.length : Int) + 1) = (l.length : Int) + 1 := wrap_in (by omega) (by omega)
    have hk3 : IntKind.u64.wrap ((l.length : Int) + 1) = (l.length : Int) + 1 := by rw [IntKind.wrap_u64]; omega
    have hk4 : (IntKind.u64.wrap pl).tmod ((l.length : Int) + 1) = (k : Int) := by simpa using hkm
    have hk5 : IntKind.i64.wrap (k : Int) = (k : Int) := wrap_in (by omega) (by omega)
    have hk6 : IntKind.u64.wrap (k : Int) = (k : Int) := by rw [IntKind.wrap_u64]; omega
    have HMay : Hid (∀ W : World, Calls Tryd.prog 10 #[.agg (knownC c).arr] W fun e w' => e = .returned (.bool true) ∧ Below W.heap.size W w') := fun W => by
      have := rMay_any (knownC c) W (known_zone hz)
      rw [known_may] at this
      exact this
    have HHd : Hid (∀ W : World, Calls Tryd.prog 11 #[.agg c.arr] W fun e w' => e = .returned (.agg (knownC c).arr) ∧ Below W.heap.size W w') := fun W => rHeld_any c W hz
    have HIn : Hid (0 ≤ capS n ∧ capS n ≤ topS) := capS_in n
    obtain ⟨⟨a0, a1⟩, x0, x1⟩ := runS_upto (knownC c).f7 (capS n) l k HK.out HIn.out.1 HIn.out.2
    obtain ⟨_, y0, y1⟩ := runS_in (knownC c).f7 (l.drop k) _ a0 a1
    have hcap := capS_self a0 a1
    have HAl1 : Hid (∀ W : World, TabC W → IsBools W (.slice ao l.length cap) l → Calls Tryd.prog 9 #[.agg c.arr, .int .i64 n, .slice ao k cap] W fun e w' => e = .returned (.tuple #[.int .i64 (runS (knownC c).f7 (capS n) (l.take k)).1, .int .i64 (runS (knownC c).f7 (capS n) (l.take k)).2]) ∧ Below W.heap.size W w') := fun W h hl => all_any c n (l.take k) _ (by have := HLen.out; rw [List.length_take]; omega) W h hz (bools_upto hl k HK.out)
    have HAl2 : Hid (∀ W : World, TabC W → IsBools W (.slice ao l.length cap) l → Calls Tryd.prog 9 #[.agg c.arr, .int .i64 (runS (knownC c).f7 (capS n) (l.take k)).1, .slice (if cap = k then ao else Option.map (fun x => x.add k) ao) (l.length - k) (cap - k)] W fun e w' => e = .returned (.tuple #[.int .i64 (runS (knownC c).f7 (runS (knownC c).f7 (capS n) (l.take k)).1 (l.drop k)).1, .int .i64 (runS (knownC c).f7 (runS (knownC c).f7 (capS n) (l.take k)).1 (l.drop k)).2]) ∧ Below W.heap.size W w') := fun W h hl => by
      have := all_any c (runS (knownC c).f7 (capS n) (l.take k)).1 (l.drop k) _ (by have := HLen.out; rw [List.length_drop]; omega) W h hz (bools_from hl k HK.out)
      rw [hcap] at this
      exact this
    have HAl3 : Hid (∀ W : World, TabC W → IsBools W (.slice ao l.length cap) l → Calls Tryd.prog 9 #[.agg c.arr, .int .i64 n, .slice ao l.length cap] W fun e w' => e = .returned (.tuple #[.int .i64 (runS (knownC c).f7 (runS (knownC c).f7 (capS n) (l.take k)).1 (l.drop k)).1, .int .i64 ((runS (knownC c).f7 (capS n) (l.take k)).2 + (runS (knownC c).f7 (runS (knownC c).f7 (capS n) (l.take k)).1 (l.drop k)).2)]) ∧ Below W.heap.size W w') := fun W h hl => by
      have := all_any c n l _ (by have := HLen.out; omega) W h hz hl
      have e := runS_append (knownC c).f7 (capS n) (l.take k) (l.drop k)
      rw [List.take_append_drop] at e
      rw [e] at this
      exact this
    rw [List.length_drop] at y1
    clear hs hz hkm hcap a0 a1 HIn
    generalize (runS (knownC c).f7 (runS (knownC c).f7 (capS n) (l.take k)).1 (l.drop k)).1 = B1 at HAl2 HAl3
    generalize (runS (knownC c).f7 (runS (knownC c).f7 (capS n) (l.take k)).1 (l.drop k)).2 = Y1 at HAl2 HAl3 y0 y1
    generalize (runS (knownC c).f7 (capS n) (l.take k)).1 = A1 at HAl1 HAl2
    generalize (runS (knownC c).f7 (capS n) (l.take k)).2 = X1 at HAl1 HAl3 x0 x1
    have HSum : Hid (IntKind.i64.wrap (X1 + Y1) = X1 + Y1) := wrap_in (by have := HLen.out; omega) (by have := HLen.out; omega)
    clear x0 x1 y0 y1 hk
    generalize (knownC c).arr = ds at HMay HHd
    generalize c.zone = zs at HZ21 h2'
    generalize c.arr = cs at HI HZ21 HHd HAl1 HAl2 HAl3 ⊢
    go_enter Tryd.func5, Tryd.ntmps5
    go_upto_region 1 with fail
    generalize hW0 : w.alloc _ = W0
    have HC0 : Hid (CellsAt W0 w.heap.size cs) := by show CellsAt _ _ _; rw [← hW0]; exact heap_alloc_new w _
    have HB0 : Hid (Below w.heap.size w W0) := by show Below _ _ _; rw [← hW0]; exact (Below.refl _ _).alloc (Nat.le_refl _) _
    have g21 : W0.cell? ⟨w.heap.size, 21, none⟩ = some (.string zs) := (HasBox.cell HC0.out 21).trans HZ21.out
    clear hW0
    go_upto_region 4 with fail
    clear g21 h1' h2' HZ21 hk1 hk2 hk3 hk4 hk5 hk6
    have HCa : ∀ W, Below W0.heap.size W0 W → CellsAt W w.heap.size cs := fun W h => HC0.out.below h
    have HA1 : ∀ W, Below W0.heap.size W0 W → Calls Tryd.prog 9 #[.agg cs, .int .i64 n, .slice ao k cap] W fun e w' => e = .returned (.tuple #[.int .i64 A1, .int .i64 X1]) ∧ Below W.heap.size W w' := fun W h => HAl1.out W (HT.out.below (HB0.out.trans (h.mono HB0.out.size))) (HL.out.below (HB0.out.trans (h.mono HB0.out.size)))
    clear HAl1
    refine wp_region_mp ([eqP (.agg cs), eqP (.int .i64 n), eqP (.slice ao l.length cap), eqP (.int .i64 (k : Int)), eqP (.slice ao k cap), eqP (.tuple #[.int .i64 A1, .int .i64 X1]), eqP (.tuple #[.int .i64 A1, .int .i64 X1]), eqP (.int .i64 A1), eqP (.int .i64 X1), eqP (.int .i64 A1), eqP (.int .i64 X1)]) (by kernel_rfl) (by kernel_rfl) ?_ ?_
    · simp only [stepsAll3]
      refine ⟨fun a W hF hE hd => ?_, fun a W hF hE hd => ?_, fun a W hF hE hd => ?_, fun a W hF hE hd => ?_, fun a W hF hE hd => ?_, fun a W hF hE hd => ?_, fun a W hF hE hd => ?_, fun a W hF hE hd => ?_, fun a W hF hE hd => ?_, fun a W hF hE hd => ?_, fun a W hF hE hd => ?_, trivial⟩
      all_goals unfold StepAt
      · have t4 : a.tmps.getD 4 undef = .pointer (some ⟨w.heap.size, 0, none⟩) := hF.at 4 (by kernel_rfl)
        rw [Array.getD_eq_getD_getElem?] at t4
        refine .inl ⟨rfl, ?_⟩
        rw [run_oload _ _ 23 (.tmp 4) rfl w.heap.size (by simpa [Act.eval] using t4) 23 cs (0, 0) _ (HCa W hE) Tryd.underlying23 rfl HI.out]
        exact ⟨Below.refl _ _, rfl⟩
      · have t1 : a.tmps.getD 1 undef = .int .i64 n := hF.at 1 (by kernel_rfl)
        rw [Array.getD_eq_getD_getElem?] at t1
        refine .inl ⟨rfl, ?_⟩
        go_simp
        exact ⟨Below.refl _ _, rfl⟩
      · have t2 : a.tmps.getD 2 undef = .slice ao l.length cap := hF.at 2 (by kernel_rfl)
        rw [Array.getD_eq_getD_getElem?] at t2
        refine .inl ⟨rfl, ?_⟩
        go_simp
        exact ⟨Below.refl _ _, rfl⟩
      · have t9 : a.tmps.getD 9 undef = .int .i64 (k : Int) := hF.at 9 (by kernel_rfl)
        rw [Array.getD_eq_getD_getElem?] at t9
        refine .inl ⟨rfl, ?_⟩
        go_simp
        exact ⟨Below.refl _ _, rfl⟩
      · have t37 : a.tmps.getD 37 undef = .slice ao l.length cap := hd { on := 2, ground := .data } (by simp) rfl
        rw [Array.getD_eq_getD_getElem?] at t37
        have t38 : a.tmps.getD 38 undef = .int .i64 (k : Int) := hd { on := 3, ground := .data } (by simp) rfl
        rw [Array.getD_eq_getD_getElem?] at t38
        refine .inl ⟨rfl, ?_⟩
        have j1 : (0 : Int) ≤ (k : Int) := HJ.out.1
        have j2 : (k : Int) ≤ (l.length : Int) := HJ.out.2.1
        have j3 : (k : Int) ≤ (cap : Int) := HJ.out.2.2
        go_simp
        exact ⟨Below.refl _ _, rfl⟩
      · have t35 : a.tmps.getD 35 undef = .agg cs := hd { on := 0, ground := .data } (by simp) rfl
        rw [Array.getD_eq_getD_getElem?] at t35
        have t36 : a.tmps.getD 36 undef = .int .i64 n := hd { on := 1, ground := .data } (by simp) rfl
        rw [Array.getD_eq_getD_getElem?] at t36
        have t39 : a.tmps.getD 39 undef = .slice ao k cap := hd { on := 4, ground := .data } (by simp) rfl
        rw [Array.getD_eq_getD_getElem?] at t39
        refine .inl ⟨rfl, ?_⟩
        go_simp
        exact (HA1 W hE).mono fun e w2 h => ⟨_, h.1, h.2, rfl⟩
      · have t40 : a.tmps.getD 40 undef = .tuple #[.int .i64 A1, .int .i64 X1] := hd { on := 5, ground := .data } (by simp) rfl
        rw [Array.getD_eq_getD_getElem?] at t40
        refine .inl ⟨rfl, ?_⟩
        go_simp
        exact ⟨Below.refl _ _, rfl⟩
      · have t34 : a.tmps.getD 34 undef = .tuple #[.int .i64 A1, .int .i64 X1] := hd { on := 6, ground := .data } (by simp) rfl
        rw [Array.getD_eq_getD_getElem?] at t34
        refine .inl ⟨rfl, ?_⟩
        go_simp
        exact ⟨Below.refl _ _, rfl⟩
      · have t34 : a.tmps.getD 34 undef = .tuple #[.int .i64 A1, .int .i64 X1] := hd { on := 6, ground := .data } (by simp) rfl
        rw [Array.getD_eq_getD_getElem?] at t34
        refine .inl ⟨rfl, ?_⟩
        go_simp
        exact ⟨Below.refl _ _, rfl⟩
      · have t41 : a.tmps.getD 41 undef = .int .i64 A1 := hd { on := 7, ground := .data } (by simp) rfl
        rw [Array.getD_eq_getD_getElem?] at t41
        refine .inl ⟨rfl, ?_⟩
        go_simp
        exact ⟨Below.refl _ _, rfl⟩
      · have t42 : a.tmps.getD 42 undef = .int .i64 X1 := hd { on := 8, ground := .data } (by simp) rfl
        rw [Array.getD_eq_getD_getElem?] at t42
        refine .inl ⟨rfl, ?_⟩
        go_simp
        exact ⟨Below.refl _ _, rfl⟩
    · intro vs W hE hV
      have h9 : vs 9 = .int .i64 A1 := hV 9 (by decide)
      have h10 : vs 10 = .int .i64 X1 := hV 10 (by decide)
      have HBf : Hid (Below w.heap.size w W) := HB0.out.trans (hE.mono HB0.out.size)
      clear hV
      simp only [putsV, dstsV, List.foldl, h9, h10, Act.put, List.setIfInBounds_toArray, List.set_cons_succ, List.set_cons_zero]
      clear h9 h10
      generalize vs 0 = y0
      generalize vs 1 = y1
      generalize vs 2 = y2
      generalize vs 3 = y3
      generalize vs 4 = y4
      generalize vs 5 = y5
      generalize vs 6 = y6
      generalize vs 7 = y7
      generalize vs 8 = y8
      refine ‹∀ (a : Act) (w : World), Code.wp Tryd.prog (_) _ a w → _› _ _ ?_
      have HC1 : Hid (CellsAt W w.heap.size cs) := HC0.out.below hE
      have HB1 : Hid (Below w.heap.size w W) := HBf
      clear HCa HA1 HC0 HB0 HBf
      go_upto_region 5 with fail
      have HCb : ∀ W', Below W.heap.size W W' → CellsAt W' w.heap.size cs := fun W' h => HC1.out.below h
      have HA2 : ∀ W', Below W.heap.size W W' → Calls Tryd.prog 9 #[.agg cs, .int .i64 A1, .slice (if cap = k then ao else Option.map (fun x => x.add k) ao) (l.length - k) (cap - k)] W' fun e w' => e = .returned (.tuple #[.int .i64 B1, .int .i64 Y1]) ∧ Below W'.heap.size W' w' := fun W' h => HAl2.out W' (HT.out.below (HB1.out.trans (h.mono HB1.out.size))) (HL.out.below (HB1.out.trans (h.mono HB1.out.size)))
      clear HAl2
      generalize W = W1 at HC1 HB1 HCb HA2 ⊢
      refine wp_region_mp ([eqP (.agg cs), eqP (.int .i64 A1), eqP (.slice ao l.length cap), eqP (.int .i64 (k : Int)), eqP (.slice (if cap = k then ao else Option.map (fun x => x.add k) ao) (l.length - k) (cap - k)), eqP (.tuple #[.int .i64 B1, .int .i64 Y1]), eqP (.tuple #[.int .i64 B1, .int .i64 Y1]), eqP (.int .i64 B1), eqP (.int .i64 Y1), eqP (.int .i64 B1), eqP (.int .i64 Y1)]) (by kernel_rfl) (by kernel_rfl) ?_ ?_
      · simp only [stepsAll3]
        refine ⟨fun a W hF hE hd => ?_, fun a W hF hE hd => ?_, fun a W hF hE hd => ?_, fun a W hF hE hd => ?_, fun a W hF hE hd => ?_, fun a W hF hE hd => ?_, fun a W hF hE hd => ?_, fun a W hF hE hd => ?_, fun a W hF hE hd => ?_, fun a W hF hE hd => ?_, fun a W hF hE hd => ?_, trivial⟩
        all_goals unfold StepAt
        · have t4 : a.tmps.getD 4 undef = .pointer (some ⟨w.heap.size, 0, none⟩) := hF.at 4 (by kernel_rfl)
          rw [Array.getD_eq_getD_getElem?] at t4
          refine .inl ⟨rfl, ?_⟩
          rw [run_oload _ _ 23 (.tmp 4) rfl w.heap.size (by simpa [Act.eval] using t4) 23 cs (0, 0) _ (HCb W hE) Tryd.underlying23 rfl HI.out]
          exact ⟨Below.refl _ _, rfl⟩
        · have t10 : a.tmps.getD 10 undef = .int .i64 A1 := hF.at 10 (by kernel_rfl)
          rw [Array.getD_eq_getD_getElem?] at t10
          refine .inl ⟨rfl, ?_⟩
          go_simp
          exact ⟨Below.refl _ _, rfl⟩
        · have t2 : a.tmps.getD 2 undef = .slice ao l.length cap := hF.at 2 (by kernel_rfl)
          rw [Array.getD_eq_getD_getElem?] at t2
          refine .inl ⟨rfl, ?_⟩
          go_simp
          exact ⟨Below.refl _ _, rfl⟩
        · have t9 : a.tmps.getD 9 undef = .int .i64 (k : Int) := hF.at 9 (by kernel_rfl)
          rw [Array.getD_eq_getD_getElem?] at t9
          refine .inl ⟨rfl, ?_⟩
          go_simp
          exact ⟨Below.refl _ _, rfl⟩
        · have t46 : a.tmps.getD 46 undef = .slice ao l.length cap := hd { on := 2, ground := .data } (by simp) rfl
          rw [Array.getD_eq_getD_getElem?] at t46
          have t47 : a.tmps.getD 47 undef = .int .i64 (k : Int) := hd { on := 3, ground := .data } (by simp) rfl
          rw [Array.getD_eq_getD_getElem?] at t47
          refine .inl ⟨rfl, ?_⟩
          have j1 : (0 : Int) ≤ (k : Int) := HJ.out.1
          have j2 : (k : Int) ≤ (l.length : Int) := HJ.out.2.1
          have j3 : (k : Int) ≤ (cap : Int) := HJ.out.2.2
          go_simp
          exact ⟨Below.refl _ _, rfl⟩
        · have t44 : a.tmps.getD 44 undef = .agg cs := hd { on := 0, ground := .data } (by simp) rfl
          rw [Array.getD_eq_getD_getElem?] at t44
          have t45 : a.tmps.getD 45 undef = .int .i64 A1 := hd { on := 1, ground := .data } (by simp) rfl
          rw [Array.getD_eq_getD_getElem?] at t45
          have t48 : a.tmps.getD 48 undef = .slice (if cap = k then ao else Option.map (fun x => x.add k) ao) (l.length - k) (cap - k) := hd { on := 4, ground := .data } (by simp) rfl
          rw [Array.getD_eq_getD_getElem?] at t48
          refine .inl ⟨rfl, ?_⟩
          go_simp
          exact (HA2 W hE).mono fun e w2 h => ⟨_, h.1, h.2, rfl⟩
        · have t49 : a.tmps.getD 49 undef = .tuple #[.int .i64 B1, .int .i64 Y1] := hd { on := 5, ground := .data } (by simp) rfl
          rw [Array.getD_eq_getD_getElem?] at t49
          refine .inl ⟨rfl, ?_⟩
          go_simp
          exact ⟨Below.refl _ _, rfl⟩
        · have t43 : a.tmps.getD 43 undef = .tuple #[.int .i64 B1, .int .i64 Y1] := hd { on := 6, ground := .data } (by simp) rfl
          rw [Array.getD_eq_getD_getElem?] at t43
          refine .inl ⟨rfl, ?_⟩
          go_simp
          exact ⟨Below.refl _ _, rfl⟩
        · have t43 : a.tmps.getD 43 undef = .tuple #[.int .i64 B1, .int .i64 Y1] := hd { on := 6, ground := .data } (by simp) rfl
          rw [Array.getD_eq_getD_getElem?] at t43
          refine .inl ⟨rfl, ?_⟩
          go_simp
          exact ⟨Below.refl _ _, rfl⟩
        · have t50 : a.tmps.getD 50 undef = .int .i64 B1 := hd { on := 7, ground := .data } (by simp) rfl
          rw [Array.getD_eq_getD_getElem?] at t50
          refine .inl ⟨rfl, ?_⟩
          go_simp
          exact ⟨Below.refl _ _, rfl⟩
        · have t51 : a.tmps.getD 51 undef = .int .i64 Y1 := hd { on := 8, ground := .data } (by simp) rfl
          rw [Array.getD_eq_getD_getElem?] at t51
          refine .inl ⟨rfl, ?_⟩
          go_simp
          exact ⟨Below.refl _ _, rfl⟩
      · intro vs W hE hV
        have h9 : vs 9 = .int .i64 B1 := hV 9 (by decide)
        have h10 : vs 10 = .int .i64 Y1 := hV 10 (by decide)
        have HBf : Hid (Below w.heap.size w W) := HB1.out.trans (hE.mono HB1.out.size)
        clear hV
        simp only [putsV, dstsV, List.foldl, h9, h10, Act.put, List.setIfInBounds_toArray, List.set_cons_succ, List.set_cons_zero]
        clear h9 h10
        generalize vs 0 = y0
        generalize vs 1 = y1
        generalize vs 2 = y2
        generalize vs 3 = y3
        generalize vs 4 = y4
        generalize vs 5 = y5
        generalize vs 6 = y6
        generalize vs 7 = y7
        generalize vs 8 = y8
        refine ‹∀ (a : Act) (w : World), Code.wp Tryd.prog (_) _ a w → _› _ _ ?_
        have HC2 : Hid (CellsAt W w.heap.size cs) := HC1.out.below hE
        have HB2 : Hid (Below w.heap.size w W) := HBf
        clear HCb HA2 HC1 HB1 HBf
        go_wp2_with (first | (refine wpList_load_bx rfl 23 (.tmp 4) rfl w.heap.size rfl 23 _ _ HC2.out Tryd.underlying23 rfl HI.out ?_) | fail)
        refine (HAl3.out _ (HT.out.below HB2.out) (HL.out.below HB2.out)).mono ?_
        rintro e w3 ⟨rfl, hb⟩
        have HC3 : Hid (CellsAt w3 w.heap.size cs) := HC2.out.below hb
        have HB3 : Hid (Below w.heap.size w w3) := HB2.out.trans (hb.mono HB2.out.size)
        have hsum := HSum.out
        clear hb HC2 HB2 HAl3
        go_wp2_with (first | (refine wpList_load_bx rfl 23 (.tmp 4) rfl w.heap.size rfl 23 _ _ HC3.out Tryd.underlying23 rfl HI.out ?_) | fail)
        refine (HHd.out _).mono ?_
        rintro e w4 ⟨rfl, hb⟩
        have HB4 : Hid (Below w.heap.size w w4) := HB3.out.trans (hb.mono HB3.out.size)
        clear hb HC3 HB3 HHd hsum
        go_wp2_with fail
        refine (HMay.out _).mono ?_
        rintro e w5 ⟨rfl, hb⟩
        have HB5 : Hid (Below w.heap.size w w5) := HB4.out.trans (hb.mono HB4.out.size)
        clear hb HB4 HMay
        go_wp2_with fail
        refine (awake11_any _ (HT.out.below HB5.out)).mono ?_
        rintro e w6 ⟨rfl, hb⟩
        have HB6 : Hid (Below w.heap.size w w6) := HB5.out.trans (hb.mono HB5.out.size)
        clear hb HB5
        go_wp2
        go_ret
        exact ⟨rfl, HB6.out⟩

theorem reads_StreakParts (os : Os) {H : Type} (enc : TypeId × Value → H) : ∃ places, DataW.whole enc Tryd.prog ((laidWorld os).forCall (fun _ _ => 0) ⟨#[], #[.agg #[.int .i64 0, .int .i64 0, .int .i64 0, .int .i64 0, .int .i64 0, .int .i64 0, .int .i64 0, .int .i64 0, .int .i64 0, .int .i64 0, .int .i64 0, .int .i64 0, .int .i64 0, .int .i64 0, .int .i64 0, .bool false, .int .i64 0, .int .i64 0, .int .i64 0, .int .i64 0, .int .i64 0, .string ByteArray.empty, .bool false], .int .i64 0, .slice none 0 0, .int .i64 0], []⟩).memory Tryd.f5.params.toList Rows.streakPartsSpec.vars false (#[.agg #[.int .i64 0, .int .i64 0, .int .i64 0, .int .i64 0, .int .i64 0, .int .i64 0, .int .i64 0, .int .i64 0, .int .i64 0, .int .i64 0, .int .i64 0, .int .i64 0, .int .i64 0, .int .i64 0, .int .i64 0, .bool false, .int .i64 0, .int .i64 0, .int .i64 0, .int .i64 0, .int .i64 0, .string ByteArray.empty, .bool false], .int .i64 0, .slice none 0 0, .int .i64 0] : Array Value).toList 8 = some ([.agg [.lit (.int .i64 0), .lit (.int .i64 0), .lit (.int .i64 0), .lit (.int .i64 0), .lit (.int .i64 0), .lit (.int .i64 0), .lit (.int .i64 0), .lit (.int .i64 0), .lit (.int .i64 0), .lit (.int .i64 0), .lit (.int .i64 0), .lit (.int .i64 0), .lit (.int .i64 0), .lit (.int .i64 0), .lit (.int .i64 0), .lit (.bool false), .lit (.int .i64 0), .lit (.int .i64 0), .lit (.int .i64 0), .lit (.int .i64 0), .lit (.int .i64 0), .lit (.string []), .lit (.bool false)], .lit (.int .i64 0), .nil, .lit (.int .i64 0)], [], places) :=
  ⟨[], by kernel_rfl⟩

set_option maxRecDepth 100000 in
theorem lifted_StreakParts (os : Os) (started : os.Started) (H : Type) (enc : TypeId × Value → H) (F : Stop.Interp) :
    ReturnsInHanded {} Tryd.checked os 5 .any ((OpenSpec.ofChange Rows.streakPartsSpec).preRow enc Tryd.prog Tryd.f5 Rows.streakPartsRow.domain false Rows.streakPartsRow.laid) (((OpenSpec.ofChange Rows.streakPartsSpec).at F).post enc Tryd.prog Tryd.f5 false true false false) := by
  obtain ⟨places, hx⟩ := reads_StreakParts os enc
  refine returnsInHanded_of_row (C := Tryd.checked) (s := OpenSpec.ofChange Rows.streakPartsSpec) own started (by kernel_rfl) Tryd.func5
    (witness_row_at (enc := enc) (C := Tryd.checked) false (laidWorld os) #[.agg #[.int .i64 0, .int .i64 0, .int .i64 0, .int .i64 0, .int .i64 0, .int .i64 0, .int .i64 0, .int .i64 0, .int .i64 0, .int .i64 0, .int .i64 0, .int .i64 0, .int .i64 0, .int .i64 0, .int .i64 0, .bool false, .int .i64 0, .int .i64 0, .int .i64 0, .int .i64 0, .int .i64 0, .string ByteArray.empty, .bool false], .int .i64 0, .slice none 0 0, .int .i64 0] rfl (by kernel_rfl) (by kernel_rfl) (by kernel_rfl)
      (OpenSpec.preRow_of_cond 8 hx (by kernel_rfl) (fun k hk => by cases hk) (by kernel_rfl) (laid_met os _))) ?_
  intro W base args ds gs before hval0 hW _ _ hsz0 hL _ _
  have htab := table hL
  have hval : ∀ (j : Nat) t v, Tryd.f5.params[j]? = some t → args[j]? = some v → Value.okWide Tryd.prog W .any base t v := hval0
  have hW' := hW
  obtain ⟨p, q, hA0, hV, rfl, hfz, hnd⟩ := hW
  have hA : DataW.TrodAll enc Tryd.prog W 0 (fun _ => true) true Tryd.f5.params.toList args.toList ds p := hA0
  rw [Tryd.params5] at hA hval
  obtain ⟨v0, vs0, d0, ds0, p0, q0, hargs, rfl, rfl, h0, r0⟩ := trodAll_cons hA
  obtain ⟨v1, vs1, d1, ds1, p1, q1, rfl, rfl, rfl, h1, r1⟩ := trodAll_cons r0
  obtain ⟨v2, vs2, d2, ds2, p2, q2, rfl, rfl, rfl, h2, r2⟩ := trodAll_cons r1
  obtain ⟨v3, vs3, d3, ds3, p3, q3, rfl, rfl, rfl, h3, r3⟩ := trodAll_cons r2
  obtain ⟨rfl, rfl, rfl⟩ := trodAll_nil r3
  obtain rfl : args = #[v0, v1, v2, v3] := by cases args; simp_all
  obtain ⟨rfl, rfl⟩ := trodVars_none hV
  have k0 := h0
  have lt0 : ∀ x ∈ p0, x.block < W.heap.size := by obtain ⟨m, hm⟩ := k0; exact DataW.trod_lt m _ _ _ hm
  obtain ⟨z0, rfl, w0⟩ := open_cfg (hval 0 23 v0 rfl rfl) h0
  obtain ⟨a1, rfl, rfl, rfl, w1⟩ := open_int Tryd.underlying3 (hval 1 3 v1 rfl rfl) h1
  have k2 := h2
  have lt2 : ∀ x ∈ p2, x.block < W.heap.size := by obtain ⟨m, hm⟩ := k2; exact DataW.trod_lt m _ _ _ hm
  obtain ⟨z2, w2⟩ := open_bools (hval 2 24 v2 rfl rfl) h2
  obtain ⟨a3, rfl, rfl, rfl, w3⟩ := open_int Tryd.underlying3 (hval 3 3 v3 rfl rfl) h3
  clear hA0 hval0
  refine (walk_StreakParts z0 w0 a1 (bounds_i64 w1) z2 v2 a3 (bounds_i64 w3) W htab w2).mono fun e W' ⟨he, bel⟩ => ?_
  subst he
  exact ⟨_, rfl, _, _, _, [], _, [], hW', trodAll_mk1 (shut_bool Tryd.underlying4 _), (trodAll_cons_mk (Below.trod laidOut (by kernel_rfl) (of_decide_eq_true (by kernel_rfl)) k0 bel lt0) (trodAll_cons_mk (shut_int Tryd.underlying3 w1) (trodAll_cons_mk (Below.trod laidOut (by kernel_rfl) (of_decide_eq_true (by kernel_rfl)) k2 bel lt2) (trodAll_cons_mk (shut_int Tryd.underlying3 w3) trodAll_mk0)))), rfl, bel.frame _, fun h => by cases h⟩

theorem said_StreakParts : Rows.StreakPartsSaid :=
  OpenClaim.holds_of_cond 5 Tryd.f5 rfl rfl rfl rfl rfl rfl rfl ⟨rfl, rfl, rfl, rfl, rfl⟩ rfl rfl rfl rfl rfl (by kernel_rfl) Tryd.func5 (by kernel_rfl)
    (of_decide_eq_true (by kernel_rfl)) (by unfold Func.isWrapper; first | (rw [if_pos (by decide +kernel)]; kernel_rfl) | (rw [if_neg (by decide +kernel)]; exact ⟨rfl, rfl⟩))
    (fun os started H enc _ F => by rw [OpenClaim.pre_eq_preRow]; exact lifted_StreakParts os started H enc F)

theorem plain_StreakParts (f : FuncId) (fn : Func) (hf : Tryd.pinned.checked.prog.funcNamed Rows.streakPartsRow.func = some f) (hfn : Tryd.pinned.checked.prog.funcs[f]? = some fn) :
    false = Tryd.pinned.checked.prog.looks [] ∧ ∀ (j : Nat) t, fn.params[j]? = some t → Tryd.pinned.checked.prog.wantsStandIn t = false := by
  obtain rfl : f = 5 := Option.some.inj ((show Tryd.prog.funcNamed Rows.streakPartsRow.func = some 5 by kernel_rfl).symm.trans hf) |>.symm
  obtain rfl : fn = Tryd.f5 := (Option.some.inj (Tryd.func5.symm.trans hfn)).symm
  refine ⟨by kernel_rfl, fun j t ht => ?_⟩
  rw [Tryd.params5] at ht
  have hm := Array.mem_of_getElem? ht
  simp only [List.mem_toArray, List.mem_cons, List.not_mem_nil, or_false] at hm
  rcases hm with rfl | rfl | rfl | rfl
  · exact (show Tryd.prog.wantsStandIn 23 = false by kernel_rfl)
  · exact (show Tryd.prog.wantsStandIn 3 = false by kernel_rfl)
  · exact (show Tryd.prog.wantsStandIn 24 = false by kernel_rfl)
  · exact (show Tryd.prog.wantsStandIn 3 = false by kernel_rfl)

/-- The statement. -/
theorem streakParts_holds : Rows.StreakPartsCardSaid :=
  Claim7.holds_tied_plain_at .later [] _ _ _ _ said_StreakParts (fun _ h => by cases h) (by kernel_rfl) (fun _ h => by cases h) streakParts_row_tie rfl ⟨rfl, rfl⟩ (by kernel_rfl) rfl plain_StreakParts (by kernel_rfl)
#print axioms streakParts_holds

end Go.Proofs.YtjjehjbejldgmaaDoor

/-
  SpreadForms, for all rates, every factor, configuration and row of hosts: Far and Bad answer as the reference does. No condition on the call.
-/
import Derived.Test.YtjknflpclniiiaaDoorSpreadAwake
import Derived.Test.YtjknflpclniiiaaDoorRefBad
import Derived.Test.YtjknflpclniiiaaDoorRefInts
import Derived.Test.YtjknflpclniiiaaDoorRels
import Derived.Test.YtjknflpclniiiaaDoorCfgFrame
namespace Go.Proofs.YtjknflpclniiiaaDoor
open Go.ChangeShapes Go.WideShapes Go.ChangeAt Go.RowKit
open Go.ChangeMaps (open_string shut_string)

def boolsP (l : List Bool) : MP := ⟨fun v w => IsBools w v l, fun h hb => h.below hb⟩
def intsP (l : List Int) : MP := ⟨fun v w => IsInts w v l, fun h hb => h.below hb⟩
theorem farA_length (l : List Int) (f : Int) : (farA l f).length ≤ 64 := by
  by_cases h : mayFarK l f = true
  · rw [farA_yes h, farK_length]; exact ((mayFarK_iff l f).1 h).1
  · rw [farA_no (Bool.eq_false_iff.2 h)]; simp

set_option maxRecDepth 100000 in
set_option maxHeartbeats 8000000 in
theorem walk_SpreadForms (rs : List Int) (rv : Value) (f : Int) (_ : -9223372036854775808 ≤ f ∧ f ≤ 9223372036854775807) (c : Cfg) (hz : c.zone.size ≤ 9223372036854775807) (L : List Rd) (lv : Value) (w : World) (htab : TabC w) (hr : IsInts w rv rs ∧ roomy rv ∧ rs.length ≤ maxLen) (hl : IsRd w lv L) :
    Calls Tryd.prog 3 #[rv, .int .i64 f, .agg c.arr, lv] w fun e w' => e = .returned (.bool true) ∧ Below w.heap.size w w' := by
  have hr := hr.1
  obtain ⟨ro, rc, rfl⟩ := hr.shape
  obtain ⟨lo, lc, rfl⟩ := hl.shaped
  have HT : Hid (TabC w) := htab
  have HL : Hid (IsRd w (.slice lo L.length lc) L) := hl
  have HR : Hid (IsInts w (.slice ro rs.length rc) rs) := hr
  have hl1 : rs.length ≤ 9223372036854775807 := hr.2.1
  have hl2 : L.length ≤ 9223372036854775807 := by have := hl.row.2.1.1; unfold maxLen at this; omega
  clear htab hr hl
  have HI : Hid ((Tryd.prog.info? 24).map (·.size) = some c.arr.size) := arr_inf c
  have HZ21 : Hid (c.arr[21]? = some (.string c.zone)) := rfl
  by_cases h1 : 100 < rs.length
  · have h1' : (100 : Int) < (rs.length : Int) := by omega
    clear h1 HR HL
    generalize c.zone = zs at *

    generalize c.arr = cs at *
    go_enter Tryd.func3, Tryd.ntmps3
    go_upto_region 1 with fail
    generalize hW0 : w.alloc _ = W0
    have HB0 : Hid (Below w.heap.size w W0) := by show Below _ _ _; rw [← hW0]; exact (Below.refl _ _).alloc (Nat.le_refl _) _
    have g21 : W0.cell? ⟨w.heap.size, 21, none⟩ = some (.string zs) := by rw [← hW0]; exact (HasBox.cell (heap_alloc_new w _) 21).trans HZ21.out
    clear hW0
    go_wp2_with fail
    refine (awake13_any _ (HT.out.below HB0.out)).mono ?_
    rintro e w2 ⟨rfl, hb⟩
    have HB2 : Hid (Below w.heap.size w w2) := HB0.out.trans (hb.mono HB0.out.size)
    clear hb HB0 g21
    go_wp2
    go_ret
    exact ⟨rfl, HB2.out⟩
  have h1' : ¬ (100 : Int) < (rs.length : Int) := by omega
  by_cases h2 : 100 < L.length
  · have h2' : (100 : Int) < (L.length : Int) := by omega
    clear h1 h2 HR HL
    generalize c.zone = zs at *

    generalize c.arr = cs at *
    go_enter Tryd.func3, Tryd.ntmps3
    go_upto_region 1 with fail
    generalize hW0 : w.alloc _ = W0
    have HB0 : Hid (Below w.heap.size w W0) := by show Below _ _ _; rw [← hW0]; exact (Below.refl _ _).alloc (Nat.le_refl _) _
    have g21 : W0.cell? ⟨w.heap.size, 21, none⟩ = some (.string zs) := by rw [← hW0]; exact (HasBox.cell (heap_alloc_new w _) 21).trans HZ21.out
    clear hW0
    go_wp2_with fail
    refine (awake13_any _ (HT.out.below HB0.out)).mono ?_
    rintro e w2 ⟨rfl, hb⟩
    have HB2 : Hid (Below w.heap.size w w2) := HB0.out.trans (hb.mono HB0.out.size)
    clear hb HB0 g21
    go_wp2
    go_ret
    exact ⟨rfl, HB2.out⟩
  have h2' : ¬ (100 : Int) < (L.length : Int) := by omega
  by_cases h3 : 100 < c.zone.size
  · have h3' : (100 : Int) < (c.zone.size : Int) := by omega
    clear h1 h2 h3 HR HL hz
    generalize c.zone = zs at *

    generalize c.arr = cs at *
    go_enter Tryd.func3, Tryd.ntmps3
    go_upto_region 1 with fail
    generalize hW0 : w.alloc _ = W0
    have HB0 : Hid (Below w.heap.size w W0) := by show Below _ _ _; rw [← hW0]; exact (Below.refl _ _).alloc (Nat.le_refl _) _
    have g21 : W0.cell? ⟨w.heap.size, 21, none⟩ = some (.string zs) := by rw [← hW0]; exact (HasBox.cell (heap_alloc_new w _) 21).trans HZ21.out
    clear hW0
    go_wp2_with fail
    refine (awake13_any _ (HT.out.below HB0.out)).mono ?_
    rintro e w2 ⟨rfl, hb⟩
    have HB2 : Hid (Below w.heap.size w w2) := HB0.out.trans (hb.mono HB0.out.size)
    clear hb HB0 g21
    go_wp2
    go_ret
    exact ⟨rfl, HB2.out⟩
  have h3' : ¬ (100 : Int) < (c.zone.size : Int) := by omega
  have hb1 : ∀ W, Below w.heap.size w W → Calls Tryd.prog 9 #[.slice ro rs.length rc, .int .i64 f] W fun e w' => ∃ v', e = .returned v' ∧ IsBools w' v' (farA rs f) ∧ Below W.heap.size W w' := fun W h => far_any rs f _ W (HR.out.below h)
  have hb2 : ∀ W, Below w.heap.size w W → Calls Tryd.prog 10 #[.slice ro rs.length rc, .int .i64 f] W fun e w' => ∃ v', e = .returned v' ∧ IsBools w' v' (farA rs f) ∧ Below W.heap.size W w' := fun W h => rFar_any rs f _ W (HR.out.below h) (by omega)
  have hb3 : ∀ W, Below w.heap.size w W → Calls Tryd.prog 12 #[.agg c.arr, .slice lo L.length lc] W fun e w' => ∃ v', e = .returned v' ∧ IsInts w' v' (badL c L) ∧ Below W.heap.size W w' := fun W h => bad_any c L _ W (HT.out.below h) hz (HL.out.below h)
  have hb4 : ∀ W, Below w.heap.size w W → Calls Tryd.prog 13 #[.agg c.arr, .slice lo L.length lc] W fun e w' => ∃ v', e = .returned v' ∧ IsInts w' v' (badL c L) ∧ Below W.heap.size W w' := fun W h => rBad_any c L _ W hz (HL.out.below h)
  have hFl : (farA rs f).length ≤ 1000000 := Nat.le_trans (farA_length rs f) (by omega)
  have HBo : ∀ (W : World) (v u : Value), IsBools W v (farA rs f) → IsBools W u (farA rs f) → Calls Tryd.prog 8 #[v, u] W fun e w' => e = .returned (.bool true) ∧ Below W.heap.size W w' := fun W v u h4 h5 => by
    have := bools_any (farA rs f) (farA rs f) v u W h4 h5 hFl
    rwa [decide_eq_true rfl] at this
  have HIn : ∀ (W : World) (v u : Value), IsInts W v (badL c L) → IsInts W u (badL c L) → Calls Tryd.prog 11 #[v, u] W fun e w' => e = .returned (.bool true) ∧ Below W.heap.size W w' := fun W v u h4 h5 => by
    have := rInts_any (badL c L) (badL c L) v u W h4 h5
    rwa [decide_eq_true rfl] at this
  clear h1 h2 h3 hz hFl
  generalize farA rs f = FA at *
  generalize badL c L = BA at *
  generalize c.zone = zs at *
  generalize c.arr = cs at *
  go_enter Tryd.func3, Tryd.ntmps3
  go_upto_region 1 with fail
  generalize hW0 : w.alloc _ = W0
  have HC0 : HasBox W0 w.heap.size 24 cs := by rw [← hW0]; exact hasBox_new w _ _
  have HB0 : Hid (Below w.heap.size w W0) := by show Below _ _ _; rw [← hW0]; exact (Below.refl _ _).alloc (Nat.le_refl _) _
  clear hW0
  have g21 : W0.cell? ⟨w.heap.size, 21, none⟩ = some (.string zs) := (HC0.cell 21).trans HZ21.out
  go_wp2
  have HCa : ∀ W, Below W0.heap.size W0 W → HasBox W w.heap.size 24 cs := fun W h => HC0.below h
  have HFar := fun W (h : Below W0.heap.size W0 W) => hb1 W (HB0.out.trans (h.mono HB0.out.size))
  have HrFar := fun W (h : Below W0.heap.size W0 W) => hb2 W (HB0.out.trans (h.mono HB0.out.size))
  have HBad := fun W (h : Below W0.heap.size W0 W) => hb3 W (HB0.out.trans (h.mono HB0.out.size))
  have HrBad := fun W (h : Below W0.heap.size W0 W) => hb4 W (HB0.out.trans (h.mono HB0.out.size))
  have HAw := fun W (h : Below W0.heap.size W0 W) => awake13_any W (HT.out.below (HB0.out.trans (h.mono HB0.out.size)))
  clear hb1 hb2 hb3 hb4 HC0 g21 h1' h2' h3'
  refine wp_region_mp ([eqP (.slice ro rs.length rc), eqP (.int .i64 f), boolsP FA, eqP (.slice ro rs.length rc), eqP (.int .i64 f), boolsP FA, eqP (.bool true), eqP (.bool true), eqP (.agg cs), eqP (.slice lo L.length lc), intsP BA, eqP (.agg cs), eqP (.slice lo L.length lc), intsP BA, eqP (.bool true), eqP (.bool true), eqP (.bool true), eqP (.bool true), eqP (.bool true), eqP (.bool true)]) (by kernel_rfl) (by kernel_rfl) ?_ ?_
  · simp only [stepsAll3]
    refine ⟨fun a W hF hE hd => ?_, fun a W hF hE hd => ?_, fun a W hF hE hd => ?_, fun a W hF hE hd => ?_, fun a W hF hE hd => ?_, fun a W hF hE hd => ?_, fun a W hF hE hd => ?_, fun a W hF hE hd => ?_, fun a W hF hE hd => ?_, fun a W hF hE hd => ?_, fun a W hF hE hd => ?_, fun a W hF hE hd => ?_, fun a W hF hE hd => ?_, fun a W hF hE hd => ?_, fun a W hF hE hd => ?_, fun a W hF hE hd => ?_, fun a W hF hE hd => ?_, fun a W hF hE hd => ?_, fun a W hF hE hd => ?_, fun a W hF hE hd => ?_, trivial⟩
    all_goals unfold StepAt
    · have t0 : a.tmps.getD 0 undef = .slice ro rs.length rc := hF.at 0 (by kernel_rfl)
      rw [Array.getD_eq_getD_getElem?] at t0
      refine .inl ⟨rfl, ?_⟩
      go_simp
      exact ⟨Below.refl _ _, rfl⟩
    · have t1 : a.tmps.getD 1 undef = .int .i64 f := hF.at 1 (by kernel_rfl)
      rw [Array.getD_eq_getD_getElem?] at t1
      refine .inl ⟨rfl, ?_⟩
      go_simp
      exact ⟨Below.refl _ _, rfl⟩
    · have t24 : a.tmps.getD 24 undef = .slice ro rs.length rc := hd { on := 0, ground := .data } (by simp) rfl
      rw [Array.getD_eq_getD_getElem?] at t24
      have t25 : a.tmps.getD 25 undef = .int .i64 f := hd { on := 1, ground := .data } (by simp) rfl
      rw [Array.getD_eq_getD_getElem?] at t25
      refine .inl ⟨rfl, ?_⟩
      go_simp
      exact (HFar W hE).mono fun e w2 ⟨v, h1, h2, h3⟩ => ⟨v, h1, h3, h2⟩
    · have t0 : a.tmps.getD 0 undef = .slice ro rs.length rc := hF.at 0 (by kernel_rfl)
      rw [Array.getD_eq_getD_getElem?] at t0
      refine .inl ⟨rfl, ?_⟩
      go_simp
      exact ⟨Below.refl _ _, rfl⟩
    · have t1 : a.tmps.getD 1 undef = .int .i64 f := hF.at 1 (by kernel_rfl)
      rw [Array.getD_eq_getD_getElem?] at t1
      refine .inl ⟨rfl, ?_⟩
      go_simp
      exact ⟨Below.refl _ _, rfl⟩
    · have t27 : a.tmps.getD 27 undef = .slice ro rs.length rc := hd { on := 3, ground := .data } (by simp) rfl
      rw [Array.getD_eq_getD_getElem?] at t27
      have t28 : a.tmps.getD 28 undef = .int .i64 f := hd { on := 4, ground := .data } (by simp) rfl
      rw [Array.getD_eq_getD_getElem?] at t28
      refine .inl ⟨rfl, ?_⟩
      go_simp
      exact (HrFar W hE).mono fun e w2 ⟨v, h1, h2, h3⟩ => ⟨v, h1, h3, h2⟩
    · obtain ⟨v26, t26, p26⟩ : ∃ v, a.tmps.getD 26 undef = v ∧ IsBools W v FA := ⟨_, rfl, hd { on := 2, ground := .data } (by simp) rfl⟩
      rw [Array.getD_eq_getD_getElem?] at t26
      obtain ⟨v29, t29, p29⟩ : ∃ v, a.tmps.getD 29 undef = v ∧ IsBools W v FA := ⟨_, rfl, hd { on := 5, ground := .data } (by simp) rfl⟩
      rw [Array.getD_eq_getD_getElem?] at t29
      refine .inl ⟨rfl, ?_⟩
      go_simp
      exact (HBo W _ _ p26 p29).mono fun e w2 h => ⟨_, h.1, h.2, rfl⟩
    · have t30 : a.tmps.getD 30 undef = .bool true := hd { on := 6, ground := .data } (by simp) rfl
      rw [Array.getD_eq_getD_getElem?] at t30
      refine .inl ⟨rfl, ?_⟩
      go_simp
      exact ⟨Below.refl _ _, rfl⟩
    · have t6 : a.tmps.getD 6 undef = .pointer (some ⟨w.heap.size, 0, none⟩) := hF.at 6 (by kernel_rfl)
      rw [Array.getD_eq_getD_getElem?] at t6
      have g31 : a.eval (.tmp 31) = .bool true := hd { on := 7, ground := .guard } (by simp) rfl
      refine .inl ⟨(by simp only [Region.wanted]; rw [yielded_of (d := 31) (by rfl) g31]; rfl), ?_⟩
      clear g31
      rw [run_oload _ _ 24 (.tmp 6) rfl w.heap.size (by simpa [Act.eval] using t6) 24 cs (0, 0) _ (HCa W hE) Tryd.underlying24 rfl HI.out]
      exact ⟨Below.refl _ _, rfl⟩
    · have t3 : a.tmps.getD 3 undef = .slice lo L.length lc := hF.at 3 (by kernel_rfl)
      rw [Array.getD_eq_getD_getElem?] at t3
      have g31 : a.eval (.tmp 31) = .bool true := hd { on := 7, ground := .guard } (by simp) rfl
      refine .inl ⟨(by simp only [Region.wanted]; rw [yielded_of (d := 31) (by rfl) g31]; rfl), ?_⟩
      clear g31
      go_simp
      exact ⟨Below.refl _ _, rfl⟩
    · have t32 : a.tmps.getD 32 undef = .agg cs := hd { on := 8, ground := .data } (by simp) rfl
      rw [Array.getD_eq_getD_getElem?] at t32
      have t33 : a.tmps.getD 33 undef = .slice lo L.length lc := hd { on := 9, ground := .data } (by simp) rfl
      rw [Array.getD_eq_getD_getElem?] at t33
      have g31 : a.eval (.tmp 31) = .bool true := hd { on := 7, ground := .guard } (by simp) rfl
      refine .inl ⟨(by simp only [Region.wanted]; rw [yielded_of (d := 31) (by rfl) g31]; rfl), ?_⟩
      clear g31
      go_simp
      exact (HBad W hE).mono fun e w2 ⟨v, h1, h2, h3⟩ => ⟨v, h1, h3, h2⟩
    · have t6 : a.tmps.getD 6 undef = .pointer (some ⟨w.heap.size, 0, none⟩) := hF.at 6 (by kernel_rfl)
      rw [Array.getD_eq_getD_getElem?] at t6
      have g31 : a.eval (.tmp 31) = .bool true := hd { on := 7, ground := .guard } (by simp) rfl
      refine .inl ⟨(by simp only [Region.wanted]; rw [yielded_of (d := 31) (by rfl) g31]; rfl), ?_⟩
      clear g31
      rw [run_oload _ _ 24 (.tmp 6) rfl w.heap.size (by simpa [Act.eval] using t6) 24 cs (0, 0) _ (HCa W hE) Tryd.underlying24 rfl HI.out]
      exact ⟨Below.refl _ _, rfl⟩
    · have t3 : a.tmps.getD 3 undef = .slice lo L.length lc := hF.at 3 (by kernel_rfl)
      rw [Array.getD_eq_getD_getElem?] at t3
      have g31 : a.eval (.tmp 31) = .bool true := hd { on := 7, ground := .guard } (by simp) rfl
      refine .inl ⟨(by simp only [Region.wanted]; rw [yielded_of (d := 31) (by rfl) g31]; rfl), ?_⟩
      clear g31
      go_simp
      exact ⟨Below.refl _ _, rfl⟩
    · have t35 : a.tmps.getD 35 undef = .agg cs := hd { on := 11, ground := .data } (by simp) rfl
      rw [Array.getD_eq_getD_getElem?] at t35
      have t36 : a.tmps.getD 36 undef = .slice lo L.length lc := hd { on := 12, ground := .data } (by simp) rfl
      rw [Array.getD_eq_getD_getElem?] at t36
      have g31 : a.eval (.tmp 31) = .bool true := hd { on := 7, ground := .guard } (by simp) rfl
      refine .inl ⟨(by simp only [Region.wanted]; rw [yielded_of (d := 31) (by rfl) g31]; rfl), ?_⟩
      clear g31
      go_simp
      exact (HrBad W hE).mono fun e w2 ⟨v, h1, h2, h3⟩ => ⟨v, h1, h3, h2⟩
    · obtain ⟨v34, t34, p34⟩ : ∃ v, a.tmps.getD 34 undef = v ∧ IsInts W v BA := ⟨_, rfl, hd { on := 10, ground := .data } (by simp) rfl⟩
      rw [Array.getD_eq_getD_getElem?] at t34
      obtain ⟨v37, t37, p37⟩ : ∃ v, a.tmps.getD 37 undef = v ∧ IsInts W v BA := ⟨_, rfl, hd { on := 13, ground := .data } (by simp) rfl⟩
      rw [Array.getD_eq_getD_getElem?] at t37
      have g31 : a.eval (.tmp 31) = .bool true := hd { on := 7, ground := .guard } (by simp) rfl
      refine .inl ⟨(by simp only [Region.wanted]; rw [yielded_of (d := 31) (by rfl) g31]; rfl), ?_⟩
      clear g31
      go_simp
      exact (HIn W _ _ p34 p37).mono fun e w2 h => ⟨_, h.1, h.2, rfl⟩
    · have t31 : a.tmps.getD 31 undef = .bool true := hd { on := 7, ground := .data } (by simp) rfl
      rw [Array.getD_eq_getD_getElem?] at t31
      have t38 : a.tmps.getD 38 undef = .bool true := hd { on := 14, ground := .data } (by simp) rfl
      rw [Array.getD_eq_getD_getElem?] at t38
      refine .inl ⟨rfl, ?_⟩
      go_simp
      exact ⟨Below.refl _ _, rfl⟩
    · have t39 : a.tmps.getD 39 undef = .bool true := hd { on := 15, ground := .data } (by simp) rfl
      rw [Array.getD_eq_getD_getElem?] at t39
      refine .inl ⟨rfl, ?_⟩
      go_simp
      exact ⟨Below.refl _ _, rfl⟩
    · have g40 : a.eval (.tmp 40) = .bool true := hd { on := 16, ground := .guard } (by simp) rfl
      refine .inl ⟨(by simp only [Region.wanted]; rw [yielded_of (d := 40) (by rfl) g40]; rfl), ?_⟩
      clear g40
      go_simp
      exact (HAw W hE).mono fun e w2 h => ⟨_, h.1, h.2, rfl⟩
    · have t40 : a.tmps.getD 40 undef = .bool true := hd { on := 16, ground := .data } (by simp) rfl
      rw [Array.getD_eq_getD_getElem?] at t40
      have t41 : a.tmps.getD 41 undef = .bool true := hd { on := 17, ground := .data } (by simp) rfl
      rw [Array.getD_eq_getD_getElem?] at t41
      refine .inl ⟨rfl, ?_⟩
      go_simp
      exact ⟨Below.refl _ _, rfl⟩
    · have t42 : a.tmps.getD 42 undef = .bool true := hd { on := 18, ground := .data } (by simp) rfl
      rw [Array.getD_eq_getD_getElem?] at t42
      refine .inl ⟨rfl, ?_⟩
      go_simp
      exact ⟨Below.refl _ _, rfl⟩
  · intro vs W hE hV
    have h19 : vs 19 = .bool true := hV 19 (by decide)
    have HBf : Hid (Below w.heap.size w W) := HB0.out.trans (hE.mono HB0.out.size)
    clear hV hE
    simp only [putsV, dstsV, List.foldl, h19, Act.put, List.setIfInBounds_toArray, List.set_cons_succ, List.set_cons_zero]
    clear h19
    generalize vs 0 = y0
    generalize vs 1 = y1
    generalize vs 2 = y2
    generalize vs 3 = y3
    generalize vs 4 = y4
    generalize vs 5 = y5
    generalize vs 6 = y6
    generalize vs 7 = y7
    generalize vs 8 = y8
    generalize vs 9 = y9
    generalize vs 10 = y10
    generalize vs 11 = y11
    generalize vs 12 = y12
    generalize vs 13 = y13
    generalize vs 14 = y14
    generalize vs 15 = y15
    generalize vs 16 = y16
    generalize vs 17 = y17
    generalize vs 18 = y18
    refine ‹∀ (a : Act) (w : World), Code.wp Tryd.prog Code.ret _ a w → _› _ _ ?_
    go_wp2
    go_ret
    exact ⟨rfl, HBf.out⟩

theorem reads_SpreadForms (os : Os) {H : Type} (enc : TypeId × Value → H) : ∃ places, DataW.whole enc Tryd.prog ((laidWorld os).forCall (fun _ _ => 0) ⟨#[], #[.slice none 0 0, .int .i64 0, .agg #[.int .i64 0, .int .i64 0, .int .i64 0, .int .i64 0, .int .i64 0, .int .i64 0, .int .i64 0, .int .i64 0, .int .i64 0, .int .i64 0, .int .i64 0, .int .i64 0, .int .i64 0, .int .i64 0, .int .i64 0, .bool false, .int .i64 0, .int .i64 0, .int .i64 0, .int .i64 0, .int .i64 0, .string ByteArray.empty, .bool false], .slice none 0 0], []⟩).memory Tryd.f3.params.toList Rows.spreadFormsSpec.vars false (#[.slice none 0 0, .int .i64 0, .agg #[.int .i64 0, .int .i64 0, .int .i64 0, .int .i64 0, .int .i64 0, .int .i64 0, .int .i64 0, .int .i64 0, .int .i64 0, .int .i64 0, .int .i64 0, .int .i64 0, .int .i64 0, .int .i64 0, .int .i64 0, .bool false, .int .i64 0, .int .i64 0, .int .i64 0, .int .i64 0, .int .i64 0, .string ByteArray.empty, .bool false], .slice none 0 0] : Array Value).toList 8 = some ([.nil, .lit (.int .i64 0), .agg [.lit (.int .i64 0), .lit (.int .i64 0), .lit (.int .i64 0), .lit (.int .i64 0), .lit (.int .i64 0), .lit (.int .i64 0), .lit (.int .i64 0), .lit (.int .i64 0), .lit (.int .i64 0), .lit (.int .i64 0), .lit (.int .i64 0), .lit (.int .i64 0), .lit (.int .i64 0), .lit (.int .i64 0), .lit (.int .i64 0), .lit (.bool false), .lit (.int .i64 0), .lit (.int .i64 0), .lit (.int .i64 0), .lit (.int .i64 0), .lit (.int .i64 0), .lit (.string []), .lit (.bool false)], .nil], [], places) :=
  ⟨[], by kernel_rfl⟩

set_option maxRecDepth 100000 in
theorem lifted_SpreadForms (os : Os) (started : os.Started) (H : Type) (enc : TypeId × Value → H) (F : Stop.Interp) :
    ReturnsInHanded {} Tryd.checked os 3 .any ((OpenSpec.ofChange Rows.spreadFormsSpec).preRow enc Tryd.prog Tryd.f3 Rows.spreadFormsRow.domain false Rows.spreadFormsRow.laid) (((OpenSpec.ofChange Rows.spreadFormsSpec).at F).post enc Tryd.prog Tryd.f3 false true false false) := by
  obtain ⟨places, hx⟩ := reads_SpreadForms os enc
  refine returnsInHanded_of_row (C := Tryd.checked) (s := OpenSpec.ofChange Rows.spreadFormsSpec) own started (by kernel_rfl) Tryd.func3
    (witness_row_at (enc := enc) (C := Tryd.checked) false (laidWorld os) #[.slice none 0 0, .int .i64 0, .agg #[.int .i64 0, .int .i64 0, .int .i64 0, .int .i64 0, .int .i64 0, .int .i64 0, .int .i64 0, .int .i64 0, .int .i64 0, .int .i64 0, .int .i64 0, .int .i64 0, .int .i64 0, .int .i64 0, .int .i64 0, .bool false, .int .i64 0, .int .i64 0, .int .i64 0, .int .i64 0, .int .i64 0, .string ByteArray.empty, .bool false], .slice none 0 0] rfl (by kernel_rfl) (by kernel_rfl) (by kernel_rfl)
      (OpenSpec.preRow_of_cond 8 hx (by kernel_rfl) (fun k hk => by cases hk) (by kernel_rfl) (laid_met os _))) ?_
  intro W base args ds gs before hval0 hW _ _ hsz0 hL _ _
  have htab := table hL
  have hval : ∀ (j : Nat) t v, Tryd.f3.params[j]? = some t → args[j]? = some v → Value.okWide Tryd.prog W .any base t v := hval0
  have hW' := hW
  obtain ⟨p, q, hA0, hV, rfl, hfz, hnd⟩ := hW
  have hA : DataW.TrodAll enc Tryd.prog W 0 (fun _ => true) true Tryd.f3.params.toList args.toList ds p := hA0
  rw [Tryd.params3] at hA hval
  obtain ⟨v0, vs0, d0, ds0, p0, q0, hargs, rfl, rfl, h0, r0⟩ := trodAll_cons hA
  obtain ⟨v1, vs1, d1, ds1, p1, q1, rfl, rfl, rfl, h1, r1⟩ := trodAll_cons r0
  obtain ⟨v2, vs2, d2, ds2, p2, q2, rfl, rfl, rfl, h2, r2⟩ := trodAll_cons r1
  obtain ⟨v3, vs3, d3, ds3, p3, q3, rfl, rfl, rfl, h3, r3⟩ := trodAll_cons r2
  obtain ⟨rfl, rfl, rfl⟩ := trodAll_nil r3
  obtain rfl : args = #[v0, v1, v2, v3] := by cases args; simp_all
  obtain ⟨rfl, rfl⟩ := trodVars_none hV
  have k0 := h0
  have lt0 : ∀ x ∈ p0, x.block < W.heap.size := by obtain ⟨m, hm⟩ := k0; exact DataW.trod_lt m _ _ _ hm
  obtain ⟨z0, w0⟩ := open_nums (hval 0 22 v0 rfl rfl) h0
  obtain ⟨a1, rfl, rfl, rfl, w1⟩ := open_int Tryd.underlying3 (hval 1 3 v1 rfl rfl) h1
  have k2 := h2
  have lt2 : ∀ x ∈ p2, x.block < W.heap.size := by obtain ⟨m, hm⟩ := k2; exact DataW.trod_lt m _ _ _ hm
  obtain ⟨z2, rfl, w2⟩ := open_cfg (hval 2 24 v2 rfl rfl) h2
  have k3 := h3
  have lt3 : ∀ x ∈ p3, x.block < W.heap.size := by obtain ⟨m, hm⟩ := k3; exact DataW.trod_lt m _ _ _ hm
  obtain ⟨z3, w3⟩ := open_rated (hval 3 25 v3 rfl rfl) h3
  clear hA0 hval0
  refine (walk_SpreadForms z0 v0 a1 (bounds_i64 w1) z2 w2 z3 v3 W htab w0 w3).mono fun e W' ⟨he, bel⟩ => ?_
  subst he
  exact ⟨_, rfl, _, _, _, [], _, [], hW', trodAll_mk1 (shut_bool Tryd.underlying4 _), (trodAll_cons_mk (Below.trod laidOut (by kernel_rfl) (of_decide_eq_true (by kernel_rfl)) k0 bel lt0) (trodAll_cons_mk (shut_int Tryd.underlying3 w1) (trodAll_cons_mk (Below.trod laidOut (by kernel_rfl) (of_decide_eq_true (by kernel_rfl)) k2 bel lt2) (trodAll_cons_mk (Below.trod laidOut (by kernel_rfl) (of_decide_eq_true (by kernel_rfl)) k3 bel lt3) trodAll_mk0)))), rfl, bel.frame _, fun h => by cases h⟩

theorem said_SpreadForms : Rows.SpreadFormsSaid :=
  OpenClaim.holds_of_cond 3 Tryd.f3 rfl rfl rfl rfl rfl rfl rfl ⟨rfl, rfl, rfl, rfl, rfl⟩ rfl rfl rfl rfl rfl (by kernel_rfl) Tryd.func3 (by kernel_rfl)
    (of_decide_eq_true (by kernel_rfl)) (by unfold Func.isWrapper; first | (rw [if_pos (by decide +kernel)]; kernel_rfl) | (rw [if_neg (by decide +kernel)]; exact ⟨rfl, rfl⟩))
    (fun os started H enc _ F => by rw [OpenClaim.pre_eq_preRow]; exact lifted_SpreadForms os started H enc F)

theorem plain_SpreadForms (f : FuncId) (fn : Func) (hf : Tryd.pinned.checked.prog.funcNamed Rows.spreadFormsRow.func = some f) (hfn : Tryd.pinned.checked.prog.funcs[f]? = some fn) :
    false = Tryd.pinned.checked.prog.looks [] ∧ ∀ (j : Nat) t, fn.params[j]? = some t → Tryd.pinned.checked.prog.wantsStandIn t = false := by
  obtain rfl : f = 3 := Option.some.inj ((show Tryd.prog.funcNamed Rows.spreadFormsRow.func = some 3 by kernel_rfl).symm.trans hf) |>.symm
  obtain rfl : fn = Tryd.f3 := (Option.some.inj (Tryd.func3.symm.trans hfn)).symm
  refine ⟨by kernel_rfl, fun j t ht => ?_⟩
  rw [Tryd.params3] at ht
  have hm := Array.mem_of_getElem? ht
  simp only [List.mem_toArray, List.mem_cons, List.not_mem_nil, or_false] at hm
  rcases hm with rfl | rfl | rfl | rfl
  · exact (show Tryd.prog.wantsStandIn 22 = false by kernel_rfl)
  · exact (show Tryd.prog.wantsStandIn 3 = false by kernel_rfl)
  · exact (show Tryd.prog.wantsStandIn 24 = false by kernel_rfl)
  · exact (show Tryd.prog.wantsStandIn 25 = false by kernel_rfl)

/-- The statement. -/
theorem spreadForms_holds : Rows.SpreadFormsCardSaid :=
  Claim7.holds_tied_plain_at .later [] _ _ _ _ said_SpreadForms (fun _ h => by cases h) (by kernel_rfl) (fun _ h => by cases h) spreadForms_row_tie rfl ⟨rfl, rfl⟩ (by kernel_rfl) rfl plain_SpreadForms (by kernel_rfl)
#print axioms spreadForms_holds

end Go.Proofs.YtjknflpclniiiaaDoor

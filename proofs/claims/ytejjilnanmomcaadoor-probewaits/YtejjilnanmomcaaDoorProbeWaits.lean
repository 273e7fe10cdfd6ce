/-
  ProbeWaits, for every configuration, host and id: the wait is the interval and no more than the jitter on top; without a jitter it is just the interval. No condition on the call.
-/
import Derived.Test.YtejjilnanmomcaaDoorProbe4
import Derived.Test.YtejjilnanmomcaaDoorRefMayC
namespace Go.Proofs.YtejjilnanmomcaaDoor
open Go.ChangeShapes Go.WideShapes Go.ChangeAt Go.RowKit
open Go.ChangeMaps (open_string shut_string)

def noJit (c : Cfg) : Cfg := { c with f2 := 0 }
theorem noJit_may {c : Cfg} (h : mayC c = true) : mayC (noJit c) = true := by
  obtain ⟨h1, h2⟩ := may_parts h
  have hn : (noJit c).nums = c.nums.set 2 0 := rfl
  have hz : (noJit c).zone = c.zone := rfl
  unfold mayC
  rw [hn, hz, Bool.and_eq_true, List.all_eq_true]
  refine ⟨fun i hi => ?_, ?_⟩
  · have hi' := List.mem_range.1 hi
    have := h1 i hi'
    unfold fitsC at this ⊢
    by_cases e : i = 2
    · subst e; rfl
    · have hne : ¬ 2 = i := fun h => e h.symm
      rw [List.getD_eq_getElem?_getD] at this ⊢
      rw [List.getElem?_set_ne hne]
      exact this
  · rcases h2 with h | h
    · rw [decide_eq_true h]; rfl
    · rw [h, Bool.or_true]
theorem noJit_wait (c : Cfg) (host id : Int) : waitV (noJit c) host id = c.f0 := by
  unfold waitV belowV
  show c.f0 + (if (0 + 1 : Int) < 1 then 0 else _ % (0 + 1)) = c.f0
  rw [if_neg (by omega), show (0 + 1 : Int) = 1 from rfl, Int.emod_one, Int.add_zero]

set_option maxRecDepth 100000 in
set_option maxHeartbeats 4000000 in
theorem walk_ProbeWaits (c : Cfg) (hz : c.zone.size ≤ 9223372036854775807) (host : Int) (hh : -9223372036854775808 ≤ host ∧ host ≤ 9223372036854775807) (id : Int) (hi : -9223372036854775808 ≤ id ∧ id ≤ 9223372036854775807) (w : World) (htab : Tabs w) :
    Calls Tryd.prog 5 #[.agg c.arr, .int .i64 host, .int .i64 id] w fun e w' => e = .returned (.bool true) ∧ Below w.heap.size w w' := by
  have HT : Hid (Tabs w) := htab
  clear htab
  have HMay : Hid (∀ W : World, Calls Tryd.prog 7 #[.agg c.arr] W fun e w' => e = .returned (.bool (mayC c)) ∧ Below W.heap.size W w') := fun W => rMay_any c W hz
  have HI : Hid ((Tryd.prog.info? 23).map (·.size) = some c.arr.size) := arr_inf c
  by_cases hm : mayC c = true
  · rw [hm] at HMay
    obtain ⟨b0, b1⟩ := may_num0 hm
    obtain ⟨b2, b3⟩ := may_num2 hm
    have HWt : Hid (∀ W : World, Tabs W → Calls Tryd.prog 13 #[.agg c.arr, .int .i64 host, .int .i64 id] W fun e w' => e = .returned (.int .i64 (waitV c host id)) ∧ Below W.heap.size W w') := fun W h => by
      have := pwait_any c host id W h hz hh hi
      rwa [known_self hm] at this
    have HWd' : Hid (∀ W : World, Tabs W → Calls Tryd.prog 13 #[.agg (c.arr.setIfInBounds 2 (.int .i64 0)), .int .i64 host, .int .i64 id] W fun e w' => e = .returned (.int .i64 c.f0) ∧ Below W.heap.size W w') := fun W h => by
      have := pwait_any (noJit c) host id W h hz hh hi
      rwa [known_self (noJit_may hm), noJit_wait] at this
    obtain ⟨R, hR⟩ : ∃ R, waitV c host id = R := ⟨_, rfl⟩
    obtain ⟨b4, b5⟩ := belowV_bounds (withV (Lib.itoa host) id) (c.f2 + 1) (by omega)
    have HQ1 : Hid (c.f0 ≤ R) := by show _ ≤ _; rw [← hR]; unfold waitV; omega
    obtain ⟨J, hJ⟩ : ∃ J, c.f0 + c.f2 = J := ⟨_, rfl⟩
    have HQ2 : Hid (R ≤ J) := by show _ ≤ _; rw [← hR, ← hJ]; unfold waitV; omega
    have HQ3 : Hid (IntKind.i64.wrap (c.f0 + c.f2) = J) := (wrap_in (by omega) (by omega)).trans hJ
    rw [hR] at HWt
    have c0 : c.arr[0]? = some (.int .i64 c.f0) := rfl
    have c2 : c.arr[2]? = some (.int .i64 c.f2) := rfl
    have HC0 : Hid _ := c0
    have HC2 : Hid _ := c2
    have HO : Hid (c.arr.all (·.oneCell') = true) := arr_one c
    have HS : Hid ((23 : Nat) = c.arr.size) := (arr_size c).symm
    have HJ' : Hid ((Tryd.prog.info? 23).map (·.size) = some (c.arr.setIfInBounds 2 (.int .i64 0)).size) := by show _ = _; rw [Array.size_setIfInBounds]; exact HI.out
    clear hR hJ b0 b1 b2 b3 b4 b5 c0 c2 hm hh hi
    generalize c.f0 = n0 at HWd' HQ1 HC0 HQ3
    generalize c.f2 = n2 at HC2 HQ3
    generalize c.arr = cs at HMay HI HWt HWd' HC0 HC2 HO HS HJ' ⊢
    go_enter Tryd.func5, Tryd.ntmps5
    go_upto_region 1 with fail
    generalize hW0 : w.alloc _ = W0
    have HC : Hid (CellsAt W0 w.heap.size cs) := by show CellsAt _ _ _; rw [← hW0]; exact heap_alloc_new w _
    have HB : Hid (Below w.heap.size w W0) := by show Below _ _ _; rw [← hW0]; exact (Below.refl _ _).alloc (Nat.le_refl _) _
    clear hW0
    go_wp2_with (first | (refine wpList_load_bx rfl 23 (.tmp 3) rfl w.heap.size rfl 23 _ _ HC.out Tryd.underlying23 rfl HI.out ?_) | fail)
    refine (HMay.out _).mono ?_
    rintro e w1 ⟨rfl, hb⟩
    have HC1 : Hid (CellsAt w1 w.heap.size cs) := HC.out.below hb
    have HB1 : Hid (Below w.heap.size w w1) := HB.out.trans (hb.mono HB.out.size)
    clear hb HC HB HMay
    go_wp2_with (first | (refine wpList_load_bx rfl 23 (.tmp 3) rfl w.heap.size rfl 23 _ _ HC1.out Tryd.underlying23 rfl HI.out ?_) | fail)
    refine (HWt.out _ (HT.out.below HB1.out)).mono ?_
    rintro e w2 ⟨rfl, hb⟩
    have HC2' : Hid (CellsAt w2 w.heap.size cs) := HC1.out.below hb
    have HB2 : Hid (Below w.heap.size w w2) := HB1.out.trans (hb.mono HB1.out.size)
    clear hb HC1 HB1 HWt
    go_upto_region 5 with (first | (refine wpList_load_bx rfl 23 (.tmp 3) rfl w.heap.size rfl 23 _ _ HC2'.out Tryd.underlying23 rfl HI.out ?_) | (refine wpList_store_row rfl 23 (.tmp 8) (.tmp 17) rfl w2.heap.size cs rfl rfl 23 _ (heap_alloc_new w2 _) HI.out HS.out HO.out ?_; generalize hW3 : World.setRow _ _ _ = W3) | fail)
    have HC3 : Hid (CellsAt W3 w.heap.size cs) := by show CellsAt _ _ _; rw [← hW3]; exact HasBox.rowOther (HasBox.alloc HC2'.out _) (by have := HC2'.out.lt; omega)
    have HD3 : Hid (CellsAt W3 w2.heap.size cs) := by show CellsAt _ _ _; rw [← hW3]; exact HasBox.row (hasBox_new w2 _ _)
    have HB3 : Hid (Below w.heap.size w W3) := by show Below _ _ _; rw [← hW3]; exact below_setRow (HB2.out.alloc HB2.out.size _) HB2.out.size _
    have HNe : Hid (w.heap.size ≠ w2.heap.size) := by show _ ≠ _; have := HC2'.out.lt; omega
    have HLe : Hid (w.heap.size ≤ w2.heap.size) := HB2.out.size
    have d2 : W3.cell? ⟨w2.heap.size, 2, none⟩ = some (.int .i64 n2) := HD3.out.cell.trans HC2.out
    have df : W3.frozen? ⟨w2.heap.size, 2, none⟩ = false := HD3.out.frozen
    clear hW3 HC2' HB2
    go_upto_region 6 with fail
    generalize hW4 : World.setCell _ _ _ = W4
    obtain ⟨ds, hds⟩ : ∃ ds, cs.setIfInBounds 2 (.int .i64 0) = ds := ⟨_, rfl⟩
    rw [hds] at HJ' HWd'
    have HC4 : Hid (CellsAt W4 w.heap.size cs) := by show CellsAt _ _ _; rw [← hW4]; exact HasBox.setOther HC3.out _ HNe.out _
    have HD4 : Hid (CellsAt W4 w2.heap.size ds) := by show CellsAt _ _ _; rw [← hW4, ← hds]; exact HD3.out.set _
    have HB0 : Hid (Below w.heap.size w W4) := by show Below _ _ _; rw [← hW4]; exact HB3.out.setCell HLe.out _
    have HT4 : Hid (Tabs W4) := HT.out.below HB0.out
    have HJ := HJ'
    have H0 : ∀ W, Below W4.heap.size W4 W → W.cell? ⟨w.heap.size, 0, none⟩ = some (.int .i64 n0) := fun W h => (HC4.out.below h).cell.trans HC0.out
    have H2 : ∀ W, Below W4.heap.size W4 W → W.cell? ⟨w.heap.size, 2, none⟩ = some (.int .i64 n2) := fun W h => (HC4.out.below h).cell.trans HC2.out
    have HD : ∀ W, Below W4.heap.size W4 W → CellsAt W w2.heap.size ds := fun W h => HD4.out.below h
    have HWd : ∀ W, Below W4.heap.size W4 W → Calls Tryd.prog 13 #[.agg ds, .int .i64 host, .int .i64 id] W fun e w' => e = .returned (.int .i64 n0) ∧ Below W.heap.size W w' := fun W h => HWd'.out W (HT4.out.below h)
    have HAw : ∀ W, Below W4.heap.size W4 W → Calls Tryd.prog 8 #[] W fun e w' => e = .returned (.bool true) ∧ Below W.heap.size W w' := fun W h => awake10_any W (HT4.out.below h)
    clear hW4 hds HC3 HD3 HB3 d2 df
    refine wp_region_mp ([eqP (.int .i64 R), eqP (.pointer (some ⟨w.heap.size, 0, none⟩)), eqP (.int .i64 n0), eqP (.bool true), eqP (.bool true), eqP (.int .i64 R), eqP (.pointer (some ⟨w.heap.size, 0, none⟩)), eqP (.int .i64 n0), eqP (.pointer (some ⟨w.heap.size, 2, none⟩)), eqP (.int .i64 n2), eqP (.int .i64 J), eqP (.bool true), eqP (.bool true), eqP (.bool true), eqP (.agg ds), eqP (.int .i64 host), eqP (.int .i64 id), eqP (.int .i64 n0), eqP (.pointer (some ⟨w.heap.size, 0, none⟩)), eqP (.int .i64 n0), eqP (.bool true), eqP (.bool true), eqP (.bool true), eqP (.bool true), eqP (.bool true), eqP (.bool true)]) (by kernel_rfl) (by kernel_rfl) ?_ ?_
    · simp only [stepsAll3]
      refine ⟨fun a W hF hE hd => ?_, fun a W hF hE hd => ?_, fun a W hF hE hd => ?_, fun a W hF hE hd => ?_, fun a W hF hE hd => ?_, fun a W hF hE hd => ?_, fun a W hF hE hd => ?_, fun a W hF hE hd => ?_, fun a W hF hE hd => ?_, fun a W hF hE hd => ?_, fun a W hF hE hd => ?_, fun a W hF hE hd => ?_, fun a W hF hE hd => ?_, fun a W hF hE hd => ?_, fun a W hF hE hd => ?_, fun a W hF hE hd => ?_, fun a W hF hE hd => ?_, fun a W hF hE hd => ?_, fun a W hF hE hd => ?_, fun a W hF hE hd => ?_, fun a W hF hE hd => ?_, fun a W hF hE hd => ?_, fun a W hF hE hd => ?_, fun a W hF hE hd => ?_, fun a W hF hE hd => ?_, fun a W hF hE hd => ?_, trivial⟩
      all_goals unfold StepAt
      · have t7 : a.tmps.getD 7 undef = .int .i64 R := hF.at 7 (by kernel_rfl)
        rw [Array.getD_eq_getD_getElem?] at t7
        refine .inl ⟨rfl, ?_⟩
        go_simp
        exact ⟨Below.refl _ _, rfl⟩
      · have t3 : a.tmps.getD 3 undef = .pointer (some ⟨w.heap.size, 0, none⟩) := hF.at 3 (by kernel_rfl)
        rw [Array.getD_eq_getD_getElem?] at t3
        refine .inl ⟨rfl, ?_⟩
        go_simp
        exact ⟨Below.refl _ _, rfl⟩
      · have t20 : a.tmps.getD 20 undef = .pointer (some ⟨w.heap.size, 0, none⟩) := hd { on := 1, ground := .data } (by simp) rfl
        rw [Array.getD_eq_getD_getElem?] at t20
        refine .inl ⟨rfl, ?_⟩
        have c0 : W.cell? ⟨w.heap.size, 0, none⟩ = some (.int .i64 n0) := H0 W hE
        go_simp
        exact ⟨Below.refl _ _, rfl⟩
      · have t19 : a.tmps.getD 19 undef = .int .i64 R := hd { on := 0, ground := .data } (by simp) rfl
        rw [Array.getD_eq_getD_getElem?] at t19
        have t21 : a.tmps.getD 21 undef = .int .i64 n0 := hd { on := 2, ground := .data } (by simp) rfl
        rw [Array.getD_eq_getD_getElem?] at t21
        refine .inl ⟨rfl, ?_⟩
        have q1 : n0 ≤ R := HQ1.out
        go_simp
        exact ⟨Below.refl _ _, rfl⟩
      · have t22 : a.tmps.getD 22 undef = .bool true := hd { on := 3, ground := .data } (by simp) rfl
        rw [Array.getD_eq_getD_getElem?] at t22
        refine .inl ⟨rfl, ?_⟩
        go_simp
        exact ⟨Below.refl _ _, rfl⟩
      · have t7 : a.tmps.getD 7 undef = .int .i64 R := hF.at 7 (by kernel_rfl)
        rw [Array.getD_eq_getD_getElem?] at t7
        have g23 : a.eval (.tmp 23) = .bool true := hd { on := 4, ground := .guard } (by simp) rfl
        refine .inl ⟨(by simp only [Region.wanted]; rw [yielded_of (d := 23) (by rfl) g23]; rfl), ?_⟩
        clear g23
        go_simp
        exact ⟨Below.refl _ _, rfl⟩
      · have t3 : a.tmps.getD 3 undef = .pointer (some ⟨w.heap.size, 0, none⟩) := hF.at 3 (by kernel_rfl)
        rw [Array.getD_eq_getD_getElem?] at t3
        have g23 : a.eval (.tmp 23) = .bool true := hd { on := 4, ground := .guard } (by simp) rfl
        refine .inl ⟨(by simp only [Region.wanted]; rw [yielded_of (d := 23) (by rfl) g23]; rfl), ?_⟩
        clear g23
        go_simp
        exact ⟨Below.refl _ _, rfl⟩
      · have t25 : a.tmps.getD 25 undef = .pointer (some ⟨w.heap.size, 0, none⟩) := hd { on := 6, ground := .data } (by simp) rfl
        rw [Array.getD_eq_getD_getElem?] at t25
        have g23 : a.eval (.tmp 23) = .bool true := hd { on := 4, ground := .guard } (by simp) rfl
        refine .inl ⟨(by simp only [Region.wanted]; rw [yielded_of (d := 23) (by rfl) g23]; rfl), ?_⟩
        clear g23
        have c0 : W.cell? ⟨w.heap.size, 0, none⟩ = some (.int .i64 n0) := H0 W hE
        go_simp
        exact ⟨Below.refl _ _, rfl⟩
      · have t3 : a.tmps.getD 3 undef = .pointer (some ⟨w.heap.size, 0, none⟩) := hF.at 3 (by kernel_rfl)
        rw [Array.getD_eq_getD_getElem?] at t3
        have g23 : a.eval (.tmp 23) = .bool true := hd { on := 4, ground := .guard } (by simp) rfl
        refine .inl ⟨(by simp only [Region.wanted]; rw [yielded_of (d := 23) (by rfl) g23]; rfl), ?_⟩
        clear g23
        go_simp
        exact ⟨Below.refl _ _, rfl⟩
      · have t27 : a.tmps.getD 27 undef = .pointer (some ⟨w.heap.size, 2, none⟩) := hd { on := 8, ground := .data } (by simp) rfl
        rw [Array.getD_eq_getD_getElem?] at t27
        have g23 : a.eval (.tmp 23) = .bool true := hd { on := 4, ground := .guard } (by simp) rfl
        refine .inl ⟨(by simp only [Region.wanted]; rw [yielded_of (d := 23) (by rfl) g23]; rfl), ?_⟩
        clear g23
        have c2 : W.cell? ⟨w.heap.size, 2, none⟩ = some (.int .i64 n2) := H2 W hE
        go_simp
        exact ⟨Below.refl _ _, rfl⟩
      · have t26 : a.tmps.getD 26 undef = .int .i64 n0 := hd { on := 7, ground := .data } (by simp) rfl
        rw [Array.getD_eq_getD_getElem?] at t26
        have t28 : a.tmps.getD 28 undef = .int .i64 n2 := hd { on := 9, ground := .data } (by simp) rfl
        rw [Array.getD_eq_getD_getElem?] at t28
        have g23 : a.eval (.tmp 23) = .bool true := hd { on := 4, ground := .guard } (by simp) rfl
        refine .inl ⟨(by simp only [Region.wanted]; rw [yielded_of (d := 23) (by rfl) g23]; rfl), ?_⟩
        clear g23
        have q3 : IntKind.i64.wrap (n0 + n2) = J := HQ3.out
        go_simp
        exact ⟨Below.refl _ _, rfl⟩
      · have t24 : a.tmps.getD 24 undef = .int .i64 R := hd { on := 5, ground := .data } (by simp) rfl
        rw [Array.getD_eq_getD_getElem?] at t24
        have t29 : a.tmps.getD 29 undef = .int .i64 J := hd { on := 10, ground := .data } (by simp) rfl
        rw [Array.getD_eq_getD_getElem?] at t29
        have g23 : a.eval (.tmp 23) = .bool true := hd { on := 4, ground := .guard } (by simp) rfl
        refine .inl ⟨(by simp only [Region.wanted]; rw [yielded_of (d := 23) (by rfl) g23]; rfl), ?_⟩
        clear g23
        have q2 : R ≤ J := HQ2.out
        go_simp
        exact ⟨Below.refl _ _, rfl⟩
      · have t23 : a.tmps.getD 23 undef = .bool true := hd { on := 4, ground := .data } (by simp) rfl
        rw [Array.getD_eq_getD_getElem?] at t23
        have t30 : a.tmps.getD 30 undef = .bool true := hd { on := 11, ground := .data } (by simp) rfl
        rw [Array.getD_eq_getD_getElem?] at t30
        refine .inl ⟨rfl, ?_⟩
        go_simp
        exact ⟨Below.refl _ _, rfl⟩
      · have t31 : a.tmps.getD 31 undef = .bool true := hd { on := 12, ground := .data } (by simp) rfl
        rw [Array.getD_eq_getD_getElem?] at t31
        refine .inl ⟨rfl, ?_⟩
        go_simp
        exact ⟨Below.refl _ _, rfl⟩
      · have t8 : a.tmps.getD 8 undef = .pointer (some ⟨w2.heap.size, 0, none⟩) := hF.at 8 (by kernel_rfl)
        rw [Array.getD_eq_getD_getElem?] at t8
        have g32 : a.eval (.tmp 32) = .bool true := hd { on := 13, ground := .guard } (by simp) rfl
        refine .inl ⟨(by simp only [Region.wanted]; rw [yielded_of (d := 32) (by rfl) g32]; rfl), ?_⟩
        clear g32
        rw [run_oload _ _ 23 (.tmp 8) rfl (w2.heap.size) (by simpa [Act.eval] using t8) 23 ds (0, 0) _ (HD W hE) Tryd.underlying23 rfl HJ.out]
        exact ⟨Below.refl _ _, rfl⟩
      · have t1 : a.tmps.getD 1 undef = .int .i64 host := hF.at 1 (by kernel_rfl)
        rw [Array.getD_eq_getD_getElem?] at t1
        have g32 : a.eval (.tmp 32) = .bool true := hd { on := 13, ground := .guard } (by simp) rfl
        refine .inl ⟨(by simp only [Region.wanted]; rw [yielded_of (d := 32) (by rfl) g32]; rfl), ?_⟩
        clear g32
        go_simp
        exact ⟨Below.refl _ _, rfl⟩
      · have t2 : a.tmps.getD 2 undef = .int .i64 id := hF.at 2 (by kernel_rfl)
        rw [Array.getD_eq_getD_getElem?] at t2
        have g32 : a.eval (.tmp 32) = .bool true := hd { on := 13, ground := .guard } (by simp) rfl
        refine .inl ⟨(by simp only [Region.wanted]; rw [yielded_of (d := 32) (by rfl) g32]; rfl), ?_⟩
        clear g32
        go_simp
        exact ⟨Below.refl _ _, rfl⟩
      · have t33 : a.tmps.getD 33 undef = .agg ds := hd { on := 14, ground := .data } (by simp) rfl
        rw [Array.getD_eq_getD_getElem?] at t33
        have t34 : a.tmps.getD 34 undef = .int .i64 host := hd { on := 15, ground := .data } (by simp) rfl
        rw [Array.getD_eq_getD_getElem?] at t34
        have t35 : a.tmps.getD 35 undef = .int .i64 id := hd { on := 16, ground := .data } (by simp) rfl
        rw [Array.getD_eq_getD_getElem?] at t35
        have g32 : a.eval (.tmp 32) = .bool true := hd { on := 13, ground := .guard } (by simp) rfl
        refine .inl ⟨(by simp only [Region.wanted]; rw [yielded_of (d := 32) (by rfl) g32]; rfl), ?_⟩
        clear g32
        go_simp
        exact (HWd W hE).mono fun e w2 h => ⟨_, h.1, h.2, rfl⟩
      · have t3 : a.tmps.getD 3 undef = .pointer (some ⟨w.heap.size, 0, none⟩) := hF.at 3 (by kernel_rfl)
        rw [Array.getD_eq_getD_getElem?] at t3
        have g32 : a.eval (.tmp 32) = .bool true := hd { on := 13, ground := .guard } (by simp) rfl
        refine .inl ⟨(by simp only [Region.wanted]; rw [yielded_of (d := 32) (by rfl) g32]; rfl), ?_⟩
        clear g32
        go_simp
        exact ⟨Below.refl _ _, rfl⟩
      · have t37 : a.tmps.getD 37 undef = .pointer (some ⟨w.heap.size, 0, none⟩) := hd { on := 18, ground := .data } (by simp) rfl
        rw [Array.getD_eq_getD_getElem?] at t37
        have g32 : a.eval (.tmp 32) = .bool true := hd { on := 13, ground := .guard } (by simp) rfl
        refine .inl ⟨(by simp only [Region.wanted]; rw [yielded_of (d := 32) (by rfl) g32]; rfl), ?_⟩
        clear g32
        have c0 : W.cell? ⟨w.heap.size, 0, none⟩ = some (.int .i64 n0) := H0 W hE
        go_simp
        exact ⟨Below.refl _ _, rfl⟩
      · have t36 : a.tmps.getD 36 undef = .int .i64 n0 := hd { on := 17, ground := .data } (by simp) rfl
        rw [Array.getD_eq_getD_getElem?] at t36
        have t38 : a.tmps.getD 38 undef = .int .i64 n0 := hd { on := 19, ground := .data } (by simp) rfl
        rw [Array.getD_eq_getD_getElem?] at t38
        have g32 : a.eval (.tmp 32) = .bool true := hd { on := 13, ground := .guard } (by simp) rfl
        refine .inl ⟨(by simp only [Region.wanted]; rw [yielded_of (d := 32) (by rfl) g32]; rfl), ?_⟩
        clear g32
        go_simp
        exact ⟨Below.refl _ _, rfl⟩
      · have t32 : a.tmps.getD 32 undef = .bool true := hd { on := 13, ground := .data } (by simp) rfl
        rw [Array.getD_eq_getD_getElem?] at t32
        have t39 : a.tmps.getD 39 undef = .bool true := hd { on := 20, ground := .data } (by simp) rfl
        rw [Array.getD_eq_getD_getElem?] at t39
        refine .inl ⟨rfl, ?_⟩
        go_simp
        exact ⟨Below.refl _ _, rfl⟩
      · have t40 : a.tmps.getD 40 undef = .bool true := hd { on := 21, ground := .data } (by simp) rfl
        rw [Array.getD_eq_getD_getElem?] at t40
        refine .inl ⟨rfl, ?_⟩
        go_simp
        exact ⟨Below.refl _ _, rfl⟩
      · have g41 : a.eval (.tmp 41) = .bool true := hd { on := 22, ground := .guard } (by simp) rfl
        refine .inl ⟨(by simp only [Region.wanted]; rw [yielded_of (d := 41) (by rfl) g41]; rfl), ?_⟩
        clear g41
        go_simp
        exact (HAw W hE).mono fun e w2 h => ⟨_, h.1, h.2, rfl⟩
      · have t41 : a.tmps.getD 41 undef = .bool true := hd { on := 22, ground := .data } (by simp) rfl
        rw [Array.getD_eq_getD_getElem?] at t41
        have t42 : a.tmps.getD 42 undef = .bool true := hd { on := 23, ground := .data } (by simp) rfl
        rw [Array.getD_eq_getD_getElem?] at t42
        refine .inl ⟨rfl, ?_⟩
        go_simp
        exact ⟨Below.refl _ _, rfl⟩
      · have t43 : a.tmps.getD 43 undef = .bool true := hd { on := 24, ground := .data } (by simp) rfl
        rw [Array.getD_eq_getD_getElem?] at t43
        refine .inl ⟨rfl, ?_⟩
        go_simp
        exact ⟨Below.refl _ _, rfl⟩
    · intro vs W hE hV
      have h25 : vs 25 = .bool true := hV 25 (by decide)
      have HBf : Hid (Below w.heap.size w W) := HB0.out.trans (hE.mono HB0.out.size)
      clear hV hE
      simp only [putsV, dstsV, List.foldl, h25, Act.put, List.setIfInBounds_toArray, List.set_cons_succ, List.set_cons_zero]
      clear h25
      generalize vs 0 = y0
      generalize vs 1 = y1
      generalize vs 2 = y2
      generalize vs 3 = y3
      generalize vs 4 = y4
      generalize vs 5 = y5
      generalize vs 6 = y6
      generalize vs 7 = y7
      generalize vs 8 = y8
      generalize vs 9 = y9
      generalize vs 10 = y10
      generalize vs 11 = y11
      generalize vs 12 = y12
      generalize vs 13 = y13
      generalize vs 14 = y14
      generalize vs 15 = y15
      generalize vs 16 = y16
      generalize vs 17 = y17
      generalize vs 18 = y18
      generalize vs 19 = y19
      generalize vs 20 = y20
      generalize vs 21 = y21
      generalize vs 22 = y22
      generalize vs 23 = y23
      generalize vs 24 = y24
      refine ‹∀ (a : Act) (w : World), Code.wp Tryd.prog Code.ret _ a w → _› _ _ ?_
      go_wp2
      go_ret
      exact ⟨rfl, HBf.out⟩
  · have hm' : mayC c = false := by simpa using hm
    rw [hm'] at HMay
    clear hm hm'
    generalize c.arr = cs at HMay HI ⊢
    go_enter Tryd.func5, Tryd.ntmps5
    go_upto_region 1 with fail
    generalize hW0 : w.alloc _ = W0
    have HC : Hid (CellsAt W0 w.heap.size cs) := by show CellsAt _ _ _; rw [← hW0]; exact heap_alloc_new w _
    have HB : Hid (Below w.heap.size w W0) := by show Below _ _ _; rw [← hW0]; exact (Below.refl _ _).alloc (Nat.le_refl _) _
    clear hW0
    go_wp2_with (first | (refine wpList_load_bx rfl 23 (.tmp 3) rfl w.heap.size rfl 23 _ _ HC.out Tryd.underlying23 rfl HI.out ?_) | fail)
    refine (HMay.out _).mono ?_
    rintro e w1 ⟨rfl, hb⟩
    have HB1 : Hid (Below w.heap.size w w1) := HB.out.trans (hb.mono HB.out.size)
    clear hb HC HB HMay
    go_wp2_with fail
    refine (awake10_any _ (HT.out.below HB1.out)).mono ?_
    rintro e w2 ⟨rfl, hb⟩
    have HB2 : Hid (Below w.heap.size w w2) := HB1.out.trans (hb.mono HB1.out.size)
    clear hb HB1
    go_wp2
    go_ret
    exact ⟨rfl, HB2.out⟩

theorem reads_ProbeWaits (os : Os) {H : Type} (enc : TypeId × Value → H) : ∃ places, DataW.whole enc Tryd.prog ((laidWorld os).forCall (fun _ _ => 0) ⟨#[], #[.agg #[.int .i64 0, .int .i64 0, .int .i64 0, .int .i64 0, .int .i64 0, .int .i64 0, .int .i64 0, .int .i64 0, .int .i64 0, .int .i64 0, .int .i64 0, .int .i64 0, .int .i64 0, .int .i64 0, .int .i64 0, .bool false, .int .i64 0, .int .i64 0, .int .i64 0, .int .i64 0, .int .i64 0, .string ByteArray.empty, .bool false], .int .i64 0, .int .i64 0], []⟩).memory Tryd.f5.params.toList Rows.probeWaitsSpec.vars false (#[.agg #[.int .i64 0, .int .i64 0, .int .i64 0, .int .i64 0, .int .i64 0, .int .i64 0, .int .i64 0, .int .i64 0, .int .i64 0, .int .i64 0, .int .i64 0, .int .i64 0, .int .i64 0, .int .i64 0, .int .i64 0, .bool false, .int .i64 0, .int .i64 0, .int .i64 0, .int .i64 0, .int .i64 0, .string ByteArray.empty, .bool false], .int .i64 0, .int .i64 0] : Array Value).toList 8 = some ([.agg [.lit (.int .i64 0), .lit (.int .i64 0), .lit (.int .i64 0), .lit (.int .i64 0), .lit (.int .i64 0), .lit (.int .i64 0), .lit (.int .i64 0), .lit (.int .i64 0), .lit (.int .i64 0), .lit (.int .i64 0), .lit (.int .i64 0), .lit (.int .i64 0), .lit (.int .i64 0), .lit (.int .i64 0), .lit (.int .i64 0), .lit (.bool false), .lit (.int .i64 0), .lit (.int .i64 0), .lit (.int .i64 0), .lit (.int .i64 0), .lit (.int .i64 0), .lit (.string []), .lit (.bool false)], .lit (.int .i64 0), .lit (.int .i64 0)], [], places) :=
  ⟨[], by kernel_rfl⟩

set_option maxRecDepth 100000 in
theorem lifted_ProbeWaits (os : Os) (started : os.Started) (H : Type) (enc : TypeId × Value → H) (F : Stop.Interp) :
    ReturnsInHanded {} Tryd.checked os 5 .any ((OpenSpec.ofChange Rows.probeWaitsSpec).preRow enc Tryd.prog Tryd.f5 Rows.probeWaitsRow.domain false Rows.probeWaitsRow.laid) (((OpenSpec.ofChange Rows.probeWaitsSpec).at F).post enc Tryd.prog Tryd.f5 false true false false) := by
  obtain ⟨places, hx⟩ := reads_ProbeWaits os enc
  refine returnsInHanded_of_row (C := Tryd.checked) (s := OpenSpec.ofChange Rows.probeWaitsSpec) own started (by kernel_rfl) Tryd.func5
    (witness_row_at (enc := enc) (C := Tryd.checked) false (laidWorld os) #[.agg #[.int .i64 0, .int .i64 0, .int .i64 0, .int .i64 0, .int .i64 0, .int .i64 0, .int .i64 0, .int .i64 0, .int .i64 0, .int .i64 0, .int .i64 0, .int .i64 0, .int .i64 0, .int .i64 0, .int .i64 0, .bool false, .int .i64 0, .int .i64 0, .int .i64 0, .int .i64 0, .int .i64 0, .string ByteArray.empty, .bool false], .int .i64 0, .int .i64 0] rfl (by kernel_rfl) (by kernel_rfl) (by kernel_rfl)
      (OpenSpec.preRow_of_cond 8 hx (by kernel_rfl) (fun k hk => by cases hk) (by kernel_rfl) (laid_met os _))) ?_
  intro W base args ds gs before hval0 hW _ _ hsz0 hL _ _
  have htab := table hL
  have hval : ∀ (j : Nat) t v, Tryd.f5.params[j]? = some t → args[j]? = some v → Value.okWide Tryd.prog W .any base t v := hval0
  have hW' := hW
  obtain ⟨p, q, hA0, hV, rfl, hfz, hnd⟩ := hW
  have hA : DataW.TrodAll enc Tryd.prog W 0 (fun _ => true) true Tryd.f5.params.toList args.toList ds p := hA0
  rw [Tryd.params5] at hA hval
  obtain ⟨v0, vs0, d0, ds0, p0, q0, hargs, rfl, rfl, h0, r0⟩ := trodAll_cons hA
  obtain ⟨v1, vs1, d1, ds1, p1, q1, rfl, rfl, rfl, h1, r1⟩ := trodAll_cons r0
  obtain ⟨v2, vs2, d2, ds2, p2, q2, rfl, rfl, rfl, h2, r2⟩ := trodAll_cons r1
  obtain ⟨rfl, rfl, rfl⟩ := trodAll_nil r2
  obtain rfl : args = #[v0, v1, v2] := by cases args; simp_all
  obtain ⟨rfl, rfl⟩ := trodVars_none hV
  have k0 := h0
  have lt0 : ∀ x ∈ p0, x.block < W.heap.size := by obtain ⟨m, hm⟩ := k0; exact DataW.trod_lt m _ _ _ hm
  obtain ⟨z0, rfl, w0⟩ := open_cfg (hval 0 23 v0 rfl rfl) h0
  obtain ⟨a1, rfl, rfl, rfl, w1⟩ := open_int Tryd.underlying3 (hval 1 3 v1 rfl rfl) h1
  obtain ⟨a2, rfl, rfl, rfl, w2⟩ := open_int Tryd.underlying3 (hval 2 3 v2 rfl rfl) h2
  clear hA0 hval0
  refine (walk_ProbeWaits z0 w0 a1 (bounds_i64 w1) a2 (bounds_i64 w2) W htab).mono fun e W' ⟨he, bel⟩ => ?_
  subst he
  exact ⟨_, rfl, _, _, _, [], _, [], hW', trodAll_mk1 (shut_bool Tryd.underlying4 _), (trodAll_cons_mk (Below.trod laidOut (by kernel_rfl) (of_decide_eq_true (by kernel_rfl)) k0 bel lt0) (trodAll_cons_mk (shut_int Tryd.underlying3 w1) (trodAll_cons_mk (shut_int Tryd.underlying3 w2) trodAll_mk0))), rfl, bel.frame _, fun h => by cases h⟩

theorem said_ProbeWaits : Rows.ProbeWaitsSaid :=
  OpenClaim.holds_of_cond 5 Tryd.f5 rfl rfl rfl rfl rfl rfl rfl ⟨rfl, rfl, rfl, rfl, rfl⟩ rfl rfl rfl rfl rfl (by kernel_rfl) Tryd.func5 (by kernel_rfl)
    (of_decide_eq_true (by kernel_rfl)) (by unfold Func.isWrapper; first | (rw [if_pos (by decide +kernel)]; kernel_rfl) | (rw [if_neg (by decide +kernel)]; exact ⟨rfl, rfl⟩))
    (fun os started H enc _ F => by rw [OpenClaim.pre_eq_preRow]; exact lifted_ProbeWaits os started H enc F)

theorem plain_ProbeWaits (f : FuncId) (fn : Func) (hf : Tryd.pinned.checked.prog.funcNamed Rows.probeWaitsRow.func = some f) (hfn : Tryd.pinned.checked.prog.funcs[f]? = some fn) :
    false = Tryd.pinned.checked.prog.looks [] ∧ ∀ (j : Nat) t, fn.params[j]? = some t → Tryd.pinned.checked.prog.wantsStandIn t = false := by
  obtain rfl : f = 5 := Option.some.inj ((show Tryd.prog.funcNamed Rows.probeWaitsRow.func = some 5 by kernel_rfl).symm.trans hf) |>.symm
  obtain rfl : fn = Tryd.f5 := (Option.some.inj (Tryd.func5.symm.trans hfn)).symm
  refine ⟨by kernel_rfl, fun j t ht => ?_⟩
  rw [Tryd.params5] at ht
  have hm := Array.mem_of_getElem? ht
  simp only [List.mem_toArray, List.mem_cons, List.not_mem_nil, or_false] at hm
  rcases hm with rfl | rfl | rfl
  · exact (show Tryd.prog.wantsStandIn 23 = false by kernel_rfl)
  · exact (show Tryd.prog.wantsStandIn 3 = false by kernel_rfl)
  · exact (show Tryd.prog.wantsStandIn 3 = false by kernel_rfl)

/-- The statement. -/
theorem probeWaits_holds : Rows.ProbeWaitsCardSaid :=
  Claim7.holds_tied_plain_at .later [] _ _ _ _ said_ProbeWaits (fun _ h => by cases h) (by kernel_rfl) (fun _ h => by cases h) probeWaits_row_tie rfl ⟨rfl, rfl⟩ (by kernel_rfl) rfl plain_ProbeWaits (by kernel_rfl)
#print axioms probeWaits_holds

end Go.Proofs.YtejjilnanmomcaaDoor

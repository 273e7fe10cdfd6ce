/-
  ConfigBack, for any two configurations: whether each may be is told as the statement tells it; of two that may be the first one's text is read as it was, and they have one text just if they are the same. No condition but that the two tables are as the program's text lays them (the card).
-/
import Derived.Test.YtmhbfcjlbhighaaDoorConfFrame
import Derived.Test.YtmhbfcjlbhighaaDoorConfEq
import Derived.Test.YtmhbfcjlbhighaaDoorRefMayC
import Derived.Test.YtmhbfcjlbhighaaDoorConfLaw
namespace Go.Proofs.YtmhbfcjlbhighaaDoor
open Go.ChangeShapes Go.WideShapes Go.ChangeAt Go.RowKit

set_option maxRecDepth 100000 in
set_option maxHeartbeats 2000000 in
theorem walk_Back1 (c d : Cfg) (hc : c.zone.size ≤ 9223372036854775807) (hd : d.zone.size ≤ 9223372036854775807) (h1 : mayC c = false) (w : World) (ht : Tabs w) :
    Calls Tryd.prog 4 #[.agg c.arr, .agg d.arr] w fun e w' => e = .returned (.bool true) ∧ Below w.heap.size w w' := by
  have HT : Hid (Tabs w) := ht
  have HM1 := fun W h => may_any c W h hc
  have HM2 := fun W h => may_any d W h hd
  have HR1 := fun W => rMay_any c W hc
  have HR2 := fun W => rMay_any d W hd
  rw [val_arr] at HR1 HR2
  have HAw := fun W h => awake_any W h
  have HI1 : Hid _ := arr_info c
  have HI2 : Hid _ := arr_info d
  rw [h1] at HM1 HR1
  generalize mayC d = m2 at HM2 HR2
  clear ht hc hd h1
  generalize c.arr = A at HM1 HR1 HI1 ⊢
  generalize d.arr = D at HM2 HR2 HI2 ⊢
  go_enter Tryd.func4, Tryd.ntmps4
  go_wp2_with (first | (refine wpList_load_row rfl 23 (.tmp 2) rfl w.heap.size rfl 23 A (0, 0) _ (heap_alloc2_old w _ _) Tryd.underlying23 rfl HI1.out ?_) | fail)
  generalize hW0 : (w.alloc _).alloc _ = W0
  have HA0 : Hid (CellsAt W0 w.heap.size A) := by show CellsAt _ _ _; rw [← hW0]; exact heap_alloc2_old w _ _
  have HD0 : Hid (CellsAt W0 (w.heap.size + 1) D) := by show CellsAt _ _ _; rw [← hW0]; exact heap_alloc2_new w _ _
  have HB0 : Hid (Below w.heap.size w W0) := by show Below _ _ _; rw [← hW0]; exact ((Below.refl _ _).alloc (Nat.le_refl _) _).alloc (by simp) _
  clear hW0
  refine (HM1 _ (HT.out.below HB0.out).1).mono ?_
  rintro e w1 ⟨rfl, hb⟩
  have HA1 : Hid (CellsAt w1 w.heap.size A) := HA0.out.below hb
  have HD1 : Hid (CellsAt w1 (w.heap.size + 1) D) := HD0.out.below hb
  have HB1 : Hid (Below w.heap.size w w1) := HB0.out.trans (hb.mono HB0.out.size)
  clear hb HA0 HD0 HB0
  go_wp2
  have hlA : ∀ W, Below w1.heap.size w1 W → CellsAt W w.heap.size A := fun W h => HA1.out.below h
  have hlD : ∀ W, Below w1.heap.size w1 W → CellsAt W (w.heap.size + 1) D := fun W h => HD1.out.below h
  have HBw : Hid (Below w.heap.size w w1) := HB1.out
  have HTw : Hid (Tabs w1) := HT.out.below HBw.out
  refine wp_region_rel4 (fun W W' => Below W.heap.size W W') (fun i v _ => v = ([.agg A, .bool false, .agg A, .bool false, .bool true, .bool true, .agg D, .bool m2, .agg D, .bool m2, .bool true, .bool true, .bool true, .bool true, .bool true, .bool true] : List Value).getD i undef) (by kernel_rfl) (by kernel_rfl) (Below.refl _ _).drew (fun W => Below.refl _ _) (fun _ _ _ h1 h2 => h1.trans (h2.mono h1.size)) (fun _ _ _ _ h _ => h) ?_ ?_
  · simp only [stepsAll3]
    refine ⟨fun a W hF hE hd => ?_, fun a W hF hE hd => ?_, fun a W hF hE hd => ?_, fun a W hF hE hd => ?_, fun a W hF hE hd => ?_, fun a W hF hE hd => ?_, fun a W hF hE hd => ?_, fun a W hF hE hd => ?_, fun a W hF hE hd => ?_, fun a W hF hE hd => ?_, fun a W hF hE hd => ?_, fun a W hF hE hd => ?_, fun a W hF hE hd => ?_, fun a W hF hE hd => ?_, fun a W hF hE hd => ?_, fun a W hF hE hd => ?_, trivial⟩
    all_goals unfold StepAt
    · have t2 : a.tmps.getD 2 undef = .pointer (some ⟨w.heap.size, 0, none⟩) := hF.at 2 (by kernel_rfl)
      rw [Array.getD_eq_getD_getElem?] at t2
      refine .inl ⟨rfl, ?_⟩
      rw [run_oload _ _ 23 (.tmp 2) rfl (w.heap.size) (by simpa [Act.eval] using t2) 23 A (0, 0) _ (hlA W hE) Tryd.underlying23 rfl HI1.out]
      exact ⟨Below.refl _ _, rfl⟩
    · have t27 : a.tmps.getD 27 undef = .agg A := hd { on := 0, ground := .data } (by simp) rfl
      rw [Array.getD_eq_getD_getElem?] at t27
      refine .inl ⟨rfl, ?_⟩
      go_simp
      exact (HM1 W (HTw.out.below hE).1).mono fun e w2 h => ⟨_, h.1, h.2, rfl⟩
    · have t2 : a.tmps.getD 2 undef = .pointer (some ⟨w.heap.size, 0, none⟩) := hF.at 2 (by kernel_rfl)
      rw [Array.getD_eq_getD_getElem?] at t2
      refine .inl ⟨rfl, ?_⟩
      rw [run_oload _ _ 23 (.tmp 2) rfl (w.heap.size) (by simpa [Act.eval] using t2) 23 A (0, 0) _ (hlA W hE) Tryd.underlying23 rfl HI1.out]
      exact ⟨Below.refl _ _, rfl⟩
    · have t29 : a.tmps.getD 29 undef = .agg A := hd { on := 2, ground := .data } (by simp) rfl
      rw [Array.getD_eq_getD_getElem?] at t29
      refine .inl ⟨rfl, ?_⟩
      go_simp
      exact (HR1 W).mono fun e w2 h => ⟨_, h.1, h.2, rfl⟩
    · have t28 : a.tmps.getD 28 undef = .bool false := hd { on := 1, ground := .data } (by simp) rfl
      rw [Array.getD_eq_getD_getElem?] at t28
      have t30 : a.tmps.getD 30 undef = .bool false := hd { on := 3, ground := .data } (by simp) rfl
      rw [Array.getD_eq_getD_getElem?] at t30
      refine .inl ⟨rfl, ?_⟩
      go_simp
      exact ⟨Below.refl _ _, rfl⟩
    · have t31 : a.tmps.getD 31 undef = .bool true := hd { on := 4, ground := .data } (by simp) rfl
      rw [Array.getD_eq_getD_getElem?] at t31
      refine .inl ⟨rfl, ?_⟩
      go_simp
      exact ⟨Below.refl _ _, rfl⟩
    · have t3 : a.tmps.getD 3 undef = .pointer (some ⟨w.heap.size + 1, 0, none⟩) := hF.at 3 (by kernel_rfl)
      rw [Array.getD_eq_getD_getElem?] at t3
      have g32 : a.eval (.tmp 32) = .bool true := hd { on := 5, ground := .guard } (by simp) rfl
      refine .inl ⟨(by simp only [Region.wanted]; rw [yielded_of (d := 32) (by rfl) g32]; rfl), ?_⟩
      clear g32
      rw [run_oload _ _ 23 (.tmp 3) rfl (w.heap.size + 1) (by simpa [Act.eval] using t3) 23 D (0, 0) _ (hlD W hE) Tryd.underlying23 rfl HI2.out]
      exact ⟨Below.refl _ _, rfl⟩
    · have t33 : a.tmps.getD 33 undef = .agg D := hd { on := 6, ground := .data } (by simp) rfl
      rw [Array.getD_eq_getD_getElem?] at t33
      have g32 : a.eval (.tmp 32) = .bool true := hd { on := 5, ground := .guard } (by simp) rfl
      refine .inl ⟨(by simp only [Region.wanted]; rw [yielded_of (d := 32) (by rfl) g32]; rfl), ?_⟩
      clear g32
      go_simp
      exact (HM2 W (HTw.out.below hE).1).mono fun e w2 h => ⟨_, h.1, h.2, rfl⟩
    · have t3 : a.tmps.getD 3 undef = .pointer (some ⟨w.heap.size + 1, 0, none⟩) := hF.at 3 (by kernel_rfl)
      rw [Array.getD_eq_getD_getElem?] at t3
      have g32 : a.eval (.tmp 32) = .bool true := hd { on := 5, ground := .guard } (by simp) rfl
      refine .inl ⟨(by simp only [Region.wanted]; rw [yielded_of (d := 32) (by rfl) g32]; rfl), ?_⟩
      clear g32
      rw [run_oload _ _ 23 (.tmp 3) rfl (w.heap.size + 1) (by simpa [Act.eval] using t3) 23 D (0, 0) _ (hlD W hE) Tryd.underlying23 rfl HI2.out]
      exact ⟨Below.refl _ _, rfl⟩
    · have t35 : a.tmps.getD 35 undef = .agg D := hd { on := 8, ground := .data } (by simp) rfl
      rw [Array.getD_eq_getD_getElem?] at t35
      have g32 : a.eval (.tmp 32) = .bool true := hd { on := 5, ground := .guard } (by simp) rfl
      refine .inl ⟨(by simp only [Region.wanted]; rw [yielded_of (d := 32) (by rfl) g32]; rfl), ?_⟩
      clear g32
      go_simp
      exact (HR2 W).mono fun e w2 h => ⟨_, h.1, h.2, rfl⟩
    · have t34 : a.tmps.getD 34 undef = .bool m2 := hd { on := 7, ground := .data } (by simp) rfl
      rw [Array.getD_eq_getD_getElem?] at t34
      have t36 : a.tmps.getD 36 undef = .bool m2 := hd { on := 9, ground := .data } (by simp) rfl
      rw [Array.getD_eq_getD_getElem?] at t36
      have g32 : a.eval (.tmp 32) = .bool true := hd { on := 5, ground := .guard } (by simp) rfl
      refine .inl ⟨(by simp only [Region.wanted]; rw [yielded_of (d := 32) (by rfl) g32]; rfl), ?_⟩
      clear g32
      go_simp
      exact ⟨Below.refl _ _, rfl⟩
    · have t32 : a.tmps.getD 32 undef = .bool true := hd { on := 5, ground := .data } (by simp) rfl
      rw [Array.getD_eq_getD_getElem?] at t32
      have t37 : a.tmps.getD 37 undef = .bool true := hd { on := 10, ground := .data } (by simp) rfl
      rw [Array.getD_eq_getD_getElem?] at t37
      refine .inl ⟨rfl, ?_⟩
      go_simp
      exact ⟨Below.refl _ _, rfl⟩
    · have t38 : a.tmps.getD 38 undef = .bool true := hd { on := 11, ground := .data } (by simp) rfl
      rw [Array.getD_eq_getD_getElem?] at t38
      refine .inl ⟨rfl, ?_⟩
      go_simp
      exact ⟨Below.refl _ _, rfl⟩
    · have g39 : a.eval (.tmp 39) = .bool true := hd { on := 12, ground := .guard } (by simp) rfl
      refine .inl ⟨(by simp only [Region.wanted]; rw [yielded_of (d := 39) (by rfl) g39]; rfl), ?_⟩
      clear g39
      go_simp
      exact (HAw W (HTw.out.below hE)).mono fun e w2 h => ⟨_, h.1, h.2, rfl⟩
    · have t39 : a.tmps.getD 39 undef = .bool true := hd { on := 12, ground := .data } (by simp) rfl
      rw [Array.getD_eq_getD_getElem?] at t39
      have t40 : a.tmps.getD 40 undef = .bool true := hd { on := 13, ground := .data } (by simp) rfl
      rw [Array.getD_eq_getD_getElem?] at t40
      refine .inl ⟨rfl, ?_⟩
      go_simp
      exact ⟨Below.refl _ _, rfl⟩
    · have t41 : a.tmps.getD 41 undef = .bool true := hd { on := 14, ground := .data } (by simp) rfl
      rw [Array.getD_eq_getD_getElem?] at t41
      refine .inl ⟨rfl, ?_⟩
      go_simp
      exact ⟨Below.refl _ _, rfl⟩
  · intro vs W hE hV
    have h4 : vs 15 = .bool true := hV 15 (by decide)
    have HBf : Hid (Below w.heap.size w W) := HBw.out.trans (hE.mono HBw.out.size)
    clear hV hE
    simp only [putsV, dstsV, List.foldl, h4, Act.put, List.setIfInBounds_toArray, List.set_cons_succ, List.set_cons_zero]
    clear h4
    refine ‹∀ (a : Act) (w : World), Code.wp Tryd.prog Code.ret _ a w → _› _ _ ?_
    go_wp2
    go_ret
    exact ⟨rfl, HBf.out⟩

set_option maxRecDepth 100000 in
set_option maxHeartbeats 2000000 in
theorem walk_Back2 (c d : Cfg) (hc : c.zone.size ≤ 9223372036854775807) (hd : d.zone.size ≤ 9223372036854775807) (h1 : mayC c = true) (h2 : mayC d = false) (w : World) (ht : Tabs w) :
    Calls Tryd.prog 4 #[.agg c.arr, .agg d.arr] w fun e w' => e = .returned (.bool true) ∧ Below w.heap.size w w' := by
  have HT : Hid (Tabs w) := ht
  have HM1 := fun W h => may_any c W h hc
  have HM2 := fun W h => may_any d W h hd
  have HR1 := fun W => rMay_any c W hc
  have HR2 := fun W => rMay_any d W hd
  rw [val_arr] at HR1 HR2
  have HAw := fun W h => awake_any W h
  have HI1 : Hid _ := arr_info c
  have HI2 : Hid _ := arr_info d
  rw [h1] at HM1 HR1
  rw [h2] at HM2 HR2
  clear ht hc hd h1 h2
  generalize c.arr = A at HM1 HR1 HI1 ⊢
  generalize d.arr = D at HM2 HR2 HI2 ⊢
  go_enter Tryd.func4, Tryd.ntmps4
  go_wp2_with (first | (refine wpList_load_row rfl 23 (.tmp 2) rfl w.heap.size rfl 23 A (0, 0) _ (heap_alloc2_old w _ _) Tryd.underlying23 rfl HI1.out ?_) | fail)
  generalize hW0 : (w.alloc _).alloc _ = W0
  have HA0 : Hid (CellsAt W0 w.heap.size A) := by show CellsAt _ _ _; rw [← hW0]; exact heap_alloc2_old w _ _
  have HD0 : Hid (CellsAt W0 (w.heap.size + 1) D) := by show CellsAt _ _ _; rw [← hW0]; exact heap_alloc2_new w _ _
  have HB0 : Hid (Below w.heap.size w W0) := by show Below _ _ _; rw [← hW0]; exact ((Below.refl _ _).alloc (Nat.le_refl _) _).alloc (by simp) _
  clear hW0
  refine (HM1 _ (HT.out.below HB0.out).1).mono ?_
  rintro e w1 ⟨rfl, hb⟩
  have HA1 : Hid (CellsAt w1 w.heap.size A) := HA0.out.below hb
  have HD1 : Hid (CellsAt w1 (w.heap.size + 1) D) := HD0.out.below hb
  have HB1 : Hid (Below w.heap.size w w1) := HB0.out.trans (hb.mono HB0.out.size)
  clear hb HA0 HD0 HB0
  go_wp2_with (first | (refine wpList_load_want rfl 23 (.tmp 3) rfl (w.heap.size + 1) rfl 23 D (0, 0) _ HD1.out Tryd.underlying23 rfl HI2.out ?_) | fail)
  refine (HM2 _ (HT.out.below HB1.out).1).mono ?_
  rintro e w2 ⟨rfl, hb⟩
  have HA2 : Hid (CellsAt w2 w.heap.size A) := HA1.out.below hb
  have HD2 : Hid (CellsAt w2 (w.heap.size + 1) D) := HD1.out.below hb
  have HB2 : Hid (Below w.heap.size w w2) := HB1.out.trans (hb.mono HB1.out.size)
  clear hb HA1 HD1 HB1
  go_wp2
  have hlA : ∀ W, Below w2.heap.size w2 W → CellsAt W w.heap.size A := fun W h => HA2.out.below h
  have hlD : ∀ W, Below w2.heap.size w2 W → CellsAt W (w.heap.size + 1) D := fun W h => HD2.out.below h
  have HBw : Hid (Below w.heap.size w w2) := HB2.out
  have HTw : Hid (Tabs w2) := HT.out.below HBw.out
  refine wp_region_rel4 (fun W W' => Below W.heap.size W W') (fun i v _ => v = ([.agg A, .bool true, .agg A, .bool true, .bool true, .bool true, .agg D, .bool false, .agg D, .bool false, .bool true, .bool true, .bool true, .bool true, .bool true, .bool true] : List Value).getD i undef) (by kernel_rfl) (by kernel_rfl) (Below.refl _ _).drew (fun W => Below.refl _ _) (fun _ _ _ h1 h2 => h1.trans (h2.mono h1.size)) (fun _ _ _ _ h _ => h) ?_ ?_
  · simp only [stepsAll3]
    refine ⟨fun a W hF hE hd => ?_, fun a W hF hE hd => ?_, fun a W hF hE hd => ?_, fun a W hF hE hd => ?_, fun a W hF hE hd => ?_, fun a W hF hE hd => ?_, fun a W hF hE hd => ?_, fun a W hF hE hd => ?_, fun a W hF hE hd => ?_, fun a W hF hE hd => ?_, fun a W hF hE hd => ?_, fun a W hF hE hd => ?_, fun a W hF hE hd => ?_, fun a W hF hE hd => ?_, fun a W hF hE hd => ?_, fun a W hF hE hd => ?_, trivial⟩
    all_goals unfold StepAt
    · have t2 : a.tmps.getD 2 undef = .pointer (some ⟨w.heap.size, 0, none⟩) := hF.at 2 (by kernel_rfl)
      rw [Array.getD_eq_getD_getElem?] at t2
      refine .inl ⟨rfl, ?_⟩
      rw [run_oload _ _ 23 (.tmp 2) rfl (w.heap.size) (by simpa [Act.eval] using t2) 23 A (0, 0) _ (hlA W hE) Tryd.underlying23 rfl HI1.out]
      exact ⟨Below.refl _ _, rfl⟩
    · have t27 : a.tmps.getD 27 undef = .agg A := hd { on := 0, ground := .data } (by simp) rfl
      rw [Array.getD_eq_getD_getElem?] at t27
      refine .inl ⟨rfl, ?_⟩
      go_simp
      exact (HM1 W (HTw.out.below hE).1).mono fun e w2 h => ⟨_, h.1, h.2, rfl⟩
    · have t2 : a.tmps.getD 2 undef = .pointer (some ⟨w.heap.size, 0, none⟩) := hF.at 2 (by kernel_rfl)
      rw [Array.getD_eq_getD_getElem?] at t2
      refine .inl ⟨rfl, ?_⟩
      rw [run_oload _ _ 23 (.tmp 2) rfl (w.heap.size) (by simpa [Act.eval] using t2) 23 A (0, 0) _ (hlA W hE) Tryd.underlying23 rfl HI1.out]
      exact ⟨Below.refl _ _, rfl⟩
    · have t29 : a.tmps.getD 29 undef = .agg A := hd { on := 2, ground := .data } (by simp) rfl
      rw [Array.getD_eq_getD_getElem?] at t29
      refine .inl ⟨rfl, ?_⟩
      go_simp
      exact (HR1 W).mono fun e w2 h => ⟨_, h.1, h.2, rfl⟩
    · have t28 : a.tmps.getD 28 undef = .bool true := hd { on := 1, ground := .data } (by simp) rfl
      rw [Array.getD_eq_getD_getElem?] at t28
      have t30 : a.tmps.getD 30 undef = .bool true := hd { on := 3, ground := .data } (by simp) rfl
      rw [Array.getD_eq_getD_getElem?] at t30
      refine .inl ⟨rfl, ?_⟩
      go_simp
      exact ⟨Below.refl _ _, rfl⟩
    · have t31 : a.tmps.getD 31 undef = .bool true := hd { on := 4, ground := .data } (by simp) rfl
      rw [Array.getD_eq_getD_getElem?] at t31
      refine .inl ⟨rfl, ?_⟩
      go_simp
      exact ⟨Below.refl _ _, rfl⟩
    · have t3 : a.tmps.getD 3 undef = .pointer (some ⟨w.heap.size + 1, 0, none⟩) := hF.at 3 (by kernel_rfl)
      rw [Array.getD_eq_getD_getElem?] at t3
      have g32 : a.eval (.tmp 32) = .bool true := hd { on := 5, ground := .guard } (by simp) rfl
      refine .inl ⟨(by simp only [Region.wanted]; rw [yielded_of (d := 32) (by rfl) g32]; rfl), ?_⟩
      clear g32
      rw [run_oload _ _ 23 (.tmp 3) rfl (w.heap.size + 1) (by simpa [Act.eval] using t3) 23 D (0, 0) _ (hlD W hE) Tryd.underlying23 rfl HI2.out]
      exact ⟨Below.refl _ _, rfl⟩
    · have t33 : a.tmps.getD 33 undef = .agg D := hd { on := 6, ground := .data } (by simp) rfl
      rw [Array.getD_eq_getD_getElem?] at t33
      have g32 : a.eval (.tmp 32) = .bool true := hd { on := 5, ground := .guard } (by simp) rfl
      refine .inl ⟨(by simp only [Region.wanted]; rw [yielded_of (d := 32) (by rfl) g32]; rfl), ?_⟩
      clear g32
      go_simp
      exact (HM2 W (HTw.out.below hE).1).mono fun e w2 h => ⟨_, h.1, h.2, rfl⟩
    · have t3 : a.tmps.getD 3 undef = .pointer (some ⟨w.heap.size + 1, 0, none⟩) := hF.at 3 (by kernel_rfl)
      rw [Array.getD_eq_getD_getElem?] at t3
      have g32 : a.eval (.tmp 32) = .bool true := hd { on := 5, ground := .guard } (by simp) rfl
      refine .inl ⟨(by simp only [Region.wanted]; rw [yielded_of (d := 32) (by rfl) g32]; rfl), ?_⟩
      clear g32
      rw [run_oload _ _ 23 (.tmp 3) rfl (w.heap.size + 1) (by simpa [Act.eval] using t3) 23 D (0, 0) _ (hlD W hE) Tryd.underlying23 rfl HI2.out]
      exact ⟨Below.refl _ _, rfl⟩
    · have t35 : a.tmps.getD 35 undef = .agg D := hd { on := 8, ground := .data } (by simp) rfl
      rw [Array.getD_eq_getD_getElem?] at t35
      have g32 : a.eval (.tmp 32) = .bool true := hd { on := 5, ground := .guard } (by simp) rfl
      refine .inl ⟨(by simp only [Region.wanted]; rw [yielded_of (d := 32) (by rfl) g32]; rfl), ?_⟩
      clear g32
      go_simp
      exact (HR2 W).mono fun e w2 h => ⟨_, h.1, h.2, rfl⟩
    · have t34 : a.tmps.getD 34 undef = .bool false := hd { on := 7, ground := .data } (by simp) rfl
      rw [Array.getD_eq_getD_getElem?] at t34
      have t36 : a.tmps.getD 36 undef = .bool false := hd { on := 9, ground := .data } (by simp) rfl
      rw [Array.getD_eq_getD_getElem?] at t36
      have g32 : a.eval (.tmp 32) = .bool true := hd { on := 5, ground := .guard } (by simp) rfl
      refine .inl ⟨(by simp only [Region.wanted]; rw [yielded_of (d := 32) (by rfl) g32]; rfl), ?_⟩
      clear g32
      go_simp
      exact ⟨Below.refl _ _, rfl⟩
    · have t32 : a.tmps.getD 32 undef = .bool true := hd { on := 5, ground := .data } (by simp) rfl
      rw [Array.getD_eq_getD_getElem?] at t32
      have t37 : a.tmps.getD 37 undef = .bool true := hd { on := 10, ground := .data } (by simp) rfl
      rw [Array.getD_eq_getD_getElem?] at t37
      refine .inl ⟨rfl, ?_⟩
      go_simp
      exact ⟨Below.refl _ _, rfl⟩
    · have t38 : a.tmps.getD 38 undef = .bool true := hd { on := 11, ground := .data } (by simp) rfl
      rw [Array.getD_eq_getD_getElem?] at t38
      refine .inl ⟨rfl, ?_⟩
      go_simp
      exact ⟨Below.refl _ _, rfl⟩
    · have g39 : a.eval (.tmp 39) = .bool true := hd { on := 12, ground := .guard } (by simp) rfl
      refine .inl ⟨(by simp only [Region.wanted]; rw [yielded_of (d := 39) (by rfl) g39]; rfl), ?_⟩
      clear g39
      go_simp
      exact (HAw W (HTw.out.below hE)).mono fun e w2 h => ⟨_, h.1, h.2, rfl⟩
    · have t39 : a.tmps.getD 39 undef = .bool true := hd { on := 12, ground := .data } (by simp) rfl
      rw [Array.getD_eq_getD_getElem?] at t39
      have t40 : a.tmps.getD 40 undef = .bool true := hd { on := 13, ground := .data } (by simp) rfl
      rw [Array.getD_eq_getD_getElem?] at t40
      refine .inl ⟨rfl, ?_⟩
      go_simp
      exact ⟨Below.refl _ _, rfl⟩
    · have t41 : a.tmps.getD 41 undef = .bool true := hd { on := 14, ground := .data } (by simp) rfl
      rw [Array.getD_eq_getD_getElem?] at t41
      refine .inl ⟨rfl, ?_⟩
      go_simp
      exact ⟨Below.refl _ _, rfl⟩
  · intro vs W hE hV
    have h4 : vs 15 = .bool true := hV 15 (by decide)
    have HBf : Hid (Below w.heap.size w W) := HBw.out.trans (hE.mono HBw.out.size)
    clear hV hE
    simp only [putsV, dstsV, List.foldl, h4, Act.put, List.setIfInBounds_toArray, List.set_cons_succ, List.set_cons_zero]
    clear h4
    refine ‹∀ (a : Act) (w : World), Code.wp Tryd.prog Code.ret _ a w → _› _ _ ?_
    go_wp2
    go_ret
    exact ⟨rfl, HBf.out⟩

set_option maxRecDepth 100000 in
set_option maxHeartbeats 4000000 in
theorem walk_Back3 (c d : Cfg) (hc : c.zone.size ≤ 9223372036854775807) (hd : d.zone.size ≤ 9223372036854775807) (h1 : mayC c = true) (h2 : mayC d = true) (w : World) (ht : Tabs w) :
    Calls Tryd.prog 4 #[.agg c.arr, .agg d.arr] w fun e w' => e = .returned (.bool true) ∧ Below w.heap.size w w' := by
  have HT : Hid (Tabs w) := ht
  have HM1 := fun W h => may_any c W h hc
  have HM2 := fun W h => may_any d W h hd
  have HR1 := fun W => rMay_any c W hc
  have HR2 := fun W => rMay_any d W hd
  rw [val_arr] at HR1 HR2
  have HAw := fun W h => awake_any W h
  have HI1 : Hid _ := arr_info c
  have HI2 : Hid _ := arr_info d
  have HX1 := fun W h => text_any c W h hc
  have HX2 := fun W h => text_any d W h hd
  have HP := fun W h => parse_any (mkS (textC c)) W h (text_short h1)
  rw [parse_text h1] at HP
  simp only at HP
  rw [h1] at HM1 HR1
  rw [h2] at HM2 HR2
  obtain ⟨q, hq⟩ : ∃ q, decide (c = d) = q := ⟨_, rfl⟩
  have hs1 : ∀ W, (binOp .eql 23 (.agg c.arr) (.agg d.arr)).run Tryd.prog W = .ok (.bool q) W := fun W => by rw [← hq]; exact run_sameC c d W
  have hs2 : ∀ W, (binOp .eql 23 (.agg c.arr) (.agg c.arr)).run Tryd.prog W = .ok (.bool true) W := fun W => by
    have h := run_sameC c c W
    rw [decide_eq_true rfl] at h
    exact h
  have hs3 : ((mkS (textC c)).toList == (mkS (textC d)).toList) = q := by
    rw [← hq, Bool.eq_iff_iff, beq_iff_eq, decide_eq_true_eq, ← text_inj h1 h2]
    constructor
    · intro h
      rw [ByteArray.toList_eq, ByteArray.toList_eq] at h
      exact ByteArray.ext (Array.toList_inj.1 h)
    · intro h; rw [h]
  have hg := eq_guard
  have HO1 : Hid _ := arr_one c
  have HS1 : Hid (c.arr.size = 23) := rfl
  clear ht hc hd h1 h2 hq
  generalize mkS (textC c) = T1 at HX1 HP hs3
  generalize mkS (textC d) = T2 at HX2 hs3
  generalize c.arr = A at HM1 HR1 HI1 HX1 HP hs1 hs2 HO1 HS1 ⊢
  generalize d.arr = D at HM2 HR2 HI2 HX2 hs1 ⊢
  go_enter Tryd.func4, Tryd.ntmps4
  go_wp2_with (first | (refine wpList_load_row rfl 23 (.tmp 2) rfl w.heap.size rfl 23 A (0, 0) _ (heap_alloc2_old w _ _) Tryd.underlying23 rfl HI1.out ?_) | fail)
  generalize hW0 : (w.alloc _).alloc _ = W0
  have HA0 : Hid (CellsAt W0 w.heap.size A) := by show CellsAt _ _ _; rw [← hW0]; exact heap_alloc2_old w _ _
  have HD0 : Hid (CellsAt W0 (w.heap.size + 1) D) := by show CellsAt _ _ _; rw [← hW0]; exact heap_alloc2_new w _ _
  have HB0 : Hid (Below w.heap.size w W0) := by show Below _ _ _; rw [← hW0]; exact ((Below.refl _ _).alloc (Nat.le_refl _) _).alloc (by simp) _
  clear hW0
  refine (HM1 _ (HT.out.below HB0.out).1).mono ?_
  rintro e w1 ⟨rfl, hb⟩
  have HA1 : Hid (CellsAt w1 w.heap.size A) := HA0.out.below hb
  have HD1 : Hid (CellsAt w1 (w.heap.size + 1) D) := HD0.out.below hb
  have HB1 : Hid (Below w.heap.size w w1) := HB0.out.trans (hb.mono HB0.out.size)
  clear hb HA0 HD0 HB0
  go_wp2_with (first | (refine wpList_load_want rfl 23 (.tmp 3) rfl (w.heap.size + 1) rfl 23 D (0, 0) _ HD1.out Tryd.underlying23 rfl HI2.out ?_) | fail)
  refine (HM2 _ (HT.out.below HB1.out).1).mono ?_
  rintro e w2 ⟨rfl, hb⟩
  have HA2 : Hid (CellsAt w2 w.heap.size A) := HA1.out.below hb
  have HD2 : Hid (CellsAt w2 (w.heap.size + 1) D) := HD1.out.below hb
  have HB2 : Hid (Below w.heap.size w w2) := HB1.out.trans (hb.mono HB1.out.size)
  clear hb HA1 HD1 HB1
  go_wp2_with (first | (refine wpList_load_want rfl 23 (.tmp 2) rfl (w.heap.size) rfl 23 A (0, 0) _ HA2.out Tryd.underlying23 rfl HI1.out ?_) | fail)
  refine (HR1 _).mono ?_
  rintro e w3 ⟨rfl, hb⟩
  have HA3 : Hid (CellsAt w3 w.heap.size A) := HA2.out.below hb
  have HD3 : Hid (CellsAt w3 (w.heap.size + 1) D) := HD2.out.below hb
  have HB3 : Hid (Below w.heap.size w w3) := HB2.out.trans (hb.mono HB2.out.size)
  clear hb HA2 HD2 HB2
  go_wp2_with (first | (refine wpList_load_want rfl 23 (.tmp 3) rfl (w.heap.size + 1) rfl 23 D (0, 0) _ HD3.out Tryd.underlying23 rfl HI2.out ?_) | fail)
  refine (HR2 _).mono ?_
  rintro e w4 ⟨rfl, hb⟩
  have HA4 : Hid (CellsAt w4 w.heap.size A) := HA3.out.below hb
  have HD4 : Hid (CellsAt w4 (w.heap.size + 1) D) := HD3.out.below hb
  have HB4 : Hid (Below w.heap.size w w4) := HB3.out.trans (hb.mono HB3.out.size)
  clear hb HA3 HD3 HB3
  go_wp2_with (first | (refine wpList_load_row rfl 23 (.tmp 2) rfl (w.heap.size) rfl 23 A (0, 0) _ HA4.out Tryd.underlying23 rfl HI1.out ?_) | fail)
  refine (HX1 _ (HT.out.below HB4.out)).mono ?_
  rintro e w5 ⟨rfl, hb⟩
  have HA5 : Hid (CellsAt w5 w.heap.size A) := HA4.out.below hb
  have HD5 : Hid (CellsAt w5 (w.heap.size + 1) D) := HD4.out.below hb
  have HB5 : Hid (Below w.heap.size w w5) := HB4.out.trans (hb.mono HB4.out.size)
  clear hb HA4 HD4 HB4
  go_wp2_with fail
  refine (HP _ (HT.out.below HB5.out).1).mono ?_
  rintro e w7 ⟨rfl, hb⟩
  have HA7 : Hid (CellsAt w7 w.heap.size A) := HA5.out.below hb
  have HD7 : Hid (CellsAt w7 (w.heap.size + 1) D) := HD5.out.below hb
  have HB7 : Hid (Below w.heap.size w w7) := HB5.out.trans (hb.mono HB5.out.size)
  have HF := fun o => stored_facts3 HA7.out HD7.out HB7.out (D := A) (o := o)
  clear hb HA5 HD5 HB5 HM1 HM2 HR1 HR2 HX1 HP
  go_wp2_with (first | (refine wpList_store_row rfl 23 (.tmp 6) (.tmp 47) rfl w7.heap.size A rfl rfl 23 _ (heap_alloc_new w7 _) HI1.out HS1.out.symm HO1.out ?_; obtain ⟨hf1, hf2, hf3, hf4⟩ := HF _; generalize World.setRow _ _ _ = W8 at hf1 hf2 hf3 hf4 ⊢; have HF1 : Hid _ := hf1; have HF2 : Hid _ := hf2; have HF3 : Hid _ := hf3; have HF4 : Hid _ := hf4; clear hf1 hf2 hf3 hf4 HF) | fail)
  have hlA : ∀ W, Below W8.heap.size W8 W → CellsAt W w.heap.size A := fun W h => CellsAt.below HF1.out h
  have hlD : ∀ W, Below W8.heap.size W8 W → CellsAt W (w.heap.size + 1) D := fun W h => CellsAt.below HF2.out h
  have hlP : ∀ W, Below W8.heap.size W8 W → CellsAt W w7.heap.size A := fun W h => CellsAt.below HF3.out h
  have HBw : Hid (Below w.heap.size w W8) := HF4.out
  have HTw : Hid (Tabs W8) := HT.out.below HBw.out
  refine wp_region_rel4 (fun W W' => Below W.heap.size W W') (fun i v _ => v = ([.int .i64 0, .bool true, .bool true, .int .i64 0, .bool true, .bool true, .bool true, .agg A, .agg A, .bool true, .bool true, .bool true, .string T1, .agg D, .string T2, .bool q, .agg A, .agg D, .bool q, .bool true, .bool true, .bool true, .bool true, .bool true, .bool true] : List Value).getD i undef) (by kernel_rfl) (by kernel_rfl) (Below.refl _ _).drew (fun W => Below.refl _ _) (fun _ _ _ h1 h2 => h1.trans (h2.mono h1.size)) (fun _ _ _ _ h _ => h) ?_ ?_
  · simp only [stepsAll3]
    refine ⟨fun a W hF hE hd => ?_, fun a W hF hE hd => ?_, fun a W hF hE hd => ?_, fun a W hF hE hd => ?_, fun a W hF hE hd => ?_, fun a W hF hE hd => ?_, fun a W hF hE hd => ?_, fun a W hF hE hd => ?_, fun a W hF hE hd => ?_, fun a W hF hE hd => ?_, fun a W hF hE hd => ?_, fun a W hF hE hd => ?_, fun a W hF hE hd => ?_, fun a W hF hE hd => ?_, fun a W hF hE hd => ?_, fun a W hF hE hd => ?_, fun a W hF hE hd => ?_, fun a W hF hE hd => ?_, fun a W hF hE hd => ?_, fun a W hF hE hd => ?_, fun a W hF hE hd => ?_, fun a W hF hE hd => ?_, fun a W hF hE hd => ?_, fun a W hF hE hd => ?_, fun a W hF hE hd => ?_, trivial⟩
    all_goals unfold StepAt
    · have t8 : a.tmps.getD 8 undef = .int .i64 0 := hF.at 8 (by kernel_rfl)
      rw [Array.getD_eq_getD_getElem?] at t8
      refine .inl ⟨rfl, ?_⟩
      go_simp
      exact ⟨Below.refl _ _, rfl⟩
    · have t50 : a.tmps.getD 50 undef = .int .i64 0 := hd { on := 0, ground := .data } (by simp) rfl
      rw [Array.getD_eq_getD_getElem?] at t50
      refine .inl ⟨rfl, ?_⟩
      go_simp
      exact ⟨Below.refl _ _, rfl⟩
    · have t51 : a.tmps.getD 51 undef = .bool true := hd { on := 1, ground := .data } (by simp) rfl
      rw [Array.getD_eq_getD_getElem?] at t51
      refine .inl ⟨rfl, ?_⟩
      go_simp
      exact ⟨Below.refl _ _, rfl⟩
    · have t7 : a.tmps.getD 7 undef = .int .i64 0 := hF.at 7 (by kernel_rfl)
      rw [Array.getD_eq_getD_getElem?] at t7
      have g52 : a.eval (.tmp 52) = .bool true := hd { on := 2, ground := .guard } (by simp) rfl
      refine .inl ⟨(by simp only [Region.wanted]; rw [yielded_of (d := 52) (by rfl) g52]; rfl), ?_⟩
      clear g52
      go_simp
      exact ⟨Below.refl _ _, rfl⟩
    · have t53 : a.tmps.getD 53 undef = .int .i64 0 := hd { on := 3, ground := .data } (by simp) rfl
      rw [Array.getD_eq_getD_getElem?] at t53
      have g52 : a.eval (.tmp 52) = .bool true := hd { on := 2, ground := .guard } (by simp) rfl
      refine .inl ⟨(by simp only [Region.wanted]; rw [yielded_of (d := 52) (by rfl) g52]; rfl), ?_⟩
      clear g52
      go_simp
      exact ⟨Below.refl _ _, rfl⟩
    · have t52 : a.tmps.getD 52 undef = .bool true := hd { on := 2, ground := .data } (by simp) rfl
      rw [Array.getD_eq_getD_getElem?] at t52
      have t54 : a.tmps.getD 54 undef = .bool true := hd { on := 4, ground := .data } (by simp) rfl
      rw [Array.getD_eq_getD_getElem?] at t54
      refine .inl ⟨rfl, ?_⟩
      go_simp
      exact ⟨Below.refl _ _, rfl⟩
    · have t55 : a.tmps.getD 55 undef = .bool true := hd { on := 5, ground := .data } (by simp) rfl
      rw [Array.getD_eq_getD_getElem?] at t55
      refine .inl ⟨rfl, ?_⟩
      go_simp
      exact ⟨Below.refl _ _, rfl⟩
    · have t6 : a.tmps.getD 6 undef = .pointer (some ⟨w7.heap.size, 0, none⟩) := hF.at 6 (by kernel_rfl)
      rw [Array.getD_eq_getD_getElem?] at t6
      have g56 : a.eval (.tmp 56) = .bool true := hd { on := 6, ground := .guard } (by simp) rfl
      refine .inl ⟨(by simp only [Region.wanted]; rw [yielded_of (d := 56) (by rfl) g56]; rfl), ?_⟩
      clear g56
      rw [run_oload _ _ 23 (.tmp 6) rfl (w7.heap.size) (by simpa [Act.eval] using t6) 23 A (0, 0) _ (hlP W hE) Tryd.underlying23 rfl HI1.out]
      exact ⟨Below.refl _ _, rfl⟩
    · have t2 : a.tmps.getD 2 undef = .pointer (some ⟨w.heap.size, 0, none⟩) := hF.at 2 (by kernel_rfl)
      rw [Array.getD_eq_getD_getElem?] at t2
      have g56 : a.eval (.tmp 56) = .bool true := hd { on := 6, ground := .guard } (by simp) rfl
      refine .inl ⟨(by simp only [Region.wanted]; rw [yielded_of (d := 56) (by rfl) g56]; rfl), ?_⟩
      clear g56
      rw [run_oload _ _ 23 (.tmp 2) rfl (w.heap.size) (by simpa [Act.eval] using t2) 23 A (0, 0) _ (hlA W hE) Tryd.underlying23 rfl HI1.out]
      exact ⟨Below.refl _ _, rfl⟩
    · have t57 : a.tmps.getD 57 undef = .agg A := hd { on := 7, ground := .data } (by simp) rfl
      rw [Array.getD_eq_getD_getElem?] at t57
      have t58 : a.tmps.getD 58 undef = .agg A := hd { on := 8, ground := .data } (by simp) rfl
      rw [Array.getD_eq_getD_getElem?] at t58
      have g56 : a.eval (.tmp 56) = .bool true := hd { on := 6, ground := .guard } (by simp) rfl
      refine .inl ⟨(by simp only [Region.wanted]; rw [yielded_of (d := 56) (by rfl) g56]; rfl), ?_⟩
      clear g56
      go_simp
      exact ⟨Below.refl _ _, rfl⟩
    · have t56 : a.tmps.getD 56 undef = .bool true := hd { on := 6, ground := .data } (by simp) rfl
      rw [Array.getD_eq_getD_getElem?] at t56
      have t59 : a.tmps.getD 59 undef = .bool true := hd { on := 9, ground := .data } (by simp) rfl
      rw [Array.getD_eq_getD_getElem?] at t59
      refine .inl ⟨rfl, ?_⟩
      go_simp
      exact ⟨Below.refl _ _, rfl⟩
    · have t60 : a.tmps.getD 60 undef = .bool true := hd { on := 10, ground := .data } (by simp) rfl
      rw [Array.getD_eq_getD_getElem?] at t60
      refine .inl ⟨rfl, ?_⟩
      go_simp
      exact ⟨Below.refl _ _, rfl⟩
    · have t5 : a.tmps.getD 5 undef = .string T1 := hF.at 5 (by kernel_rfl)
      rw [Array.getD_eq_getD_getElem?] at t5
      have g61 : a.eval (.tmp 61) = .bool true := hd { on := 11, ground := .guard } (by simp) rfl
      refine .inl ⟨(by simp only [Region.wanted]; rw [yielded_of (d := 61) (by rfl) g61]; rfl), ?_⟩
      clear g61
      go_simp
      exact ⟨Below.refl _ _, rfl⟩
    · have t3 : a.tmps.getD 3 undef = .pointer (some ⟨w.heap.size + 1, 0, none⟩) := hF.at 3 (by kernel_rfl)
      rw [Array.getD_eq_getD_getElem?] at t3
      have g61 : a.eval (.tmp 61) = .bool true := hd { on := 11, ground := .guard } (by simp) rfl
      refine .inl ⟨(by simp only [Region.wanted]; rw [yielded_of (d := 61) (by rfl) g61]; rfl), ?_⟩
      clear g61
      rw [run_oload _ _ 23 (.tmp 3) rfl (w.heap.size + 1) (by simpa [Act.eval] using t3) 23 D (0, 0) _ (hlD W hE) Tryd.underlying23 rfl HI2.out]
      exact ⟨Below.refl _ _, rfl⟩
    · have t63 : a.tmps.getD 63 undef = .agg D := hd { on := 13, ground := .data } (by simp) rfl
      rw [Array.getD_eq_getD_getElem?] at t63
      have g61 : a.eval (.tmp 61) = .bool true := hd { on := 11, ground := .guard } (by simp) rfl
      refine .inl ⟨(by simp only [Region.wanted]; rw [yielded_of (d := 61) (by rfl) g61]; rfl), ?_⟩
      clear g61
      go_simp
      exact (HX2 W (HTw.out.below hE)).mono fun e w2 h => ⟨_, h.1, h.2, rfl⟩
    · have t62 : a.tmps.getD 62 undef = .string T1 := hd { on := 12, ground := .data } (by simp) rfl
      rw [Array.getD_eq_getD_getElem?] at t62
      have t64 : a.tmps.getD 64 undef = .string T2 := hd { on := 14, ground := .data } (by simp) rfl
      rw [Array.getD_eq_getD_getElem?] at t64
      have g61 : a.eval (.tmp 61) = .bool true := hd { on := 11, ground := .guard } (by simp) rfl
      refine .inl ⟨(by simp only [Region.wanted]; rw [yielded_of (d := 61) (by rfl) g61]; rfl), ?_⟩
      clear g61
      go_simp
      exact ⟨Below.refl _ _, rfl⟩
    · have t2 : a.tmps.getD 2 undef = .pointer (some ⟨w.heap.size, 0, none⟩) := hF.at 2 (by kernel_rfl)
      rw [Array.getD_eq_getD_getElem?] at t2
      have g61 : a.eval (.tmp 61) = .bool true := hd { on := 11, ground := .guard } (by simp) rfl
      refine .inl ⟨(by simp only [Region.wanted]; rw [yielded_of (d := 61) (by rfl) g61]; rfl), ?_⟩
      clear g61
      rw [run_oload _ _ 23 (.tmp 2) rfl (w.heap.size) (by simpa [Act.eval] using t2) 23 A (0, 0) _ (hlA W hE) Tryd.underlying23 rfl HI1.out]
      exact ⟨Below.refl _ _, rfl⟩
    · have t3 : a.tmps.getD 3 undef = .pointer (some ⟨w.heap.size + 1, 0, none⟩) := hF.at 3 (by kernel_rfl)
      rw [Array.getD_eq_getD_getElem?] at t3
      have g61 : a.eval (.tmp 61) = .bool true := hd { on := 11, ground := .guard } (by simp) rfl
      refine .inl ⟨(by simp only [Region.wanted]; rw [yielded_of (d := 61) (by rfl) g61]; rfl), ?_⟩
      clear g61
      rw [run_oload _ _ 23 (.tmp 3) rfl (w.heap.size + 1) (by simpa [Act.eval] using t3) 23 D (0, 0) _ (hlD W hE) Tryd.underlying23 rfl HI2.out]
      exact ⟨Below.refl _ _, rfl⟩
    · have t66 : a.tmps.getD 66 undef = .agg A := hd { on := 16, ground := .data } (by simp) rfl
      rw [Array.getD_eq_getD_getElem?] at t66
      have t67 : a.tmps.getD 67 undef = .agg D := hd { on := 17, ground := .data } (by simp) rfl
      rw [Array.getD_eq_getD_getElem?] at t67
      have g61 : a.eval (.tmp 61) = .bool true := hd { on := 11, ground := .guard } (by simp) rfl
      refine .inl ⟨(by simp only [Region.wanted]; rw [yielded_of (d := 61) (by rfl) g61]; rfl), ?_⟩
      clear g61
      go_simp
      exact ⟨Below.refl _ _, rfl⟩
    · have t65 : a.tmps.getD 65 undef = .bool q := hd { on := 15, ground := .data } (by simp) rfl
      rw [Array.getD_eq_getD_getElem?] at t65
      have t68 : a.tmps.getD 68 undef = .bool q := hd { on := 18, ground := .data } (by simp) rfl
      rw [Array.getD_eq_getD_getElem?] at t68
      have g61 : a.eval (.tmp 61) = .bool true := hd { on := 11, ground := .guard } (by simp) rfl
      refine .inl ⟨(by simp only [Region.wanted]; rw [yielded_of (d := 61) (by rfl) g61]; rfl), ?_⟩
      clear g61
      go_simp
      exact ⟨Below.refl _ _, rfl⟩
    · have t61 : a.tmps.getD 61 undef = .bool true := hd { on := 11, ground := .data } (by simp) rfl
      rw [Array.getD_eq_getD_getElem?] at t61
      have t69 : a.tmps.getD 69 undef = .bool true := hd { on := 19, ground := .data } (by simp) rfl
      rw [Array.getD_eq_getD_getElem?] at t69
      refine .inl ⟨rfl, ?_⟩
      go_simp
      exact ⟨Below.refl _ _, rfl⟩
    · have t70 : a.tmps.getD 70 undef = .bool true := hd { on := 20, ground := .data } (by simp) rfl
      rw [Array.getD_eq_getD_getElem?] at t70
      refine .inl ⟨rfl, ?_⟩
      go_simp
      exact ⟨Below.refl _ _, rfl⟩
    · have g71 : a.eval (.tmp 71) = .bool true := hd { on := 21, ground := .guard } (by simp) rfl
      refine .inl ⟨(by simp only [Region.wanted]; rw [yielded_of (d := 71) (by rfl) g71]; rfl), ?_⟩
      clear g71
      go_simp
      exact (HAw W (HTw.out.below hE)).mono fun e w2 h => ⟨_, h.1, h.2, rfl⟩
    · have t71 : a.tmps.getD 71 undef = .bool true := hd { on := 21, ground := .data } (by simp) rfl
      rw [Array.getD_eq_getD_getElem?] at t71
      have t72 : a.tmps.getD 72 undef = .bool true := hd { on := 22, ground := .data } (by simp) rfl
      rw [Array.getD_eq_getD_getElem?] at t72
      refine .inl ⟨rfl, ?_⟩
      go_simp
      exact ⟨Below.refl _ _, rfl⟩
    · have t73 : a.tmps.getD 73 undef = .bool true := hd { on := 23, ground := .data } (by simp) rfl
      rw [Array.getD_eq_getD_getElem?] at t73
      refine .inl ⟨rfl, ?_⟩
      go_simp
      exact ⟨Below.refl _ _, rfl⟩
  · intro vs W hE hV
    have h4 : vs 24 = .bool true := hV 24 (by decide)
    have HBf : Hid (Below w.heap.size w W) := HBw.out.trans (hE.mono HBw.out.size)
    clear hV hE
    simp only [putsV, dstsV, List.foldl, h4, Act.put, List.setIfInBounds_toArray, List.set_cons_succ, List.set_cons_zero]
    clear h4
    refine ‹∀ (a : Act) (w : World), Code.wp Tryd.prog Code.ret _ a w → _› _ _ ?_
    go_wp2
    go_ret
    exact ⟨rfl, HBf.out⟩

theorem walk_ConfigBack (c : Cfg) (hc : c.zone.size ≤ 9223372036854775807) (d : Cfg) (hd : d.zone.size ≤ 9223372036854775807) (w : World) (ht : Tabs w) :
    Calls Tryd.prog 4 #[.agg c.arr, .agg d.arr] w fun e w' => e = .returned (.bool true) ∧ Below w.heap.size w w' := by
  cases h1 : mayC c with
  | false => exact walk_Back1 c d hc hd h1 w ht
  | true =>
    cases h2 : mayC d with
    | false => exact walk_Back2 c d hc hd h1 h2 w ht
    | true => exact walk_Back3 c d hc hd h1 h2 w ht

theorem reads_ConfigBack (os : Os) {H : Type} (enc : TypeId × Value → H) : ∃ places, DataW.whole enc Tryd.prog ((laidWorld os).forCall (fun _ _ => 0) ⟨#[], #[.agg #[.int .i64 0, .int .i64 0, .int .i64 0, .int .i64 0, .int .i64 0, .int .i64 0, .int .i64 0, .int .i64 0, .int .i64 0, .int .i64 0, .int .i64 0, .int .i64 0, .int .i64 0, .int .i64 0, .int .i64 0, .bool false, .int .i64 0, .int .i64 0, .int .i64 0, .int .i64 0, .int .i64 0, .string ByteArray.empty, .bool false], .agg #[.int .i64 0, .int .i64 0, .int .i64 0, .int .i64 0, .int .i64 0, .int .i64 0, .int .i64 0, .int .i64 0, .int .i64 0, .int .i64 0, .int .i64 0, .int .i64 0, .int .i64 0, .int .i64 0, .int .i64 0, .bool false, .int .i64 0, .int .i64 0, .int .i64 0, .int .i64 0, .int .i64 0, .string ByteArray.empty, .bool false]], []⟩).memory Tryd.f4.params.toList Rows.configBackSpec.vars false (#[.agg #[.int .i64 0, .int .i64 0, .int .i64 0, .int .i64 0, .int .i64 0, .int .i64 0, .int .i64 0, .int .i64 0, .int .i64 0, .int .i64 0, .int .i64 0, .int .i64 0, .int .i64 0, .int .i64 0, .int .i64 0, .bool false, .int .i64 0, .int .i64 0, .int .i64 0, .int .i64 0, .int .i64 0, .string ByteArray.empty, .bool false], .agg #[.int .i64 0, .int .i64 0, .int .i64 0, .int .i64 0, .int .i64 0, .int .i64 0, .int .i64 0, .int .i64 0, .int .i64 0, .int .i64 0, .int .i64 0, .int .i64 0, .int .i64 0, .int .i64 0, .int .i64 0, .bool false, .int .i64 0, .int .i64 0, .int .i64 0, .int .i64 0, .int .i64 0, .string ByteArray.empty, .bool false]] : Array Value).toList 8 = some ([.agg [.lit (.int .i64 0), .lit (.int .i64 0), .lit (.int .i64 0), .lit (.int .i64 0), .lit (.int .i64 0), .lit (.int .i64 0), .lit (.int .i64 0), .lit (.int .i64 0), .lit (.int .i64 0), .lit (.int .i64 0), .lit (.int .i64 0), .lit (.int .i64 0), .lit (.int .i64 0), .lit (.int .i64 0), .lit (.int .i64 0), .lit (.bool false), .lit (.int .i64 0), .lit (.int .i64 0), .lit (.int .i64 0), .lit (.int .i64 0), .lit (.int .i64 0), .lit (.string []), .lit (.bool false)], .agg [.lit (.int .i64 0), .lit (.int .i64 0), .lit (.int .i64 0), .lit (.int .i64 0), .lit (.int .i64 0), .lit (.int .i64 0), .lit (.int .i64 0), .lit (.int .i64 0), .lit (.int .i64 0), .lit (.int .i64 0), .lit (.int .i64 0), .lit (.int .i64 0), .lit (.int .i64 0), .lit (.int .i64 0), .lit (.int .i64 0), .lit (.bool false), .lit (.int .i64 0), .lit (.int .i64 0), .lit (.int .i64 0), .lit (.int .i64 0), .lit (.int .i64 0), .lit (.string []), .lit (.bool false)]], [], places) :=
  ⟨[], by kernel_rfl⟩

set_option maxRecDepth 100000 in
theorem lifted_ConfigBack (os : Os) (started : os.Started) (H : Type) (enc : TypeId × Value → H) (F : Stop.Interp) :
    ReturnsInHanded {} Tryd.checked os 4 .any ((OpenSpec.ofChange Rows.configBackSpec).preRow enc Tryd.prog Tryd.f4 Rows.configBackRow.domain false Rows.configBackRow.laid) (((OpenSpec.ofChange Rows.configBackSpec).at F).post enc Tryd.prog Tryd.f4 false true false false) := by
  obtain ⟨places, hx⟩ := reads_ConfigBack os enc
  refine returnsInHanded_of_row (C := Tryd.checked) (s := OpenSpec.ofChange Rows.configBackSpec) own started (by kernel_rfl) Tryd.func4
    (witness_row_at (enc := enc) (C := Tryd.checked) false (laidWorld os) #[.agg #[.int .i64 0, .int .i64 0, .int .i64 0, .int .i64 0, .int .i64 0, .int .i64 0, .int .i64 0, .int .i64 0, .int .i64 0, .int .i64 0, .int .i64 0, .int .i64 0, .int .i64 0, .int .i64 0, .int .i64 0, .bool false, .int .i64 0, .int .i64 0, .int .i64 0, .int .i64 0, .int .i64 0, .string ByteArray.empty, .bool false], .agg #[.int .i64 0, .int .i64 0, .int .i64 0, .int .i64 0, .int .i64 0, .int .i64 0, .int .i64 0, .int .i64 0, .int .i64 0, .int .i64 0, .int .i64 0, .int .i64 0, .int .i64 0, .int .i64 0, .int .i64 0, .bool false, .int .i64 0, .int .i64 0, .int .i64 0, .int .i64 0, .int .i64 0, .string ByteArray.empty, .bool false]] rfl (by kernel_rfl) (by kernel_rfl) (by kernel_rfl)
      (OpenSpec.preRow_of_cond 8 hx (by kernel_rfl) (fun k hk => by cases hk) (by kernel_rfl) (laid_met os _))) ?_
  intro W base args ds gs before hval0 hW _ _ hsz0 hL _ _
  have htab := table hL
  have hval : ∀ (j : Nat) t v, Tryd.f4.params[j]? = some t → args[j]? = some v → Value.okWide Tryd.prog W .any base t v := hval0
  have hW' := hW
  obtain ⟨p, q, hA0, hV, rfl, hfz, hnd⟩ := hW
  have hA : DataW.TrodAll enc Tryd.prog W 0 (fun _ => true) true Tryd.f4.params.toList args.toList ds p := hA0
  rw [Tryd.params4] at hA hval
  obtain ⟨v0, vs0, d0, ds0, p0, q0, hargs, rfl, rfl, h0, r0⟩ := trodAll_cons hA
  obtain ⟨v1, vs1, d1, ds1, p1, q1, rfl, rfl, rfl, h1, r1⟩ := trodAll_cons r0
  obtain ⟨rfl, rfl, rfl⟩ := trodAll_nil r1
  obtain rfl : args = #[v0, v1] := by cases args; simp_all
  obtain ⟨rfl, rfl⟩ := trodVars_none hV
  have k0 := h0
  have lt0 : ∀ x ∈ p0, x.block < W.heap.size := by obtain ⟨m, hm⟩ := k0; exact DataW.trod_lt m _ _ _ hm
  obtain ⟨z0, rfl, w0⟩ := open_cfg (hval 0 23 v0 rfl rfl) h0
  have k1 := h1
  have lt1 : ∀ x ∈ p1, x.block < W.heap.size := by obtain ⟨m, hm⟩ := k1; exact DataW.trod_lt m _ _ _ hm
  obtain ⟨z1, rfl, w1⟩ := open_cfg (hval 1 23 v1 rfl rfl) h1
  clear hA0 hval0
  refine (walk_ConfigBack z0 w0 z1 w1 W htab).mono fun e W' ⟨he, bel⟩ => ?_
  subst he
  exact ⟨_, rfl, _, _, _, [], _, [], hW', trodAll_mk1 (shut_bool Tryd.underlying4 _), (trodAll_cons_mk (Below.trod laidOut (by kernel_rfl) (of_decide_eq_true (by kernel_rfl)) k0 bel lt0) (trodAll_cons_mk (Below.trod laidOut (by kernel_rfl) (of_decide_eq_true (by kernel_rfl)) k1 bel lt1) trodAll_mk0)), rfl, bel.frame _, fun h => by cases h⟩

theorem said_ConfigBack : Rows.ConfigBackSaid :=
  OpenClaim.holds_of_cond 4 Tryd.f4 rfl rfl rfl rfl rfl rfl rfl ⟨rfl, rfl, rfl, rfl, rfl⟩ rfl rfl rfl rfl rfl (by kernel_rfl) Tryd.func4 (by kernel_rfl)
    (of_decide_eq_true (by kernel_rfl)) (by unfold Func.isWrapper; first | (rw [if_pos (by decide +kernel)]; kernel_rfl) | (rw [if_neg (by decide +kernel)]; exact ⟨rfl, rfl⟩))
    (fun os started H enc _ F => by rw [OpenClaim.pre_eq_preRow]; exact lifted_ConfigBack os started H enc F)

theorem plain_ConfigBack (f : FuncId) (fn : Func) (hf : Tryd.pinned.checked.prog.funcNamed Rows.configBackRow.func = some f) (hfn : Tryd.pinned.checked.prog.funcs[f]? = some fn) :
    false = Tryd.pinned.checked.prog.looks [] ∧ ∀ (j : Nat) t, fn.params[j]? = some t → Tryd.pinned.checked.prog.wantsStandIn t = false := by
  obtain rfl : f = 4 := Option.some.inj ((show Tryd.prog.funcNamed Rows.configBackRow.func = some 4 by kernel_rfl).symm.trans hf) |>.symm
  obtain rfl : fn = Tryd.f4 := (Option.some.inj (Tryd.func4.symm.trans hfn)).symm
  refine ⟨by kernel_rfl, fun j t ht => ?_⟩
  rw [Tryd.params4] at ht
  have hm := Array.mem_of_getElem? ht
  simp only [List.mem_toArray, List.mem_cons, List.not_mem_nil, or_false] at hm
  rcases hm with rfl | rfl
  · exact (show Tryd.prog.wantsStandIn 23 = false by kernel_rfl)
  · exact (show Tryd.prog.wantsStandIn 23 = false by kernel_rfl)

/-- The statement. -/
theorem configBack_holds : Rows.ConfigBackCardSaid :=
  Claim7.holds_tied_plain_at .later [] _ _ _ _ said_ConfigBack (fun _ h => by cases h) (by kernel_rfl) (fun _ h => by cases h) configBack_row_tie rfl ⟨rfl, rfl⟩ (by kernel_rfl) rfl plain_ConfigBack (by kernel_rfl)
#print axioms configBack_holds

end Go.Proofs.YtmhbfcjlbhighaaDoor

/-
  The outings that every program must know: awake.
-/
import Derived.Test.YtomhmndpjkfppaaDoorEject1
import Derived.Test.YtomhmndpjkfppaaDoorRefMay
import Derived.Test.YtomhmndpjkfppaaDoorCfgFrame
import Derived.Test.YtomhmndpjkfppaaDoorRels
import Derived.Deep.CutRange
import Derived.WalkSmall
import Derived.BigQuiet
namespace Go.Proofs.YtomhmndpjkfppaaDoor
open Go.RowKit

theorem run_times (w : World) : (Instr.field 32 (.agg #[.bool false, .int .i64 0, .int .i64 0, .int .i64 1]) 3).run Tryd.prog w = .ok (.int .i64 1) w := by
  simp [Instr.field, run_underlying Tryd.underlying32, part, isAgg, run_underlying Tryd.underlying3, asAgg, go_sem]
theorem og_in {q : Bool} {a b c : Int} (ha : 0 ≤ a ∧ a ≤ 10000) (hb : 0 ≤ b ∧ b ≤ 10000) (hc : 0 ≤ c ∧ c ≤ 10) : inOg ⟨q, a, b, c⟩ := by
  unfold inOg
  simp only
  omega

set_option maxRecDepth 100000 in
set_option maxHeartbeats 4000000 in
theorem awake14_any (w : World) (htab : TabC w) : Calls Tryd.prog 8 #[] w fun e w' => e = .returned (.bool true) ∧ Below w.heap.size w w' := by
  have HT : Hid (TabC w) := htab
  clear htab
  have HDef : Hid (∀ W : World, Calls Tryd.prog 18 #[] W fun e w' => e = .returned (.agg defC.arr) ∧ Below W.heap.size W w') := rDefault_any
  have hO1 : ∀ W : World, TabC W → Calls Tryd.prog 11 #[.agg defC.arr, .agg #[.bool false, .int .i64 0, .int .i64 0, .int .i64 0], .int .i64 5] W fun e w' => e = .returned (.agg #[.bool true, .int .i64 5, .int .i64 3005, .int .i64 1]) ∧ Below W.heap.size W w' := fun W h => by
    have := eOut_any defC noOg 5 W h def_zone (og_in (by omega) (by omega) (by omega)) (by omega)
    rwa [known_self defC_may, show outE defC noOg 5 = ⟨true, 5, 3005, 1⟩ by decide +kernel] at this
  have hO2 : ∀ W : World, TabC W → Calls Tryd.prog 11 #[.agg defC.arr, .agg #[.bool true, .int .i64 5, .int .i64 3005, .int .i64 1], .int .i64 10] W fun e w' => e = .returned (.agg #[.bool true, .int .i64 10, .int .i64 6010, .int .i64 2]) ∧ Below W.heap.size W w' := fun W h => by
    have := eOut_any defC ⟨true, 5, 3005, 1⟩ 10 W h def_zone (og_in (by omega) (by omega) (by omega)) (by omega)
    rwa [known_self defC_may, show outE defC ⟨true, 5, 3005, 1⟩ 10 = ⟨true, 10, 6010, 2⟩ by decide +kernel] at this
  have HB : Hid (∀ W : World, Calls Tryd.prog 13 #[.agg #[.bool true, .int .i64 10, .int .i64 6010, .int .i64 2]] W fun e w' => e = .returned (.agg #[.bool false, .int .i64 0, .int .i64 0, .int .i64 2]) ∧ Below W.heap.size W w') := fun W => eBack_any ⟨true, 10, 6010, 2⟩ W (og_in (by omega) (by omega) (by omega))
  have HF : Hid (∀ W : World, Calls Tryd.prog 12 #[.agg #[.bool false, .int .i64 0, .int .i64 0, .int .i64 2]] W fun e w' => e = .returned (.agg #[.bool false, .int .i64 0, .int .i64 0, .int .i64 1]) ∧ Below W.heap.size W w') := fun W => eFade_any ⟨false, 0, 0, 2⟩ W (og_in (by omega) (by omega) (by omega))
  have HCap : Hid (∀ W : World, TabC W → Calls Tryd.prog 9 #[.agg defC.arr, .int .i64 30] W fun e w' => e = .returned (.int .i64 3) ∧ Below W.heap.size W w') := fun W h => by
    have := eCap_any defC 30 W h def_zone (by omega)
    rwa [known_self defC_may, show capE defC 30 = 3 by decide +kernel] at this
  have HRoom : Hid (∀ W : World, TabC W → Calls Tryd.prog 10 #[.agg defC.arr, .int .i64 3, .int .i64 0] W fun e w' => e = .returned (.int .i64 1) ∧ Below W.heap.size W w') := fun W h => by
    have := eRoom_any defC 3 0 W h def_zone (by omega) (by omega)
    rwa [known_self defC_may, show roomE defC 3 0 = 1 by decide +kernel] at this
  have HE1 : Hid (∀ W : World, (binOp .eql 32 (.agg #[.bool true, .int .i64 10, .int .i64 6010, .int .i64 2]) (.agg #[.bool true, .int .i64 10, .int .i64 6010, .int .i64 2])).run Tryd.prog W = .ok (.bool true) W) := fun W => run_sameO ⟨true, 10, 6010, 2⟩ W
  have HE2 : Hid (∀ W : World, (binOp .eql 32 (.agg #[.bool false, .int .i64 0, .int .i64 0, .int .i64 2]) (.agg #[.bool false, .int .i64 0, .int .i64 0, .int .i64 2])).run Tryd.prog W = .ok (.bool true) W) := fun W => run_sameO ⟨false, 0, 0, 2⟩ W
  have HI : Hid ((Tryd.prog.info? 23).map (·.size) = some defC.arr.size) := arr_inf defC
  have HO : Hid (defC.arr.all (·.oneCell') = true) := arr_one defC
  have HS : Hid ((23 : Nat) = defC.arr.size) := (arr_size defC).symm
  have HO1 : Hid _ := hO1
  have HO2 : Hid _ := hO2
  clear hO1 hO2
  generalize defC.arr = cs at *
  go_enter Tryd.func8, Tryd.ntmps8
  go_wp2_with fail
  refine (HDef.out _).mono ?_
  rintro e w1 ⟨rfl, hb⟩
  have HB1 : Hid (Below w.heap.size w w1) := hb
  clear hb HDef
  go_upto_region 2 with (first | (refine wpList_store_row rfl 23 (.tmp 1) (.tmp 3) rfl w1.heap.size cs rfl rfl 23 _ (heap_alloc_new w1 _) HI.out HS.out HO.out ?_; generalize hW2 : World.setRow _ _ _ = W2) | fail)
  have HC2' : Hid (HasBox W2 w1.heap.size 23 cs) := by show CellsAt _ _ _; rw [← hW2]; exact setRow_heap _ _ _ _ _ _ (heap_alloc_new w1 _)
  have HB2 : Hid (Below w.heap.size w W2) := by show Below _ _ _; rw [← hW2]; exact below_setRow (HB1.out.alloc HB1.out.size _) HB1.out.size _
  have HC2 : ∀ W, Below W2.heap.size W2 W → HasBox W w1.heap.size 23 cs := fun W h => HC2'.out.below h
  have HT2 : Hid (TabC W2) := HT.out.below HB2.out
  have HP1 : ∀ W, Below W2.heap.size W2 W → _ := fun W h => HO1.out W (HT2.out.below h)
  have HP2 : ∀ W, Below W2.heap.size W2 W → _ := fun W h => HO2.out W (HT2.out.below h)
  clear hW2
  refine wp_region_ghost (G := Nat) (fun g => [.agg cs, .agg cs, .agg #[.bool false, .int .i64 0, .int .i64 0, .int .i64 0], .agg #[.bool true, .int .i64 5, .int .i64 3005, .int .i64 1], .agg #[.bool true, .int .i64 10, .int .i64 6010, .int .i64 2], .pointer (some ⟨g, 0, none⟩), undef]) 5 6 (fun g b1 b2 W => Below W2.heap.size W2 W ∧ (b2 = true → b1 = true) ∧ (b1 = true → W2.heap.size ≤ g ∧ HasBox W g 32 (bif b2 then #[.bool true, .int .i64 10, .int .i64 6010, .int .i64 2] else #[.bool false, .int .i64 0, .int .i64 0, .int .i64 0]))) (by intro g g2 k hk; match k, hk with | 0, _ => rfl | 1, _ => rfl | 2, _ => rfl | 3, _ => rfl | 4, _ => rfl | 6, _ => rfl | k + 7, _ => rfl) (fun g g2 b W h => ⟨h.1, h.2.1, fun h => by cases h⟩) (by kernel_rfl) (by kernel_rfl) (by decide) (by decide) (fun g => ⟨(Below.refl _ _).drew, fun h => h, fun h => by cases h⟩) ?_ ?_
  · simp only [stepsG]
    refine ⟨fun a W g b1 b2 hF hd hx1 hx2 hr1 hr2 hS => ?_, fun a W g b1 b2 hF hd hx1 hx2 hr1 hr2 hS => ?_, fun a W g b1 b2 hF hd hx1 hx2 hr1 hr2 hS => ?_, fun a W g b1 b2 hF hd hx1 hx2 hr1 hr2 hS => ?_, fun a W g b1 b2 hF hd hx1 hx2 hr1 hr2 hS => ?_, fun a W g b1 b2 hF hd hx1 hx2 hr1 hr2 hS => ?_, fun a W g b1 b2 hF hd hx1 hx2 hr1 hr2 hS => ?_, trivial⟩
    all_goals unfold StepG
    · have t1 : a.tmps.getD 1 undef = .pointer (some ⟨w1.heap.size, 0, none⟩) := hF.at 1 (by kernel_rfl)
      rw [Array.getD_eq_getD_getElem?] at t1
      refine .inl ⟨rfl, ?_⟩
      rw [run_oload _ _ 23 (.tmp 1) rfl (w1.heap.size) (by simpa [Act.eval] using t1) 23 cs (0, 0) _ (HC2 W hS.1) Tryd.underlying23 rfl HI.out]
      exact ⟨g, fun _ => rfl, rfl, by simpa using hS⟩
    · have t1 : a.tmps.getD 1 undef = .pointer (some ⟨w1.heap.size, 0, none⟩) := hF.at 1 (by kernel_rfl)
      rw [Array.getD_eq_getD_getElem?] at t1
      refine .inl ⟨rfl, ?_⟩
      rw [run_oload _ _ 23 (.tmp 1) rfl (w1.heap.size) (by simpa [Act.eval] using t1) 23 cs (0, 0) _ (HC2 W hS.1) Tryd.underlying23 rfl HI.out]
      exact ⟨g, fun _ => rfl, rfl, by simpa using hS⟩
    · refine .inl ⟨rfl, ?_⟩
      go_simp
      first | exact ⟨rfl, hS⟩ | exact ⟨rfl, by simpa using hS⟩
    · have t5 : a.tmps.getD 5 undef = .agg cs := hd { on := 1, ground := .data } (by simp) rfl
      rw [Array.getD_eq_getD_getElem?] at t5
      have t6 : a.tmps.getD 6 undef = .agg #[.bool false, .int .i64 0, .int .i64 0, .int .i64 0] := hd { on := 2, ground := .data } (by simp) rfl
      rw [Array.getD_eq_getD_getElem?] at t6
      refine .inl ⟨rfl, ?_⟩
      go_simp
      exact (HP1 W hS.1).mono fun e w2 h => ⟨_, h.1, rfl, hS.1.trans (h.2.mono hS.1.size), hS.2.1, fun hb => ⟨(hS.2.2 hb).1, (hS.2.2 hb).2.below h.2⟩⟩
    · have t4 : a.tmps.getD 4 undef = .agg cs := hd { on := 0, ground := .data } (by simp) rfl
      rw [Array.getD_eq_getD_getElem?] at t4
      have t7 : a.tmps.getD 7 undef = .agg #[.bool true, .int .i64 5, .int .i64 3005, .int .i64 1] := hd { on := 3, ground := .data } (by simp) rfl
      rw [Array.getD_eq_getD_getElem?] at t7
      refine .inl ⟨rfl, ?_⟩
      go_simp
      exact (HP2 W hS.1).mono fun e w2 h => ⟨_, h.1, rfl, hS.1.trans (h.2.mono hS.1.size), hS.2.1, fun hb => ⟨(hS.2.2 hb).1, (hS.2.2 hb).2.below h.2⟩⟩
    · refine .inl ⟨rfl, ?_⟩
      go_simp
      have h1 : b1 = false := hx1 (by trivial)
      have h2 : b2 = false := by cases b2; rfl; exact absurd (hS.2.1 rfl) (by rw [h1]; decide)
      subst h1 h2
      exact ⟨W.heap.size, rfl, hS.1.alloc hS.1.size _, hS.1.size, hasBox_new W _ _⟩
    · have t2 : a.tmps.getD 2 undef = .pointer (some ⟨g, 0, none⟩) := hd { on := 5, ground := .data } (by simp) rfl
      rw [Array.getD_eq_getD_getElem?] at t2
      have t8 : a.tmps.getD 8 undef = .agg #[.bool true, .int .i64 10, .int .i64 6010, .int .i64 2] := hd { on := 4, ground := .data } (by simp) rfl
      rw [Array.getD_eq_getD_getElem?] at t8
      refine .inl ⟨rfl, ?_⟩
      have h1 : b1 = true := hr1 (by kernel_rfl)
      have h2 : b2 = false := hx2 (by trivial)
      subst h1 h2
      obtain ⟨hg1, hg2⟩ := hS.2.2 rfl
      rw [run_ostore4 _ _ 32 (.tmp 2) (.tmp 8) rfl g (#[.bool true, .int .i64 10, .int .i64 6010, .int .i64 2]) (by simpa [Act.eval] using t2) (by simpa [Act.eval] using t8) 32 _ hg2 infoOuting rfl (by simp [Value.oneCell'])]
      exact ⟨g, fun _ => rfl, rfl, below_setRow hS.1 hg1 _, fun _ => rfl, fun _ => ⟨hg1, hg2.row⟩⟩
  · intro g W hS
    simp only [putsV, dstsV, List.foldl, List.getD_cons_zero, List.getD_cons_succ, Act.put, List.setIfInBounds_toArray, List.set_cons_succ, List.set_cons_zero]
    refine ‹∀ (a : Act) (w : World), Code.wp Tryd.prog _ _ a w → _› _ _ ?_
    have HB3 : Hid (Below w.heap.size w W) := HB2.out.trans (hS.1.mono HB2.out.size)
    have HC3 : Hid (HasBox W w1.heap.size 23 cs) := HC2 W hS.1
    have HX3 : Hid (HasBox W g 32 (#[.bool true, .int .i64 10, .int .i64 6010, .int .i64 2])) := (hS.2.2 rfl).2
    clear hS HC2 HC2' HB2 HT2 HP1 HP2 HO1 HO2 HB1
    have c0 : W.cell? ⟨g, 0, none⟩ = some (.bool true) := HX3.out.cell 0
    have c1 : W.cell? ⟨g, 1, none⟩ = some (.int .i64 10) := HX3.out.cell 1
    have c2 : W.cell? ⟨g, 2, none⟩ = some (.int .i64 6010) := HX3.out.cell 2
    have c3 : W.cell? ⟨g, 3, none⟩ = some (.int .i64 2) := HX3.out.cell 3
    have he1 := HE1.out
    have he2 := HE2.out
    have hgd := guard_outing
    go_wp2_with fail
    refine (HB.out _).mono ?_
    rintro e w4 ⟨rfl, hb⟩
    have HX4 : Hid (HasBox w4 g 32 _) := HX3.out.below hb
    have HC4 : Hid (HasBox w4 w1.heap.size 23 cs) := HC3.out.below hb
    have HB4 : Hid (Below w.heap.size w w4) := HB3.out.trans (hb.mono HB3.out.size)
    clear hb HX3 HC3 HB3 c0 c1 c2 c3
    have c0 : w4.cell? ⟨g, 0, none⟩ = some (.bool true) := HX4.out.cell 0
    have c1 : w4.cell? ⟨g, 1, none⟩ = some (.int .i64 10) := HX4.out.cell 1
    have c2 : w4.cell? ⟨g, 2, none⟩ = some (.int .i64 6010) := HX4.out.cell 2
    have c3 : w4.cell? ⟨g, 3, none⟩ = some (.int .i64 2) := HX4.out.cell 3
    go_wp2_with fail
    refine (HB.out _).mono ?_
    rintro e w5 ⟨rfl, hb⟩
    have HX5 : Hid (HasBox w5 g 32 _) := HX4.out.below hb
    have HC5 : Hid (HasBox w5 w1.heap.size 23 cs) := HC4.out.below hb
    have HB5 : Hid (Below w.heap.size w w5) := HB4.out.trans (hb.mono HB4.out.size)
    clear hb HX4 HC4 HB4 c0 c1 c2 c3
    have c0 : w5.cell? ⟨g, 0, none⟩ = some (.bool true) := HX5.out.cell 0
    have c1 : w5.cell? ⟨g, 1, none⟩ = some (.int .i64 10) := HX5.out.cell 1
    have c2 : w5.cell? ⟨g, 2, none⟩ = some (.int .i64 6010) := HX5.out.cell 2
    have c3 : w5.cell? ⟨g, 3, none⟩ = some (.int .i64 2) := HX5.out.cell 3
    go_wp2_with fail
    refine (HF.out _).mono ?_
    rintro e w6 ⟨rfl, hb⟩
    have HX6 : Hid (HasBox w6 g 32 _) := HX5.out.below hb
    have HC6 : Hid (HasBox w6 w1.heap.size 23 cs) := HC5.out.below hb
    have HB6 : Hid (Below w.heap.size w w6) := HB5.out.trans (hb.mono HB5.out.size)
    clear hb HX5 HC5 HB5 c0 c1 c2 c3
    have c0 : w6.cell? ⟨g, 0, none⟩ = some (.bool true) := HX6.out.cell 0
    have c1 : w6.cell? ⟨g, 1, none⟩ = some (.int .i64 10) := HX6.out.cell 1
    have c2 : w6.cell? ⟨g, 2, none⟩ = some (.int .i64 6010) := HX6.out.cell 2
    have c3 : w6.cell? ⟨g, 3, none⟩ = some (.int .i64 2) := HX6.out.cell 3
    have hq := run_times w6
    go_wp2_with (first | (refine wpList_load_bx rfl 23 (.tmp 1) rfl w1.heap.size rfl 23 _ _ HC6.out Tryd.underlying23 rfl HI.out ?_) | (refine wpList_load_bx (by first | rfl | (simp [Region.wanted, yielded]; done)) 23 (.tmp 1) rfl w1.heap.size rfl 23 _ _ HC6.out Tryd.underlying23 rfl HI.out ?_) | fail)
    refine (HCap.out _ (HT.out.below HB6.out)).mono ?_
    rintro e w7 ⟨rfl, hb⟩
    have HX7 : Hid (HasBox w7 g 32 _) := HX6.out.below hb
    have HC7 : Hid (HasBox w7 w1.heap.size 23 cs) := HC6.out.below hb
    have HB7 : Hid (Below w.heap.size w w7) := HB6.out.trans (hb.mono HB6.out.size)
    clear hb HX6 HC6 HB6 c0 c1 c2 c3
    have c0 : w7.cell? ⟨g, 0, none⟩ = some (.bool true) := HX7.out.cell 0
    have c1 : w7.cell? ⟨g, 1, none⟩ = some (.int .i64 10) := HX7.out.cell 1
    have c2 : w7.cell? ⟨g, 2, none⟩ = some (.int .i64 6010) := HX7.out.cell 2
    have c3 : w7.cell? ⟨g, 3, none⟩ = some (.int .i64 2) := HX7.out.cell 3
    clear hq
    go_wp2_with (first | (refine wpList_load_bx rfl 23 (.tmp 1) rfl w1.heap.size rfl 23 _ _ HC7.out Tryd.underlying23 rfl HI.out ?_) | (refine wpList_load_bx (by first | rfl | (simp [Region.wanted, yielded]; done)) 23 (.tmp 1) rfl w1.heap.size rfl 23 _ _ HC7.out Tryd.underlying23 rfl HI.out ?_) | fail)
    refine (HRoom.out _ (HT.out.below HB7.out)).mono ?_
    rintro e w8 ⟨rfl, hb⟩
    have HX8 : Hid (HasBox w8 g 32 _) := HX7.out.below hb
    have HC8 : Hid (HasBox w8 w1.heap.size 23 cs) := HC7.out.below hb
    have HB8 : Hid (Below w.heap.size w w8) := HB7.out.trans (hb.mono HB7.out.size)
    clear hb HX7 HC7 HB7 c0 c1 c2 c3
    have c0 : w8.cell? ⟨g, 0, none⟩ = some (.bool true) := HX8.out.cell 0
    have c1 : w8.cell? ⟨g, 1, none⟩ = some (.int .i64 10) := HX8.out.cell 1
    have c2 : w8.cell? ⟨g, 2, none⟩ = some (.int .i64 6010) := HX8.out.cell 2
    have c3 : w8.cell? ⟨g, 3, none⟩ = some (.int .i64 2) := HX8.out.cell 3
    go_wp2
    go_ret
    exact ⟨rfl, HB8.out⟩

end Go.Proofs.YtomhmndpjkfppaaDoor

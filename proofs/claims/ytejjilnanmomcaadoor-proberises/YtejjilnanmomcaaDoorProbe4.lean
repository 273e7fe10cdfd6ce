/-
  The probes that every program must know: awake.
-/
import Derived.Test.YtejjilnanmomcaaDoorProbe3
import Derived.Test.YtejjilnanmomcaaDoorRelGhost
namespace Go.Proofs.YtejjilnanmomcaaDoor
open Go.RowKit

theorem run_ostore4 {P : Program} {w : World} (ρ : Operand → Value) (o : Oper) (ty : TypeId) (x y : Operand) (ho : o.op = .store ty x y) (g : Nat) (cells : Array Value) (hx : ρ x = .pointer (some ⟨g, 0, none⟩)) (hy : ρ y = .agg cells) (t : TypeId) (old : Array Value) (hg : HasBox w g t old)
    (hi : (P.info? ty).map (·.size) = some cells.size) (hold : old.size = cells.size) (h1 : cells.all (·.oneCell') = true) : (execOp ρ o).run P w = .ok .skip (w.setRow g cells) := by
  unfold execOp
  simp only [ho, hx, hy, Instr.storeAt, Instr.sureAddr, Sem.run_bind, Sem.run_pure, Result.andThen_ok, run_storeVar_row w g t ty old cells hg hi hold h1]

theorem wpList_load_bx {P : Program} {ops : Array Oper} {rest : List Oper} {o : Oper} {a : Act} {w : World} {Q : Exit → Act → World → Prop} (hw : Region.wanted o (yielded ops a.tmps) = true) (ty : TypeId) (x : Operand) (ho : o.op = .load ty x)
    (g : Nat) (hx : a.eval x = .pointer (some ⟨g, 0, none⟩)) (t : TypeId) (cs : Array Value) (d : TypeDesc) (hg : HasBox w g t cs)
    (hu : P.underlying ty = some d) (hd : (match d with | .struct _ | .array _ _ => true | _ => false) = true) (hi : (P.info? ty).map (·.size) = some cs.size)
    (h : wpList P ops Q rest (a.put o.dst (.agg cs)) w) : wpList P ops Q (o :: rest) a w :=
  BigFrame.wpList_want hw fun _ hK => wp_load_row ty x ho g hx t cs _ d hg hu hd hi (hK _ _ h)

/-- End, where the configuration may be. -/
theorem pend_may (c : Cfg) (hc : mayC c = true) (p : ProbeT) (ok : Bool) (w : World) (htab : TabC w) (hz : c.zone.size ≤ 9223372036854775807) (hp : inP p) :
    Calls Tryd.prog 9 #[.agg c.arr, pval p, .bool ok] w fun e w' => e = .returned (.tuple #[pval (endP c.f3 c.f4 p ok).1, .int .i64 (endP c.f3 c.f4 p ok).2]) ∧ Below w.heap.size w w' := by
  have := pend_any c p ok w htab hz hp
  rwa [known_self hc] at this
theorem run_field3 (w : World) : (Instr.field 25 (.agg #[.bool false, .int .i64 0, .int .i64 2, .int .i64 7]) 3).run Tryd.prog w = .ok (.int .i64 7) w := by
  simp [Instr.field, run_underlying Tryd.underlying25, part, isAgg, run_underlying Tryd.underlying3, asAgg, go_sem]
theorem def_wait : waitV defC 1 1 = 100 := by
  unfold waitV belowV
  show (100 : Int) + (if (1 : Int) < 1 then 0 else _ % 1) = 100
  rw [if_neg (by omega), Int.emod_one]
  rfl

set_option maxRecDepth 100000 in
set_option maxHeartbeats 4000000 in
theorem awake10_any (w : World) (htab : Tabs w) : Calls Tryd.prog 8 #[] w fun e w' => e = .returned (.bool true) ∧ Below w.heap.size w w' := by
  have HT : Hid (Tabs w) := htab
  clear htab
  have hz : defC.zone.size ≤ 9223372036854775807 := by decide
  have hin : ∀ (u : Bool) (r f : Int), 0 ≤ r ∧ r ≤ 10 → 0 ≤ f ∧ f ≤ 10 → inP ⟨u, r, f, 0⟩ := fun u r f h1 h2 => ⟨⟨by show _ ≤ r; omega, by show r ≤ _; omega⟩, ⟨by show _ ≤ f; omega, by show f ≤ _; omega⟩, ⟨by show (-9223372036854775808 : Int) ≤ 0; omega, by show (0 : Int) ≤ _; omega⟩⟩
  have HDef : Hid (∀ W : World, TabC W → Calls Tryd.prog 17 #[] W fun e w' => e = .returned (.agg defC.arr) ∧ Below W.heap.size W w') := default_any
  have HEn : ∀ (p : ProbeT) (q : ProbeT) (m : Int), inP p → endP 2 3 p false = (q, m) → ∀ W : World, Tabs W → Calls Tryd.prog 9 #[.agg defC.arr, pval p, .bool false] W fun e w' => e = .returned (.tuple #[pval q, .int .i64 m]) ∧ Below W.heap.size W w' := fun p q m hp he W h => by
    have := pend_may defC defC_may p false W h.1 hz hp
    have e1 : defC.f3 = 2 := rfl
    have e2 : defC.f4 = 3 := rfl
    rw [e1, e2, he] at this
    exact this
  have HE1' : Hid (∀ W : World, Tabs W → Calls Tryd.prog 9 #[.agg defC.arr, pval ⟨true, 0, 0, 0⟩, .bool false] W fun e w' => e = .returned (.tuple #[pval ⟨true, 1, 0, 0⟩, .int .i64 0]) ∧ Below W.heap.size W w') := HEn _ _ _ (hin _ _ _ (by omega) (by omega)) (by decide)
  have HE2 : Hid (∀ W : World, Tabs W → Calls Tryd.prog 9 #[.agg defC.arr, pval ⟨true, 1, 0, 0⟩, .bool false] W fun e w' => e = .returned (.tuple #[pval ⟨true, 2, 0, 0⟩, .int .i64 0]) ∧ Below W.heap.size W w') := HEn _ _ _ (hin _ _ _ (by omega) (by omega)) (by decide)
  have HE3 : Hid (∀ W : World, Tabs W → Calls Tryd.prog 9 #[.agg defC.arr, pval ⟨true, 2, 0, 0⟩, .bool false] W fun e w' => e = .returned (.tuple #[pval ⟨false, 0, 0, 0⟩, .int .i64 2]) ∧ Below W.heap.size W w') := HEn _ _ _ (hin _ _ _ (by omega) (by omega)) (by decide)
  have HFo : Hid (∀ W : World, Calls Tryd.prog 12 #[pval ⟨false, 0, 0, 0⟩, .int .i64 2] W fun e w' => e = .returned (.tuple #[pval ⟨false, 0, 2, 0⟩, .int .i64 1]) ∧ Below W.heap.size W w') := pforce_any _ 2
  have HW1 : Hid (∀ W : World, Calls Tryd.prog 10 #[pval ⟨false, 0, 0, 0⟩] W fun e w' => e = .returned (.bool false) ∧ Below W.heap.size W w') := pwell_any _
  have HW2 : Hid (∀ W : World, Calls Tryd.prog 10 #[pval ⟨false, 0, 2, 0⟩] W fun e w' => e = .returned (.bool true) ∧ Below W.heap.size W w') := pwell_any _
  have HBg : Hid (∀ W : World, Calls Tryd.prog 18 #[pval ⟨false, 0, 2, 0⟩, .int .i64 7] W fun e w' => e = .returned (.agg #[.bool false, .int .i64 0, .int .i64 2, .int .i64 7]) ∧ Below W.heap.size W w') := pbegin_any _ 7
  have HWt : Hid (∀ W : World, Tabs W → Calls Tryd.prog 13 #[.agg defC.arr, .int .i64 1, .int .i64 1] W fun e w' => e = .returned (.int .i64 100) ∧ Below W.heap.size W w') := fun W h => by
    have := pwait_any defC 1 1 W h hz ⟨by omega, by omega⟩ ⟨by omega, by omega⟩
    rwa [known_self defC_may, def_wait] at this
  have HNew := pnew_any
  have HI : Hid ((Tryd.prog.info? 23).map (·.size) = some defC.arr.size) := arr_inf defC
  have HO : Hid (defC.arr.all (·.oneCell') = true) := arr_one defC
  have HS : Hid ((23 : Nat) = defC.arr.size) := (arr_size defC).symm
  clear HEn hin hz
  generalize defC.arr = cs at HDef HE1' HE2 HE3 HWt HI HO HS
  go_enter Tryd.func8, Tryd.ntmps8
  go_wp2_with fail
  refine (HDef.out _ HT.out.1).mono ?_
  rintro e w1 ⟨rfl, hb⟩
  have HB1 : Hid (Below w.heap.size w w1) := hb
  clear hb HDef
  go_upto_region 2 with (first | (refine wpList_store_row rfl 23 (.tmp 1) (.tmp 8) rfl w1.heap.size cs rfl rfl 23 _ (heap_alloc_new w1 _) HI.out HS.out HO.out ?_; generalize hW2 : World.setRow _ _ _ = W2) | fail)
  have HC2' : Hid (CellsAt W2 w1.heap.size cs) := by show CellsAt _ _ _; rw [← hW2]; exact setRow_heap _ _ _ _ _ _ (heap_alloc_new w1 _)
  have HB2 : Hid (Below w.heap.size w W2) := by show Below _ _ _; rw [← hW2]; exact below_setRow (HB1.out.alloc HB1.out.size _) HB1.out.size _
  have HC2 : ∀ W, Below W2.heap.size W2 W → CellsAt W w1.heap.size cs := fun W h => HC2'.out.below h
  have HT2 : Hid (Tabs W2) := HT.out.below HB2.out
  have HE1 : ∀ W, Below W2.heap.size W2 W → Calls Tryd.prog 9 #[.agg cs, pval ⟨true, 0, 0, 0⟩, .bool false] W fun e w' => e = .returned (.tuple #[pval ⟨true, 1, 0, 0⟩, .int .i64 0]) ∧ Below W.heap.size W w' := fun W h => HE1'.out W (HT2.out.below h)
  clear hW2
  refine wp_region_ghost (G := Nat) (fun g => [.agg cs, pval ⟨true, 0, 0, 0⟩, .tuple #[pval ⟨true, 1, 0, 0⟩, .int .i64 0], .tuple #[pval ⟨true, 1, 0, 0⟩, .int .i64 0], pval ⟨true, 1, 0, 0⟩, .int .i64 0, .pointer (some ⟨g, 0, none⟩), undef, .int .i64 0]) 6 7 (fun g b1 b2 W => Below W2.heap.size W2 W ∧ (b2 = true → b1 = true) ∧ (b1 = true → W2.heap.size ≤ g ∧ HasBox W g 25 (bif b2 then pcells ⟨true, 1, 0, 0⟩ else #[.bool false, .int .i64 0, .int .i64 0, .int .i64 0]))) (by intro g g2 k hk; match k, hk with | 0, _ => rfl | 1, _ => rfl | 2, _ => rfl | 3, _ => rfl | 4, _ => rfl | 5, _ => rfl | 7, _ => rfl | 8, _ => rfl | k + 9, _ => rfl) (fun g g2 b W h => ⟨h.1, h.2.1, fun h => by cases h⟩) (by kernel_rfl) (by kernel_rfl) (by decide) (by decide) (fun g => ⟨(Below.refl _ _).drew, fun h => h, fun h => by cases h⟩) ?_ ?_
  · simp only [stepsG]
    refine ⟨fun a W g b1 b2 hF hd hx1 hx2 hr1 hr2 hS => ?_, fun a W g b1 b2 hF hd hx1 hx2 hr1 hr2 hS => ?_, fun a W g b1 b2 hF hd hx1 hx2 hr1 hr2 hS => ?_, fun a W g b1 b2 hF hd hx1 hx2 hr1 hr2 hS => ?_, fun a W g b1 b2 hF hd hx1 hx2 hr1 hr2 hS => ?_, fun a W g b1 b2 hF hd hx1 hx2 hr1 hr2 hS => ?_, fun a W g b1 b2 hF hd hx1 hx2 hr1 hr2 hS => ?_, fun a W g b1 b2 hF hd hx1 hx2 hr1 hr2 hS => ?_, fun a W g b1 b2 hF hd hx1 hx2 hr1 hr2 hS => ?_, trivial⟩
    all_goals unfold StepG
    · have t1 : a.tmps.getD 1 undef = .pointer (some ⟨w1.heap.size, 0, none⟩) := hF.at 1 (by kernel_rfl)
      rw [Array.getD_eq_getD_getElem?] at t1
      refine .inl ⟨rfl, ?_⟩
      rw [run_oload _ _ 23 (.tmp 1) rfl (w1.heap.size) (by simpa [Act.eval] using t1) 23 cs (0, 0) _ (HC2 W hS.1) Tryd.underlying23 rfl HI.out]
      exact ⟨g, fun _ => rfl, rfl, by simpa using hS⟩
    · refine .inl ⟨rfl, ?_⟩
      go_simp
      exact (HNew W).mono fun e w2 h => ⟨_, h.1, rfl, hS.1.trans (h.2.mono hS.1.size), hS.2.1, fun hb => ⟨(hS.2.2 hb).1, (hS.2.2 hb).2.below h.2⟩⟩
    · have t10 : a.tmps.getD 10 undef = .agg cs := hd { on := 0, ground := .data } (by simp) rfl
      rw [Array.getD_eq_getD_getElem?] at t10
      have t11 : a.tmps.getD 11 undef = pval ⟨true, 0, 0, 0⟩ := hd { on := 1, ground := .data } (by simp) rfl
      rw [Array.getD_eq_getD_getElem?] at t11
      refine .inl ⟨rfl, ?_⟩
      go_simp
      exact (HE1 W hS.1).mono fun e w2 h => ⟨_, h.1, rfl, hS.1.trans (h.2.mono hS.1.size), hS.2.1, fun hb => ⟨(hS.2.2 hb).1, (hS.2.2 hb).2.below h.2⟩⟩
    · have t12 : a.tmps.getD 12 undef = .tuple #[pval ⟨true, 1, 0, 0⟩, .int .i64 0] := hd { on := 2, ground := .data } (by simp) rfl
      rw [Array.getD_eq_getD_getElem?] at t12
      refine .inl ⟨rfl, ?_⟩
      go_simp
      first | exact ⟨rfl, hS⟩ | exact ⟨rfl, by simpa using hS⟩
    · have t9 : a.tmps.getD 9 undef = .tuple #[pval ⟨true, 1, 0, 0⟩, .int .i64 0] := hd { on := 3, ground := .data } (by simp) rfl
      rw [Array.getD_eq_getD_getElem?] at t9
      refine .inl ⟨rfl, ?_⟩
      go_simp
      first | exact ⟨rfl, hS⟩ | exact ⟨rfl, by simpa using hS⟩
    · have t9 : a.tmps.getD 9 undef = .tuple #[pval ⟨true, 1, 0, 0⟩, .int .i64 0] := hd { on := 3, ground := .data } (by simp) rfl
      rw [Array.getD_eq_getD_getElem?] at t9
      refine .inl ⟨rfl, ?_⟩
      go_simp
      first | exact ⟨rfl, hS⟩ | exact ⟨rfl, by simpa using hS⟩
    · refine .inl ⟨rfl, ?_⟩
      go_simp
      have h1 : b1 = false := hx1 (by trivial)
      have h2 : b2 = false := by cases b2; rfl; exact absurd (hS.2.1 rfl) (by rw [h1]; decide)
      subst h1 h2
      exact ⟨W.heap.size, rfl, hS.1.alloc hS.1.size _, hS.1.size, hasBox_new W _ _⟩
    · have t2 : a.tmps.getD 2 undef = .pointer (some ⟨g, 0, none⟩) := hd { on := 6, ground := .data } (by simp) rfl
      rw [Array.getD_eq_getD_getElem?] at t2
      have t13 : a.tmps.getD 13 undef = pval ⟨true, 1, 0, 0⟩ := hd { on := 4, ground := .data } (by simp) rfl
      rw [Array.getD_eq_getD_getElem?] at t13
      refine .inl ⟨rfl, ?_⟩
      have h1 : b1 = true := hr1 (by kernel_rfl)
      have h2 : b2 = false := hx2 (by trivial)
      subst h1 h2
      obtain ⟨hg1, hg2⟩ := hS.2.2 rfl
      rw [run_ostore4 _ _ 25 (.tmp 2) (.tmp 13) rfl g (pcells ⟨true, 1, 0, 0⟩) (by simpa [Act.eval] using t2) (by simpa [Act.eval] using t13) 25 _ hg2 infoProbing rfl (pcells_one _)]
      exact ⟨g, fun _ => rfl, rfl, below_setRow hS.1 hg1 _, fun _ => rfl, fun _ => ⟨hg1, hg2.row⟩⟩
    · have t14 : a.tmps.getD 14 undef = .int .i64 0 := hd { on := 5, ground := .data } (by simp) rfl
      rw [Array.getD_eq_getD_getElem?] at t14
      refine .inl ⟨rfl, ?_⟩
      go_simp
      first | exact ⟨rfl, hS⟩ | exact ⟨rfl, by simpa using hS⟩
  · intro g W hS
    simp only [putsV, dstsV, List.foldl, List.getD_cons_zero, List.getD_cons_succ, Act.put, List.setIfInBounds_toArray, List.set_cons_succ, List.set_cons_zero]
    refine ‹∀ (a : Act) (w : World), Code.wp Tryd.prog _ _ a w → _› _ _ ?_
    have HB3 : Hid (Below w.heap.size w W) := HB2.out.trans (hS.1.mono HB2.out.size)
    have HC3 : Hid (CellsAt W w1.heap.size cs) := HC2 W hS.1
    have HX3 : Hid (HasBox W g 25 (pcells ⟨true, 1, 0, 0⟩)) := (hS.2.2 rfl).2
    have HNe : Hid (w1.heap.size ≠ g) := by show _ ≠ _; have h1 := HC2'.out.lt; have h2 := (hS.2.2 rfl).1; omega
    have HG : Hid (w.heap.size ≤ g) := by show _ ≤ _; have h1 := HB2.out.size; have h2 := (hS.2.2 rfl).1; omega
    clear hS HC2 HC2' HB2 HT2 HE1 HE1' HNew HB1
    go_wp2_with (first | (refine wpList_load_bx rfl 23 (.tmp 1) rfl w1.heap.size rfl 23 _ _ HC3.out Tryd.underlying23 rfl HI.out ?_) | (refine wpList_load_bx rfl 25 (.tmp 2) rfl g rfl 25 _ _ HX3.out Tryd.underlying25 rfl infoProbing ?_) | fail)
    refine (HE2.out _ (HT.out.below HB3.out)).mono ?_
    rintro e w4 ⟨rfl, hb⟩
    have HX4 : Hid (HasBox w4 g 25 _) := HX3.out.below hb
    have HC4 : Hid (CellsAt w4 w1.heap.size cs) := HC3.out.below hb
    have HB4 : Hid (Below w.heap.size w w4) := HB3.out.trans (hb.mono HB3.out.size)
    clear hb HX3 HC3 HB3
    go_wp2_with (first | (refine wpList_store_row rfl 25 (.tmp 2) (.tmp 19) rfl g (pcells ⟨true, 2, 0, 0⟩) rfl rfl 25 _ HX4.out infoProbing rfl (pcells_one _) ?_; generalize hW : World.setRow _ _ _ = W5; have HX5 : Hid (HasBox W5 g 25 (pcells ⟨true, 2, 0, 0⟩)) := (by show HasBox _ _ _ _; rw [← hW]; exact HX4.out.row); have HC5 : Hid (CellsAt W5 w1.heap.size cs) := (by show CellsAt _ _ _; rw [← hW]; exact HasBox.rowOther HC4.out HNe.out); have HB5 : Hid (Below w.heap.size w W5) := (by show Below _ _ _; rw [← hW]; exact below_setRow HB4.out HG.out _); clear hW) | (refine wpList_load_bx rfl 23 (.tmp 1) rfl w1.heap.size rfl 23 _ _ HC5.out Tryd.underlying23 rfl HI.out ?_) | (refine wpList_load_bx rfl 25 (.tmp 2) rfl g rfl 25 _ _ HX5.out Tryd.underlying25 rfl infoProbing ?_) | fail)
    refine (HE3.out _ (HT.out.below HB5.out)).mono ?_
    rintro e w6 ⟨rfl, hb⟩
    have HX6 : Hid (HasBox w6 g 25 _) := HX5.out.below hb
    have HC6 : Hid (CellsAt w6 w1.heap.size cs) := HC5.out.below hb
    have HB6 : Hid (Below w.heap.size w w6) := HB5.out.trans (hb.mono HB5.out.size)
    clear hb HX5 HC5 HB5
    go_wp2_with (first | (refine wpList_store_row rfl 25 (.tmp 2) (.tmp 25) rfl g (pcells ⟨false, 0, 0, 0⟩) rfl rfl 25 _ HX6.out infoProbing rfl (pcells_one _) ?_; generalize hW : World.setRow _ _ _ = W7; have HX7 : Hid (HasBox W7 g 25 (pcells ⟨false, 0, 0, 0⟩)) := (by show HasBox _ _ _ _; rw [← hW]; exact HX6.out.row); have HC7 : Hid (CellsAt W7 w1.heap.size cs) := (by show CellsAt _ _ _; rw [← hW]; exact HasBox.rowOther HC6.out HNe.out); have HB7 : Hid (Below w.heap.size w W7) := (by show Below _ _ _; rw [← hW]; exact below_setRow HB6.out HG.out _); clear hW) | (refine wpList_load_bx rfl 23 (.tmp 1) rfl w1.heap.size rfl 23 _ _ HC7.out Tryd.underlying23 rfl HI.out ?_) | (refine wpList_load_bx rfl 25 (.tmp 2) rfl g rfl 25 _ _ HX7.out Tryd.underlying25 rfl infoProbing ?_) | fail)
    refine (HFo.out _).mono ?_
    rintro e w8 ⟨rfl, hb⟩
    have HX8 : Hid (HasBox w8 g 25 _) := HX7.out.below hb
    have HC8 : Hid (CellsAt w8 w1.heap.size cs) := HC7.out.below hb
    have HB8 : Hid (Below w.heap.size w w8) := HB7.out.trans (hb.mono HB7.out.size)
    clear hb HX7 HC7 HB7
    go_wp2_with (first | (refine wpList_store_row rfl 25 (.tmp 6) (.tmp 30) rfl w8.heap.size (pcells ⟨false, 0, 2, 0⟩) rfl rfl 25 _ (heap_alloc_new w8 _) infoProbing rfl (pcells_one _) ?_; generalize hW : World.setRow _ _ _ = W9; have HX9 : Hid (HasBox W9 g 25 _) := (by show HasBox _ _ _ _; rw [← hW]; exact (HX8.out.alloc _).rowOther (by have := HX8.out.lt; omega)); have HY9 : Hid (HasBox W9 w8.heap.size 25 (pcells ⟨false, 0, 2, 0⟩)) := (by show HasBox _ _ _ _; rw [← hW]; exact (hasBox_new w8 _ _).row); have HC9 : Hid (CellsAt W9 w1.heap.size cs) := (by show CellsAt _ _ _; rw [← hW]; exact HasBox.rowOther (HasBox.alloc HC8.out _) (by have := HC8.out.lt; omega)); have HB9 : Hid (Below w.heap.size w W9) := (by show Below _ _ _; rw [← hW]; exact below_setRow (HB8.out.alloc HB8.out.size _) HB8.out.size _); clear hW) | (refine wpList_load_bx rfl 25 (.tmp 2) rfl g rfl 25 _ _ HX9.out Tryd.underlying25 rfl infoProbing ?_) | fail)
    refine (HW1.out _).mono ?_
    rintro e w10 ⟨rfl, hb⟩
    have HX10 : Hid (HasBox w10 g 25 _) := HX9.out.below hb
    have HC10 : Hid (CellsAt w10 w1.heap.size cs) := HC9.out.below hb
    have HB10 : Hid (Below w.heap.size w w10) := HB9.out.trans (hb.mono HB9.out.size)
    have HY10 : Hid (HasBox w10 w8.heap.size 25 _) := HY9.out.below hb
    clear hb HX9 HC9 HB9
    go_wp2_with (first | (refine wpList_load_bx rfl 25 (.tmp 6) rfl w8.heap.size rfl 25 _ _ HY10.out Tryd.underlying25 rfl infoProbing ?_) | fail)
    refine (HW2.out _).mono ?_
    rintro e w11 ⟨rfl, hb⟩
    have HX11 : Hid (HasBox w11 g 25 _) := HX10.out.below hb
    have HC11 : Hid (CellsAt w11 w1.heap.size cs) := HC10.out.below hb
    have HB11 : Hid (Below w.heap.size w w11) := HB10.out.trans (hb.mono HB10.out.size)
    have HY11 : Hid (HasBox w11 w8.heap.size 25 _) := HY10.out.below hb
    clear hb HX10 HC10 HB10
    go_wp2_with (first | (refine wpList_load_bx rfl 25 (.tmp 6) rfl w8.heap.size rfl 25 _ _ HY11.out Tryd.underlying25 rfl infoProbing ?_) | fail)
    refine (HBg.out _).mono ?_
    rintro e w12 ⟨rfl, hb⟩
    have HX12 : Hid (HasBox w12 g 25 _) := HX11.out.below hb
    have HC12 : Hid (CellsAt w12 w1.heap.size cs) := HC11.out.below hb
    have HB12 : Hid (Below w.heap.size w w12) := HB11.out.trans (hb.mono HB11.out.size)
    clear hb HX11 HC11 HB11
    have hq := run_field3 w12
    go_wp2_with (first | (refine wpList_load_bx rfl 23 (.tmp 1) rfl w1.heap.size rfl 23 _ _ HC12.out Tryd.underlying23 rfl HI.out ?_) | fail)
    refine (HWt.out _ (HT.out.below HB12.out)).mono ?_
    rintro e w13 ⟨rfl, hb⟩
    have HX13 : Hid (HasBox w13 g 25 _) := HX12.out.below hb
    have HC13 : Hid (CellsAt w13 w1.heap.size cs) := HC12.out.below hb
    have HB13 : Hid (Below w.heap.size w w13) := HB12.out.trans (hb.mono HB12.out.size)
    clear hb HX12 HC12 HB12
    go_wp2
    go_ret
    exact ⟨rfl, HB13.out⟩

end Go.Proofs.YtejjilnanmomcaaDoor

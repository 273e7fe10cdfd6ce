/-
  Contracts of package probe: New, Well, Begin, oneMore, move, Force.
-/
import Derived.Test.YtejjilnanmomcaaDoorProbeMath
import Derived.Test.YtejjilnanmomcaaDoorBoxKit
import Derived.Test.YtejjilnanmomcaaDoorConf5
import Derived.Test.YtejjilnanmomcaaDoorRel4
import Derived.Test.YtejjilnanmomcaaDoorRel6
import Derived.Deep.CutRange
import Derived.Laws.ResultCell
namespace Go.Proofs.YtejjilnanmomcaaDoor
open Go.RowKit

theorem infoProbing : (Tryd.prog.info? 25).map (·.size) = some 4 := by kernel_rfl
theorem results_ct_row {P : Program} {fn : Func} {p u : Tmp} {ty : TypeId} (h : fn.results = #[.cell p ty, .tmp u]) (tmps : Array Value) (w : World) (g : Nat) (t : TypeId) (cs : Array Value) (fr : Nat × Nat) (d : TypeDesc)
    (hp : tmps.getD p undef = .pointer (some ⟨g, 0, none⟩)) (hg : w.heap[g]? = some (.cells cs t fr)) (hu : P.underlying ty = some d) (hd : (match d with | .struct _ | .array _ _ => true | _ => false) = true) (hi : (P.info? ty).map (·.size) = some cs.size) :
    (results fn tmps).run P w = .ok (.tuple #[.agg cs, tmps.getD u undef]) w := by
  rw [results_cell_tmp h, hp]
  simp only [asAddr, Sem.run_pure, Result.andThen_ok, run_loadVar_row w g t ty cs fr d hg hu hd hi]

theorem pnew_any (w : World) : Calls Tryd.prog 11 #[] w fun e w' => e = .returned (pval ⟨true, 0, 0, 0⟩) ∧ Below w.heap.size w w' := by
  go_enter Tryd.func11, Tryd.ntmps11
  go_wp2
  refine bodyPost_ret (results_cell_row rfl _ _ w.heap.size 25 _ _ _ rfl (heap_alloc_new w _) Tryd.underlying25 rfl infoProbing) rfl ?_
  exact ⟨rfl, (Below.refl _ _).alloc (Nat.le_refl _) _⟩

theorem pwell_any (p : ProbeT) (w : World) : Calls Tryd.prog 10 #[pval p] w fun e w' => e = .returned (.bool (wellP p)) ∧ Below w.heap.size w w' := by
  obtain ⟨u, r, f, i⟩ := p
  have HB : Hid (∀ o, Below w.heap.size w (w.alloc o)) := fun o => (Below.refl _ _).alloc (Nat.le_refl _) _
  unfold pval pcells wellP
  simp only
  by_cases h1 : f = 2
  · subst h1
    rw [show ((2 : Int) == 2 || ((2 : Int) == 0 && u)) = true from rfl]
    go_enter Tryd.func10, Tryd.ntmps10
    go_wp2
    go_ret
    exact ⟨rfl, HB.out _⟩
  · have e1 : (f == 2) = false := beq_eq_false_iff_ne.2 h1
    by_cases h2 : f = 0
    · subst h2
      rw [show ((0 : Int) == 2 || ((0 : Int) == 0 && u)) = u from rfl]
      clear h1 e1
      go_enter Tryd.func10, Tryd.ntmps10
      go_wp2
      go_ret
      exact ⟨rfl, HB.out _⟩
    · have e2 : (f == 0) = false := beq_eq_false_iff_ne.2 h2
      rw [e1, e2, Bool.false_and, Bool.false_or]
      go_enter Tryd.func10, Tryd.ntmps10
      go_wp2
      go_ret
      exact ⟨rfl, HB.out _⟩

theorem pbegin_any (p : ProbeT) (n : Int) (w : World) : Calls Tryd.prog 18 #[pval p, .int .i64 n] w fun e w' => e = .returned (pval { p with wait := n }) ∧ Below w.heap.size w w' := by
  obtain ⟨u, r, f, i⟩ := p
  unfold pval pcells
  simp only
  go_enter Tryd.func18, Tryd.ntmps18
  go_wp2
  refine bodyPost_ret (results_cell_row rfl _ _ (w.heap.size + 1) 25 _ _ _ rfl (heap_alloc2_new w _ _) Tryd.underlying25 rfl infoProbing) rfl ?_
  exact ⟨rfl, ((Below.refl _ _).alloc (Nat.le_refl _) _).alloc (by simp) _⟩

theorem pmore_any (r : Int) (hr : r ≤ 9223372036854775807) (w : World) : Calls Tryd.prog 19 #[.int .i64 r] w fun e w' => e = .returned (.int .i64 (nextRun r)) ∧ w' = w := by
  unfold nextRun topP
  by_cases h1 : r < 0
  · rw [if_pos h1]
    have e1 : ¬ (0 : Int) < r := by omega
    have e2 : ¬ (r : Int) > 0 := by omega
    go_enter Tryd.func19, Tryd.ntmps19
    go_wp2
    go_ret
    exact ⟨rfl, rfl⟩
  · rw [if_neg h1]
    by_cases h2 : 4611686018427387904 ≤ r
    · rw [if_pos h2]
      go_enter Tryd.func19, Tryd.ntmps19
      go_wp2
      go_ret
      exact ⟨rfl, rfl⟩
    · rw [if_neg h2]
      go_enter Tryd.func19, Tryd.ntmps19
      go_wp2
      go_ret
      exact ⟨rfl, rfl⟩

theorem pmove_any (p q : ProbeT) (w : World) : Calls Tryd.prog 21 #[pval p, pval q] w fun e w' => e = .returned (.int .i64 (moveP p q)) ∧ Below w.heap.size w w' := by
  have HA' : Hid (∀ W : World, Calls Tryd.prog 10 #[pval p] W fun e w' => e = .returned (.bool (wellP p)) ∧ Below W.heap.size W w') := pwell_any p
  have HBq' : Hid (∀ W : World, Calls Tryd.prog 10 #[pval q] W fun e w' => e = .returned (.bool (wellP q)) ∧ Below W.heap.size W w') := pwell_any q
  have HM : Hid (moveP p q = if wellP p = wellP q then 0 else if wellP q then 1 else 2) := rfl
  generalize moveP p q = M at HM ⊢
  generalize wellP p = x1 at HM HA'
  generalize wellP q = x2 at HM HBq'
  obtain ⟨cp, hcp, sp⟩ : ∃ c, pval p = .agg c ∧ c.size = 4 := ⟨_, rfl, rfl⟩
  obtain ⟨cq, hcq, sq⟩ : ∃ c, pval q = .agg c ∧ c.size = 4 := ⟨_, rfl, rfl⟩
  rw [hcp] at HA' ⊢
  rw [hcq] at HBq' ⊢
  have HIp : Hid ((Tryd.prog.info? 25).map (·.size) = some cp.size) := by show _ = _; rw [sp]; kernel_rfl
  have HIq : Hid ((Tryd.prog.info? 25).map (·.size) = some cq.size) := by show _ = _; rw [sq]; kernel_rfl
  clear hcp hcq sp sq
  go_enter Tryd.func21, Tryd.ntmps21
  go_upto_region 1 with fail
  obtain ⟨W0, hW0⟩ : ∃ W0, W0 = (w.alloc (.cells cp 25 (0, 0))).alloc (.cells cq 25 (0, 0)) := ⟨_, rfl⟩
  rw [← hW0]
  have HP : ∀ W, Below W0.heap.size W0 W → HasBox W w.heap.size 25 cp := fun W h => HasBox.below (by rw [hW0]; exact (hasBox_new w _ _).alloc _) h
  have HQ : ∀ W, Below W0.heap.size W0 W → HasBox W (w.heap.size + 1) 25 cq := fun W h => HasBox.below (by rw [hW0]; exact hasBox_new' _ _ _ _ (by simp)) h
  have HB0 : Hid (Below w.heap.size w W0) := by show Below _ _ _; rw [hW0]; exact ((Below.refl _ _).alloc (Nat.le_refl _) _).alloc (by simp) _
  have HA := HA'.out
  have HBq := HBq'.out
  clear hW0
  refine wp_region_mp ([eqP (.agg cp), eqP (.bool x1), eqP (.agg cq), eqP (.bool x2), eqP (.bool (x1 == x2)), eqP (.bool (x1 == x2))]) (by kernel_rfl) (by kernel_rfl) ?_ ?_
  · simp only [stepsAll3]
    refine ⟨fun a W hF hE hd => ?_, fun a W hF hE hd => ?_, fun a W hF hE hd => ?_, fun a W hF hE hd => ?_, fun a W hF hE hd => ?_, fun a W hF hE hd => ?_, trivial⟩
    all_goals unfold StepAt
    · have t2 : a.tmps.getD 2 undef = .pointer (some ⟨w.heap.size, 0, none⟩) := hF.at 2 (by kernel_rfl)
      rw [Array.getD_eq_getD_getElem?] at t2
      refine .inl ⟨rfl, ?_⟩
      rw [run_oload _ _ 25 (.tmp 2) rfl (w.heap.size) (by simpa [Act.eval] using t2) 25 (cp) (0, 0) _ (HP W hE) Tryd.underlying25 rfl HIp.out]
      exact ⟨Below.refl _ _, rfl⟩
    · have t6 : a.tmps.getD 6 undef = .agg cp := hd { on := 0, ground := .data } (by simp) rfl
      rw [Array.getD_eq_getD_getElem?] at t6
      refine .inl ⟨rfl, ?_⟩
      go_simp
      exact (HA W).mono fun e w2 h => ⟨_, h.1, h.2, rfl⟩
    · have t3 : a.tmps.getD 3 undef = .pointer (some ⟨w.heap.size + 1, 0, none⟩) := hF.at 3 (by kernel_rfl)
      rw [Array.getD_eq_getD_getElem?] at t3
      refine .inl ⟨rfl, ?_⟩
      rw [run_oload _ _ 25 (.tmp 3) rfl (w.heap.size + 1) (by simpa [Act.eval] using t3) 25 (cq) (0, 0) _ (HQ W hE) Tryd.underlying25 rfl HIq.out]
      exact ⟨Below.refl _ _, rfl⟩
    · have t8 : a.tmps.getD 8 undef = .agg cq := hd { on := 2, ground := .data } (by simp) rfl
      rw [Array.getD_eq_getD_getElem?] at t8
      refine .inl ⟨rfl, ?_⟩
      go_simp
      exact (HBq W).mono fun e w2 h => ⟨_, h.1, h.2, rfl⟩
    · have t7 : a.tmps.getD 7 undef = .bool x1 := hd { on := 1, ground := .data } (by simp) rfl
      rw [Array.getD_eq_getD_getElem?] at t7
      have t9 : a.tmps.getD 9 undef = .bool x2 := hd { on := 3, ground := .data } (by simp) rfl
      rw [Array.getD_eq_getD_getElem?] at t9
      refine .inl ⟨rfl, ?_⟩
      go_simp
      exact ⟨Below.refl _ _, rfl⟩
    · have t10 : a.tmps.getD 10 undef = .bool (x1 == x2) := hd { on := 4, ground := .data } (by simp) rfl
      rw [Array.getD_eq_getD_getElem?] at t10
      refine .inl ⟨rfl, ?_⟩
      go_simp
      exact ⟨Below.refl _ _, rfl⟩
  · intro vs W hE hV
    have h5 : vs 5 = .bool (x1 == x2) := hV 5 (by decide)
    have HWW : Hid (Below W0.heap.size W0 W) := hE
    have HBf : Hid (Below w.heap.size w W) := HB0.out.trans (hE.mono HB0.out.size)
    clear hV hE
    simp only [putsV, dstsV, List.foldl, h5, Act.put, List.setIfInBounds_toArray, List.set_cons_succ, List.set_cons_zero]
    clear h5
    generalize vs 0 = y0
    generalize vs 1 = y1
    generalize vs 2 = y2
    generalize vs 3 = y3
    generalize vs 4 = y4
    refine ‹∀ (a : Act) (w : World), Code.wp Tryd.prog (Code.cond _ _ _) _ a w → _› _ _ ?_
    cases x1 <;> cases x2
    case true.true =>
      have e : M = 0 := HM.out
      clear HM
      subst e
      go_wp2
      go_ret
      exact ⟨rfl, HBf.out⟩
    case false.false =>
      have e : M = 0 := HM.out
      clear HM
      subst e
      go_wp2
      go_ret
      exact ⟨rfl, HBf.out⟩
    case true.false =>
      have e : M = 2 := HM.out
      clear HM
      subst e
      have HQf : Hid (HasBox W (w.heap.size + 1) 25 cq) := HQ W HWW.out
      go_wp2_with (first | (refine wpList_load_row rfl 25 (.tmp 3) rfl (w.heap.size + 1) rfl 25 _ (0, 0) _ HQf.out Tryd.underlying25 rfl HIq.out ?_) | fail)
      refine (HBq _).mono ?_
      rintro e w7 ⟨rfl, hb⟩
      have HB7 : Hid (Below w.heap.size w w7) := HBf.out.trans (hb.mono HBf.out.size)
      clear hb
      go_wp2
      go_ret
      exact ⟨rfl, HB7.out⟩
    case false.true =>
      have e : M = 1 := HM.out
      clear HM
      subst e
      have HQf : Hid (HasBox W (w.heap.size + 1) 25 cq) := HQ W HWW.out
      go_wp2_with (first | (refine wpList_load_row rfl 25 (.tmp 3) rfl (w.heap.size + 1) rfl 25 _ (0, 0) _ HQf.out Tryd.underlying25 rfl HIq.out ?_) | fail)
      refine (HBq _).mono ?_
      rintro e w7 ⟨rfl, hb⟩
      have HB7 : Hid (Below w.heap.size w w7) := HBf.out.trans (hb.mono HBf.out.size)
      clear hb
      go_wp2
      go_ret
      exact ⟨rfl, HB7.out⟩

end Go.Proofs.YtejjilnanmomcaaDoor

/-
  The tables that every program must know.
-/
import Derived.Test.YtcafjjfaamjipaaTableLaw
import Derived.Test.YtcafjjfaamjipaaTableAdd
import Derived.Test.YtcafjjfaamjipaaTableCut
import Derived.Test.YtcafjjfaamjipaaTableChange
namespace Go.Proofs.Ytcafjjfaamjipaa
open Go.RowKit

abbrev awA : HostT := ⟨1, ⟨#[97]⟩, 0, ByteArray.empty, 1, []⟩
abbrev awB : HostT := ⟨2, ⟨#[98]⟩, 0, ByteArray.empty, 1, []⟩
abbrev awC : HostT := ⟨3, ⟨#[99]⟩, 0, ByteArray.empty, 1, []⟩
theorem okA : okHost awA := by unfold okHost maxLen; decide
theorem okB : okHost awB := by unfold okHost maxLen; decide
theorem okC : okHost awC := by unfold okHost maxLen; decide

theorem add_aw (v : Value) (vs : List Value) (w : World) (hv : IsHosts w v vs [awB]) : Calls Try.prog 11 #[v, hval awA nilW] w fun e w' => ∃ v' vs', e = .returned (.tuple #[v', .int .i64 0]) ∧ IsHosts w' v' vs' [awA, awB] ∧ Below w.heap.size w w' := by
  refine (tadd_any [awB] awA nilW v vs w hv okA (isPairs_nil w)).mono ?_
  rintro e w' ⟨hL, hb⟩
  have e1 : addR [awB] awA = ([awA, awB], 0) := by decide +kernel
  rw [e1] at hL
  rcases hL with ⟨h, _⟩ | ⟨_, v', vs', rfl, ho⟩
  · exact absurd rfl h
  · exact ⟨v', vs', rfl, ho.isHosts (fun i hi => by
      match i, hi with
      | 0, _ => exact okA
      | 1, _ => exact okB) (fun i hi => by
      match i, hi with
      | 0, _ => intro p hp; cases hp
      | 1, _ => intro p hp; cases hp), hb⟩
theorem change_aw (v u : Value) (vs us : List Value) (w : World) (hv : IsHosts w v vs [awA, awB]) (hu : IsHosts w u us [awB, awC]) :
    Calls Try.prog 15 #[v, u] w fun e w' => ∃ a b c, e = .returned (.tuple #[a, b, c, .int .i64 0]) ∧ IsInts w' a [3] ∧ IsInts w' b [1] ∧ IsInts w' c [2] ∧ Below w.heap.size w w' := by
  refine (tchange_any [awA, awB] [awB, awC] v u vs us w hv hu).mono ?_
  rintro e w' ⟨⟨a, b, c, h1, h2, h3, h4⟩, hb⟩
  have e1 : changeR [awA, awB] [awB, awC] = ([3], [1], [2], 0) := by decide +kernel
  rw [e1] at h1 h2 h3 h4
  exact ⟨a, b, c, h1, h2, h3, h4, hb⟩
theorem may_awt (v : Value) (vs : List Value) (w : World) (hv : IsHosts w v vs [awA, awB]) : Calls Try.prog 19 #[v] w fun e w' => e = .returned (.bool true) ∧ Below w.heap.size w w' := by
  have := tmay_any [awA, awB] v vs w hv
  rwa [show mayTab [awA, awB] = true by decide +kernel] at this
theorem find_awt (v : Value) (vs : List Value) (w : World) (hv : IsHosts w v vs [awA, awB]) : Calls Try.prog 21 #[v, .int .i64 2] w fun e w' => e = .returned (.int .i64 1) ∧ Below w.heap.size w w' := by
  have := tfind_any [awA, awB] 2 v vs w hv
  rwa [show findH [awA, awB] 2 = 1 by decide +kernel] at this

set_option maxRecDepth 100000 in
set_option maxHeartbeats 4000000 in
theorem awake8_any (w : World) : Calls Try.prog 10 #[] w fun e w' => e = .returned (.bool true) ∧ Below w.heap.size w w' := by
  go_enter Try.func10, Try.ntmps10
  go_wp2_with fail
  refine (add_aw _ _ _ (hosts_lit _ [awB] _ _ _ (by simp) rfl (by intro x hx; simp at hx; subst hx; exact okB) (by intro x hx; simp at hx; subst hx; rfl) (by decide) (by decide))).mono ?_
  rintro e w1 ⟨lv, lvs, rfl, hl, hb⟩
  have HL1 : Hid (IsHosts w1 lv lvs [awA, awB]) := hl
  have HB1 : Hid (Below w.heap.size w w1) := ((((Below.refl _ _).alloc (Nat.le_refl _) _).alloc (by simp) _).alloc (by simp; omega) _).trans (hb.mono (by simp; omega))
  have HX : Hid (HasBox w1 (w.heap.size + 1) 25 (hcells awB nilW)) := ((hasBox_new' (w.alloc _) _ _ _ (by simp)).alloc _).below hb
  clear hl hb
  obtain ⟨lo, lc, rfl⟩ := HL1.out.shaped
  go_wp2_with (first | (refine wpList_load_box rfl 25 (.tmp 2) rfl (w.heap.size + 1) rfl 25 (hcells awB nilW) _ HX.out Try.underlying25 rfl sizeHost ?_) | fail)
  refine (change_aw _ _ _ _ _ (HL1.out.below ((Below.refl _ _).alloc (Nat.le_refl _) _)) (hosts_lit w1 [awB, awC] _ _ _ rfl rfl (by intro x hx; simp at hx; rcases hx with rfl | rfl; exact okB; exact okC) (by intro x hx; simp at hx; rcases hx with rfl | rfl <;> rfl) (by decide) (by decide))).mono ?_
  rintro e w2 ⟨av, bv, cv, rfl, ha, hb', hc, hb⟩
  have HL2 : Hid (IsHosts w2 (.slice lo 2 lc) lvs [awA, awB]) := (HL1.out.below ((Below.refl _ _).alloc (Nat.le_refl _) _)).below hb
  have HB2 : Hid (Below w.heap.size w w2) := (HB1.out.alloc HB1.out.size _).trans (hb.mono (by have := HB1.out.size; simp; omega))
  obtain ⟨ao, ac, rfl⟩ := ha.shape
  obtain ⟨bo, bc, rfl⟩ := hb'.shape
  obtain ⟨co, cc, rfl⟩ := hc.shape
  obtain ⟨ab, aoff, rfl, _, a0⟩ := ha.at 0 (by decide)
  obtain ⟨bb, boff, rfl, _, b0⟩ := hb'.at 0 (by decide)
  obtain ⟨lb, loff, rfl, _, l0, _⟩ := HL2.out.at 0 (by decide)
  clear ha hb' hc hb
  have a0' : w2.cell? ⟨ab, aoff, none⟩ = some (.int .i64 3) := a0
  have b0' : w2.cell? ⟨bb, boff, none⟩ = some (.int .i64 1) := b0
  have l0' : w2.cell? ⟨lb, loff, none⟩ = some (.int .i64 1) := l0
  clear a0 b0 l0
  go_wp2_with fail
  refine (may_awt _ _ _ HL2.out).mono ?_
  rintro e w3 ⟨rfl, hb⟩
  have HL3 : Hid (IsHosts w3 (.slice (some ⟨lb, loff, none⟩) 2 lc) lvs [awA, awB]) := HL2.out.below hb
  have HB3 : Hid (Below w.heap.size w w3) := HB2.out.trans (hb.mono HB2.out.size)
  clear hb
  go_wp2_with fail
  refine (find_awt _ _ _ HL3.out).mono ?_
  rintro e w4 ⟨rfl, hb⟩
  have HB4 : Hid (Below w.heap.size w w4) := HB3.out.trans (hb.mono HB3.out.size)
  clear hb
  go_wp2
  go_ret
  exact ⟨rfl, HB4.out⟩

end Go.Proofs.Ytcafjjfaamjipaa

/-
  Contracts of package drain: timeOf, later, Left, Over.
-/
import Derived.Test.YthmfmeibjpgokaaStatKit
import Derived.Test.YthmfmeibjpgokaaHost3
import Derived.WalkSmall
import Derived.BigQuiet
import Derived.Deep.QuietTactic
import Derived.Deep.CutRange
namespace Go.Proofs.Ythmfmeibjpgokaa
open Go.RowKit

/-- now and span, MaxTime at most. -/
def laterD (now span : Int) : Int := timeE now + (if (if span < 0 then 0 else span) ≤ 4611686018427387904 - timeE now then (if span < 0 then 0 else span) else 4611686018427387904 - timeE now)
theorem laterD_bd (now span : Int) : 0 ≤ laterD now span ∧ laterD now span ≤ 4611686018427387904 := by
  have := timeE_bd now
  unfold laterD
  split <;> (try split) <;> omega
def beginD (s : StatT) (now span : Int) : StatT :=
  if s.drains = true then s else ⟨s.host, ⟨s.pr.up, s.pr.run, s.pr.forced, 0⟩, 0, ⟨0, 0⟩, noOg, true, laterD now span, s.since, s.active⟩
def leftD (s : StatT) (now : Int) : Int := if s.drains = true then (if timeE s.gone - timeE now < 0 then 0 else timeE s.gone - timeE now) else 0
def overD (s : StatT) (now : Int) : Bool := s.drains && (decide (s.active ≤ 0) || decide (timeE s.gone ≤ timeE now))

theorem timeOf_any (n : Int) (w : World) : Calls Try.prog 13 #[.int .i64 n] w fun e w' => e = .returned (.int .i64 (timeE n)) ∧ w' = w := by
  unfold timeE
  by_cases h1 : n < 0
  · rw [if_pos h1]
    go_enter Try.func13, Try.ntmps13
    go_wp2
    go_ret
    exact ⟨rfl, rfl⟩
  · rw [if_neg h1]
    by_cases h2 : 4611686018427387904 < n
    · rw [if_pos h2]
      go_enter Try.func13, Try.ntmps13
      go_wp2
      go_ret
      exact ⟨rfl, rfl⟩
    · rw [if_neg h2]
      go_enter Try.func13, Try.ntmps13
      go_wp2
      go_ret
      exact ⟨rfl, rfl⟩

theorem later_any (now span : Int) (w : World) : Calls Try.prog 12 #[.int .i64 now, .int .i64 span] w fun e w' => e = .returned (.int .i64 (laterD now span)) ∧ w' = w := by
  have hb := timeE_bd now
  have HT : Hid (∀ W : World, Calls Try.prog 13 #[.int .i64 now] W fun e w' => e = .returned (.int .i64 (timeE now)) ∧ w' = W) := timeOf_any now
  unfold laterD
  generalize timeE now = t at hb HT ⊢
  by_cases h1 : span < 0
  · simp only [if_pos h1]
    by_cases h2 : 0 ≤ 4611686018427387904 - t
    · rw [if_pos h2]
      go_enter Try.func12, Try.ntmps12
      go_wp2_with fail
      refine (HT.out _).mono ?_
      rintro e w1 ⟨rfl, hw⟩
      subst w1
      go_wp2
      go_ret
      exact ⟨by first | rfl | (simp; done) | go_num, rfl⟩
    · omega
  · simp only [if_neg h1]
    by_cases h2 : span ≤ 4611686018427387904 - t
    · rw [if_pos h2]
      go_enter Try.func12, Try.ntmps12
      go_wp2_with fail
      refine (HT.out _).mono ?_
      rintro e w1 ⟨rfl, hw⟩
      subst w1
      go_wp2
      go_ret
      exact ⟨by first | rfl | (simp; done) | go_num, rfl⟩
    · rw [if_neg h2]
      go_enter Try.func12, Try.ntmps12
      go_wp2_with fail
      refine (HT.out _).mono ?_
      rintro e w1 ⟨rfl, hw⟩
      subst w1
      go_wp2
      go_ret
      exact ⟨by first | rfl | (simp; done) | go_num, rfl⟩

theorem dLeft_any (s : StatT) (mv : Value) (now : Int) (w : World) : Calls Try.prog 8 #[.agg (s.arr mv), .int .i64 now] w fun e w' => e = .returned (.int .i64 (leftD s now)) ∧ Below w.heap.size w w' := by
  have HX : Hid (HasBox (w.alloc (.cells (s.arr mv) 32)) w.heap.size 32 (s.arr mv)) := hasBox_new w _ _
  have HT : Hid (∀ (n : Int) (W : World), Calls Try.prog 13 #[.int .i64 n] W fun e w' => e = .returned (.int .i64 (timeE n)) ∧ w' = W) := timeOf_any
  have hb1 := timeE_bd s.gone
  have hb2 := timeE_bd now
  have HL : Hid (leftD s now = if s.drains = true then (if timeE s.gone - timeE now < 0 then 0 else timeE s.gone - timeE now) else 0) := rfl
  generalize leftD s now = R at HL ⊢
  generalize hd : s.drains = dr at HL
  have HD : Hid (s.drains = dr) := hd
  clear hd
  cases dr with
  | false =>
    have e : R = 0 := HL.out
    subst e
    go_enter Try.func8, Try.ntmps8
    go_upto_region 1 with fail
    generalize hW : w.alloc _ = W0 at HX
    have c17 : W0.cell? ⟨w.heap.size, 17, none⟩ = some (.bool false) := by rw [← HD.out]; exact HX.out.cell 17
    have HB : Hid (Below w.heap.size w W0) := by show Below _ _ _; rw [← hW]; exact (Below.refl _ _).alloc (Nat.le_refl _) _
    clear hW
    go_wp2
    go_ret
    exact ⟨rfl, HB.out⟩
  | true =>
    have hR : R = if timeE s.gone - timeE now < 0 then 0 else timeE s.gone - timeE now := HL.out
    clear HL
    generalize hg : timeE s.gone = tg at hb1 hR
    have HG : Hid (timeE s.gone = tg) := hg
    generalize ht : timeE now = tn at hb2 hR
    have HN : Hid (timeE now = tn) := ht
    clear hg ht
    go_enter Try.func8, Try.ntmps8
    go_upto_region 1 with fail
    generalize hW : w.alloc _ = W0 at HX
    have c17 : W0.cell? ⟨w.heap.size, 17, none⟩ = some (.bool true) := by rw [← HD.out]; exact HX.out.cell 17
    have c18 : W0.cell? ⟨w.heap.size, 18, none⟩ = some (.int .i64 s.gone) := HX.out.cell 18
    have HB : Hid (Below w.heap.size w W0) := by show Below _ _ _; rw [← hW]; exact (Below.refl _ _).alloc (Nat.le_refl _) _
    clear hW
    go_wp2_with fail
    refine (HT.out _ _).mono ?_
    rintro e w1 ⟨rfl, hw⟩
    subst w1
    rw [HG.out]
    go_wp2_with fail
    refine (HT.out _ _).mono ?_
    rintro e w1 ⟨rfl, hw⟩
    subst w1
    rw [HN.out]
    by_cases h : tg - tn < 0
    · rw [if_pos h] at hR
      subst hR
      go_wp2
      go_ret
      exact ⟨rfl, HB.out⟩
    · rw [if_neg h] at hR
      subst hR
      go_wp2
      go_ret
      exact ⟨rfl, HB.out⟩

set_option maxHeartbeats 1000000 in
theorem dOver_any (s : StatT) (mv : Value) (now : Int) (w : World) : Calls Try.prog 10 #[.agg (s.arr mv), .int .i64 now] w fun e w' => e = .returned (.bool (overD s now)) ∧ Below w.heap.size w w' := by
  have HX : Hid (HasBox (w.alloc (.cells (s.arr mv) 32)) w.heap.size 32 (s.arr mv)) := hasBox_new w _ _
  have HO : Hid (overD s now = (s.drains && (decide (s.active ≤ 0) || decide (timeE s.gone ≤ timeE now)))) := rfl
  generalize overD s now = R at HO ⊢
  generalize hd : s.drains = dr at HO
  have HD : Hid (s.drains = dr) := hd
  clear hd
  cases dr with
  | false =>
    have e : R = false := HO.out
    subst e
    go_enter Try.func10, Try.ntmps10
    go_upto_region 1 with fail
    generalize hW : w.alloc _ = W0 at HX
    have c17 : W0.cell? ⟨w.heap.size, 17, none⟩ = some (.bool false) := by rw [← HD.out]; exact HX.out.cell 17
    have HB : Hid (Below w.heap.size w W0) := by show Below _ _ _; rw [← hW]; exact (Below.refl _ _).alloc (Nat.le_refl _) _
    clear hW
    go_quiet (fail)
    go_wp2
    go_ret
    exact ⟨rfl, below_drewN HB.out _⟩
  | true =>
    generalize ha : s.active = ac at HO
    have HA : Hid (s.active = ac) := ha
    generalize hg : s.gone = gn at HO
    have HG : Hid (s.gone = gn) := hg
    clear ha hg
    by_cases h : ac ≤ 0
    · have e : R = true := by rw [HO.out, decide_eq_true h]; rfl
      subst e
      clear HO
      go_enter Try.func10, Try.ntmps10
      go_upto_region 1 with fail
      generalize hW : w.alloc _ = W0 at HX
      have c17 : W0.cell? ⟨w.heap.size, 17, none⟩ = some (.bool true) := by rw [← HD.out]; exact HX.out.cell 17
      have c20 : W0.cell? ⟨w.heap.size, 20, none⟩ = some (.int .i64 ac) := by rw [← HA.out]; exact HX.out.cell 20
      have HB : Hid (Below w.heap.size w W0) := by show Below _ _ _; rw [← hW]; exact (Below.refl _ _).alloc (Nat.le_refl _) _
      clear hW
      go_quiet (fail)
      go_wp2
      go_ret
      exact ⟨rfl, below_drewN HB.out _⟩
    · have HT1 : Hid (∀ (W : World), Calls Try.prog 13 #[.int .i64 gn] W fun e w' => e = .returned (.int .i64 (timeE gn)) ∧ w' = W) := timeOf_any gn
      have HT2 : Hid (∀ (W : World), Calls Try.prog 13 #[.int .i64 now] W fun e w' => e = .returned (.int .i64 (timeE now)) ∧ w' = W) := timeOf_any now
      have hR : R = decide (timeE gn ≤ timeE now) := by rw [HO.out, decide_eq_false h]; rfl
      clear HO
      generalize timeE gn = tg at HT1 hR
      generalize timeE now = tn at HT2 hR
      have h' : decide (ac ≤ 0) = false := decide_eq_false h
      go_enter Try.func10, Try.ntmps10
      go_upto_region 1 with fail
      generalize hW : w.alloc _ = W0 at HX
      have c17 : W0.cell? ⟨w.heap.size, 17, none⟩ = some (.bool true) := by rw [← HD.out]; exact HX.out.cell 17
      have c18 : W0.cell? ⟨w.heap.size, 18, none⟩ = some (.int .i64 gn) := by rw [← HG.out]; exact HX.out.cell 18
      have c20 : W0.cell? ⟨w.heap.size, 20, none⟩ = some (.int .i64 ac) := by rw [← HA.out]; exact HX.out.cell 20
      have HB : Hid (Below w.heap.size w W0) := by show Below _ _ _; rw [← hW]; exact (Below.refl _ _).alloc (Nat.le_refl _) _
      clear hW
      go_quiet ((go_at_call 13; first | exact Calls.quiet_of_same (HT1.out _) | exact Calls.quiet_of_same (HT2.out _)))
      subst hR
      go_wp2
      go_ret
      exact ⟨rfl, below_drewN HB.out _⟩

end Go.Proofs.Ythmfmeibjpgokaa

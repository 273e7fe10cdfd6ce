/-
  BucketFails, for every bucket and numbers: who fails by so many percent fails by fewer; who has all ok never does; nought percent is never. No condition on the call.
-/
import Derived.Test.YthoecpciiphofaaBucketFrame
import Derived.Test.YthoecpciiphofaaRefBucket
namespace Go.Proofs.Ythoecpciiphofaa
open Go.ChangeShapes Go.WideShapes Go.ChangeAt Go.RowKit
open Go.ChangeMaps (open_string shut_string)

theorem u_mod100 (a : Int) : ∃ X : Int, (IntKind.u64.wrap a).tmod 100 = X ∧ 0 ≤ X ∧ X ≤ 99 := by
  rw [IntKind.wrap_u64]
  have h1 := Int.emod_nonneg a (show (18446744073709551616 : Int) ≠ 0 by omega)
  rw [Int.tmod_eq_emod_of_nonneg h1]
  exact ⟨_, rfl, by omega, by omega⟩
/-- What is asked of a bucket that may be, of two percentages. -/
theorem fails_cases {b : Bk} {p q : Int} (h0 : 0 < p) (h1 : p ≤ q) : (failK b q = true ∧ failK b p = true ∧ b.ok ≠ b.all) ∨ (failK b q = false ∧ failK b p = false ∧ b.ok = b.all) ∨ (failK b q = false ∧ b.ok ≠ b.all) := by
  by_cases hq : failK b q = true
  · refine .inl ⟨hq, failK_less h0 h1 hq, fun e => ?_⟩
    rw [failK_allok e] at hq
    cases hq
  · have hq' : failK b q = false := by simpa using hq
    by_cases e : b.ok = b.all
    · exact .inr (.inl ⟨hq', failK_allok e p, e⟩)
    · exact .inr (.inr ⟨hq', e⟩)
theorem none_cases {b : Bk} (hm : mayK b = true) : b.all = 0 ∨ (b.all ≠ 0 ∧ 0 < b.ok) ∨ (b.all ≠ 0 ∧ ¬ 0 < b.ok ∧ failK b 100 = true) := by
  by_cases h0 : b.all = 0
  · exact .inl h0
  · by_cases h1 : 0 < b.ok
    · exact .inr (.inl ⟨h0, h1⟩)
    · exact .inr (.inr ⟨h0, h1, failK_hundred hm (by omega) h0⟩)

set_option maxRecDepth 100000 in
set_option maxHeartbeats 8000000 in
theorem walk_BucketFails (b : Bk) (hb0 : inK b) (p : Int) (wp : -9223372036854775808 ≤ p ∧ p ≤ 9223372036854775807) (q : Int) (_ : -9223372036854775808 ≤ q ∧ q ≤ 9223372036854775807) (w : World) :
    Calls Try.prog 5 #[bval b, .int .i64 p, .int .i64 q] w fun e w' => e = .returned (.bool true) ∧ Below w.heap.size w w' := by
  have HM : ∀ W : World, Calls Try.prog 9 #[bval b] W fun e w' => e = .returned (.bool (mayK b)) ∧ Below W.heap.size W w' := kMay_any b
  have HrM : ∀ W : World, Calls Try.prog 10 #[bval b] W fun e w' => e = .returned (.bool (mayK b)) ∧ Below W.heap.size W w' := rkMay_any b
  have HA : Hid (∀ W : World, Calls Try.prog 17 #[] W fun e w' => e = .returned (.bool true) ∧ Below W.heap.size W w') := awake12_any
  have HF : ∀ (z : Int) (f : Bool), z ≤ 9223372036854775807 → failK b z = f → ∀ W : World, Calls Try.prog 15 #[bval b, .int .i64 z] W fun e w' => e = .returned (.bool f) ∧ Below W.heap.size W w' := fun z f hz hf W => by
    rw [← hf]
    exact kFail_any b z hz W
  by_cases hm : mayK b = true
  · rw [hm] at HM HrM
    obtain ⟨X, hX, x0, x1⟩ := u_mod100 p
    obtain ⟨Y, hY, y0, y1⟩ := u_mod100 q
    have hX2 : IntKind.i64.wrap X = X := by rw [IntKind.wrap_i64]; omega
    have hY2 : IntKind.i64.wrap Y = Y := by rw [IntKind.wrap_i64]; omega
    obtain ⟨P, hP⟩ : ∃ P, 1 + X = P := ⟨_, rfl⟩
    obtain ⟨Q, hQ⟩ : ∃ Q, 1 + Y = Q := ⟨_, rfl⟩
    have hP2 : IntKind.i64.wrap P = P := by rw [IntKind.wrap_i64]; omega
    have hQ2 : IntKind.i64.wrap Q = Q := by rw [IntKind.wrap_i64]; omega
    have hX3 : IntKind.u64.wrap X = X := by rw [IntKind.wrap_u64]; omega
    have hY3 : IntKind.u64.wrap Y = Y := by rw [IntKind.wrap_u64]; omega
    have p1 : 0 < P := by omega
    have p2 : P ≤ 100 := by omega
    have q1 : 0 < Q := by omega
    have q2 : Q ≤ 100 := by omega
    have hn := none_cases hm
    have HF0 : Hid (∀ W : World, Calls Try.prog 15 #[bval b, .int .i64 0] W fun e w' => e = .returned (.bool false) ∧ Below W.heap.size W w') := HF 0 false (by omega) (failK_zero b)
    have HMh : Hid _ := HM
    have HrMh : Hid _ := HrM
    clear wp hm HM HrM hb0
    by_cases hsw : Q < P
    · have hd := fails_cases (b := b) q1 (show Q ≤ P by omega)
      have HF' : ∀ f, failK b P = f → Hid (∀ W : World, Calls Try.prog 15 #[bval b, .int .i64 P] W fun e w' => e = .returned (.bool f) ∧ Below W.heap.size W w') := fun f hf => HF P f (by omega) hf
      have HG' : ∀ f, failK b Q = f → Hid (∀ W : World, Calls Try.prog 15 #[bval b, .int .i64 Q] W fun e w' => e = .returned (.bool f) ∧ Below W.heap.size W w') := fun f hf => HF Q f (by omega) hf
      clear HF p1 p2 q1 q2 x0 x1 y0 y1
      rcases hd with ⟨d1, d2, d3⟩ | ⟨d1, d2, d3⟩ | ⟨d1, d3⟩
      · have HFq := HF' _ d1
        have HFp := HG' _ d2
        clear HF' HG' d1 d2
        have e3 : (b.ok == b.all) = false := by simp [d3]
        clear d3
        rcases hn with n1 | ⟨n1, n2⟩ | ⟨n1, n2, n3⟩
        · have m1 : (b.all == 0) = true := by simp [n1]
          clear n1
          obtain ⟨x, y⟩ := b
          unfold bval bcells at HMh HrMh HF0 HFq HFp ⊢
          simp only at HMh HrMh HF0 HFq HFp e3 m1 ⊢
          go_enter Try.func5, Try.ntmps5
          go_upto_region 1 with fail
          generalize hW0 : w.alloc _ = w0
          have HX0 : Hid (HasBox w0 w.heap.size 23 #[.int .i64 x, .int .i64 y]) := by show HasBox _ _ _ _; rw [← hW0]; exact hasBox_new w _ _
          have HB0 : Hid (Below w.heap.size w w0) := by show Below _ _ _; rw [← hW0]; exact (Below.refl _ _).alloc (Nat.le_refl _) _
          clear hW0
          have c1 : w0.cell? ⟨w.heap.size, 0, none⟩ = some (.int .i64 x) := HX0.out.cell 0
          have c2 : w0.cell? ⟨w.heap.size, 1, none⟩ = some (.int .i64 y) := HX0.out.cell 1
          go_wp2_with fail
          refine (HMh.out _).mono ?_
          rintro e w1 ⟨rfl, hb⟩
          clear c1 c2
          have HX1 : Hid (HasBox w1 w.heap.size 23 #[.int .i64 x, .int .i64 y]) := HX0.out.below hb
          have HB1 : Hid (Below w.heap.size w w1) := HB0.out.trans (hb.mono HB0.out.size)
          clear hb HX0 HB0
          have c1 : w1.cell? ⟨w.heap.size, 0, none⟩ = some (.int .i64 x) := HX1.out.cell 0
          have c2 : w1.cell? ⟨w.heap.size, 1, none⟩ = some (.int .i64 y) := HX1.out.cell 1
          go_wp2_with fail
          refine (HrMh.out _).mono ?_
          rintro e w2 ⟨rfl, hb⟩
          clear c1 c2
          have HX2 : Hid (HasBox w2 w.heap.size 23 #[.int .i64 x, .int .i64 y]) := HX1.out.below hb
          have HB2 : Hid (Below w.heap.size w w2) := HB1.out.trans (hb.mono HB1.out.size)
          clear hb HX1 HB1
          have c1 : w2.cell? ⟨w.heap.size, 0, none⟩ = some (.int .i64 x) := HX2.out.cell 0
          have c2 : w2.cell? ⟨w.heap.size, 1, none⟩ = some (.int .i64 y) := HX2.out.cell 1
          go_wp2_with fail
          refine (HFq.out _).mono ?_
          rintro e w3 ⟨rfl, hb⟩
          clear c1 c2
          have HX3 : Hid (HasBox w3 w.heap.size 23 #[.int .i64 x, .int .i64 y]) := HX2.out.below hb
          have HB3 : Hid (Below w.heap.size w w3) := HB2.out.trans (hb.mono HB2.out.size)
          clear hb HX2 HB2
          have c1 : w3.cell? ⟨w.heap.size, 0, none⟩ = some (.int .i64 x) := HX3.out.cell 0
          have c2 : w3.cell? ⟨w.heap.size, 1, none⟩ = some (.int .i64 y) := HX3.out.cell 1
          go_wp2_with fail
          refine (HFp.out _).mono ?_
          rintro e w4 ⟨rfl, hb⟩
          clear c1 c2
          have HX4 : Hid (HasBox w4 w.heap.size 23 #[.int .i64 x, .int .i64 y]) := HX3.out.below hb
          have HB4 : Hid (Below w.heap.size w w4) := HB3.out.trans (hb.mono HB3.out.size)
          clear hb HX3 HB3
          have c1 : w4.cell? ⟨w.heap.size, 0, none⟩ = some (.int .i64 x) := HX4.out.cell 0
          have c2 : w4.cell? ⟨w.heap.size, 1, none⟩ = some (.int .i64 y) := HX4.out.cell 1
          go_wp2_with fail
          refine (HF0.out _).mono ?_
          rintro e w5 ⟨rfl, hb⟩
          clear c1 c2
          have HX5 : Hid (HasBox w5 w.heap.size 23 #[.int .i64 x, .int .i64 y]) := HX4.out.below hb
          have HB5 : Hid (Below w.heap.size w w5) := HB4.out.trans (hb.mono HB4.out.size)
          clear hb HX4 HB4
          have c1 : w5.cell? ⟨w.heap.size, 0, none⟩ = some (.int .i64 x) := HX5.out.cell 0
          have c2 : w5.cell? ⟨w.heap.size, 1, none⟩ = some (.int .i64 y) := HX5.out.cell 1
          go_wp2_with fail
          refine (HA.out _).mono ?_
          rintro e w6 ⟨rfl, hb⟩
          clear c1 c2
          have HX6 : Hid (HasBox w6 w.heap.size 23 #[.int .i64 x, .int .i64 y]) := HX5.out.below hb
          have HB6 : Hid (Below w.heap.size w w6) := HB5.out.trans (hb.mono HB5.out.size)
          clear hb HX5 HB5
          go_wp2
          go_ret
          exact ⟨rfl, HB6.out⟩
        · have m1 : (b.all == 0) = false := by simp [n1]
          clear n1
          obtain ⟨x, y⟩ := b
          unfold bval bcells at HMh HrMh HF0 HFq HFp ⊢
          simp only at HMh HrMh HF0 HFq HFp e3 m1 n2 ⊢
          go_enter Try.func5, Try.ntmps5
          go_upto_region 1 with fail
          generalize hW0 : w.alloc _ = w0
          have HX0 : Hid (HasBox w0 w.heap.size 23 #[.int .i64 x, .int .i64 y]) := by show HasBox _ _ _ _; rw [← hW0]; exact hasBox_new w _ _
          have HB0 : Hid (Below w.heap.size w w0) := by show Below _ _ _; rw [← hW0]; exact (Below.refl _ _).alloc (Nat.le_refl _) _
          clear hW0
          have c1 : w0.cell? ⟨w.heap.size, 0, none⟩ = some (.int .i64 x) := HX0.out.cell 0
          have c2 : w0.cell? ⟨w.heap.size, 1, none⟩ = some (.int .i64 y) := HX0.out.cell 1
          go_wp2_with fail
          refine (HMh.out _).mono ?_
          rintro e w1 ⟨rfl, hb⟩
          clear c1 c2
          have HX1 : Hid (HasBox w1 w.heap.size 23 #[.int .i64 x, .int .i64 y]) := HX0.out.below hb
          have HB1 : Hid (Below w.heap.size w w1) := HB0.out.trans (hb.mono HB0.out.size)
          clear hb HX0 HB0
          have c1 : w1.cell? ⟨w.heap.size, 0, none⟩ = some (.int .i64 x) := HX1.out.cell 0
          have c2 : w1.cell? ⟨w.heap.size, 1, none⟩ = some (.int .i64 y) := HX1.out.cell 1
          go_wp2_with fail
          refine (HrMh.out _).mono ?_
          rintro e w2 ⟨rfl, hb⟩
          clear c1 c2
          have HX2 : Hid (HasBox w2 w.heap.size 23 #[.int .i64 x, .int .i64 y]) := HX1.out.below hb
          have HB2 : Hid (Below w.heap.size w w2) := HB1.out.trans (hb.mono HB1.out.size)
          clear hb HX1 HB1
          have c1 : w2.cell? ⟨w.heap.size, 0, none⟩ = some (.int .i64 x) := HX2.out.cell 0
          have c2 : w2.cell? ⟨w.heap.size, 1, none⟩ = some (.int .i64 y) := HX2.out.cell 1
          go_wp2_with fail
          refine (HFq.out _).mono ?_
          rintro e w3 ⟨rfl, hb⟩
          clear c1 c2
          have HX3 : Hid (HasBox w3 w.heap.size 23 #[.int .i64 x, .int .i64 y]) := HX2.out.below hb
          have HB3 : Hid (Below w.heap.size w w3) := HB2.out.trans (hb.mono HB2.out.size)
          clear hb HX2 HB2
          have c1 : w3.cell? ⟨w.heap.size, 0, none⟩ = some (.int .i64 x) := HX3.out.cell 0
          have c2 : w3.cell? ⟨w.heap.size, 1, none⟩ = some (.int .i64 y) := HX3.out.cell 1
          go_wp2_with fail
          refine (HFp.out _).mono ?_
          rintro e w4 ⟨rfl, hb⟩
          clear c1 c2
          have HX4 : Hid (HasBox w4 w.heap.size 23 #[.int .i64 x, .int .i64 y]) := HX3.out.below hb
          have HB4 : Hid (Below w.heap.size w w4) := HB3.out.trans (hb.mono HB3.out.size)
          clear hb HX3 HB3
          have c1 : w4.cell? ⟨w.heap.size, 0, none⟩ = some (.int .i64 x) := HX4.out.cell 0
          have c2 : w4.cell? ⟨w.heap.size, 1, none⟩ = some (.int .i64 y) := HX4.out.cell 1
          go_wp2_with fail
          refine (HF0.out _).mono ?_
          rintro e w5 ⟨rfl, hb⟩
          clear c1 c2
          have HX5 : Hid (HasBox w5 w.heap.size 23 #[.int .i64 x, .int .i64 y]) := HX4.out.below hb
          have HB5 : Hid (Below w.heap.size w w5) := HB4.out.trans (hb.mono HB4.out.size)
          clear hb HX4 HB4
          have c1 : w5.cell? ⟨w.heap.size, 0, none⟩ = some (.int .i64 x) := HX5.out.cell 0
          have c2 : w5.cell? ⟨w.heap.size, 1, none⟩ = some (.int .i64 y) := HX5.out.cell 1
          go_wp2_with fail
          refine (HA.out _).mono ?_
          rintro e w6 ⟨rfl, hb⟩
          clear c1 c2
          have HX6 : Hid (HasBox w6 w.heap.size 23 #[.int .i64 x, .int .i64 y]) := HX5.out.below hb
          have HB6 : Hid (Below w.heap.size w w6) := HB5.out.trans (hb.mono HB5.out.size)
          clear hb HX5 HB5
          go_wp2
          go_ret
          exact ⟨rfl, HB6.out⟩
        · have m1 : (b.all == 0) = false := by simp [n1]
          clear n1
          have HFh : Hid (∀ W : World, Calls Try.prog 15 #[bval b, .int .i64 100] W fun e w' => e = .returned (.bool true) ∧ Below W.heap.size W w') := fun W => by have := kFail_any b 100 (by omega) W; rw [n3] at this; exact this
          clear n3
          obtain ⟨x, y⟩ := b
          unfold bval bcells at HMh HrMh HF0 HFq HFp HFh ⊢
          simp only at HMh HrMh HF0 HFq HFp HFh e3 m1 n2 ⊢
          go_enter Try.func5, Try.ntmps5
          go_upto_region 1 with fail
          generalize hW0 : w.alloc _ = w0
          have HX0 : Hid (HasBox w0 w.heap.size 23 #[.int .i64 x, .int .i64 y]) := by show HasBox _ _ _ _; rw [← hW0]; exact hasBox_new w _ _
          have HB0 : Hid (Below w.heap.size w w0) := by show Below _ _ _; rw [← hW0]; exact (Below.refl _ _).alloc (Nat.le_refl _) _
          clear hW0
          have c1 : w0.cell? ⟨w.heap.size, 0, none⟩ = some (.int .i64 x) := HX0.out.cell 0
          have c2 : w0.cell? ⟨w.heap.size, 1, none⟩ = some (.int .i64 y) := HX0.out.cell 1
          go_wp2_with fail
          refine (HMh.out _).mono ?_
          rintro e w1 ⟨rfl, hb⟩
          clear c1 c2
          have HX1 : Hid (HasBox w1 w.heap.size 23 #[.int .i64 x, .int .i64 y]) := HX0.out.below hb
          have HB1 : Hid (Below w.heap.size w w1) := HB0.out.trans (hb.mono HB0.out.size)
          clear hb HX0 HB0
          have c1 : w1.cell? ⟨w.heap.size, 0, none⟩ = some (.int .i64 x) := HX1.out.cell 0
          have c2 : w1.cell? ⟨w.heap.size, 1, none⟩ = some (.int .i64 y) := HX1.out.cell 1
          go_wp2_with fail
          refine (HrMh.out _).mono ?_
          rintro e w2 ⟨rfl, hb⟩
          clear c1 c2
          have HX2 : Hid (HasBox w2 w.heap.size 23 #[.int .i64 x, .int .i64 y]) := HX1.out.below hb
          have HB2 : Hid (Below w.heap.size w w2) := HB1.out.trans (hb.mono HB1.out.size)
          clear hb HX1 HB1
          have c1 : w2.cell? ⟨w.heap.size, 0, none⟩ = some (.int .i64 x) := HX2.out.cell 0
          have c2 : w2.cell? ⟨w.heap.size, 1, none⟩ = some (.int .i64 y) := HX2.out.cell 1
          go_wp2_with fail
          refine (HFq.out _).mono ?_
          rintro e w3 ⟨rfl, hb⟩
          clear c1 c2
          have HX3 : Hid (HasBox w3 w.heap.size 23 #[.int .i64 x, .int .i64 y]) := HX2.out.below hb
          have HB3 : Hid (Below w.heap.size w w3) := HB2.out.trans (hb.mono HB2.out.size)
          clear hb HX2 HB2
          have c1 : w3.cell? ⟨w.heap.size, 0, none⟩ = some (.int .i64 x) := HX3.out.cell 0
          have c2 : w3.cell? ⟨w.heap.size, 1, none⟩ = some (.int .i64 y) := HX3.out.cell 1
          go_wp2_with fail
          refine (HFp.out _).mono ?_
          rintro e w4 ⟨rfl, hb⟩
          clear c1 c2
          have HX4 : Hid (HasBox w4 w.heap.size 23 #[.int .i64 x, .int .i64 y]) := HX3.out.below hb
          have HB4 : Hid (Below w.heap.size w w4) := HB3.out.trans (hb.mono HB3.out.size)
          clear hb HX3 HB3
          have c1 : w4.cell? ⟨w.heap.size, 0, none⟩ = some (.int .i64 x) := HX4.out.cell 0
          have c2 : w4.cell? ⟨w.heap.size, 1, none⟩ = some (.int .i64 y) := HX4.out.cell 1
          go_wp2_with fail
          refine (HF0.out _).mono ?_
          rintro e w5 ⟨rfl, hb⟩
          clear c1 c2
          have HX5 : Hid (HasBox w5 w.heap.size 23 #[.int .i64 x, .int .i64 y]) := HX4.out.below hb
          have HB5 : Hid (Below w.heap.size w w5) := HB4.out.trans (hb.mono HB4.out.size)
          clear hb HX4 HB4
          have c1 : w5.cell? ⟨w.heap.size, 0, none⟩ = some (.int .i64 x) := HX5.out.cell 0
          have c2 : w5.cell? ⟨w.heap.size, 1, none⟩ = some (.int .i64 y) := HX5.out.cell 1
          go_wp2_with fail
          refine (HFh.out _).mono ?_
          rintro e w6 ⟨rfl, hb⟩
          clear c1 c2
          have HX6 : Hid (HasBox w6 w.heap.size 23 #[.int .i64 x, .int .i64 y]) := HX5.out.below hb
          have HB6 : Hid (Below w.heap.size w w6) := HB5.out.trans (hb.mono HB5.out.size)
          clear hb HX5 HB5
          have c1 : w6.cell? ⟨w.heap.size, 0, none⟩ = some (.int .i64 x) := HX6.out.cell 0
          have c2 : w6.cell? ⟨w.heap.size, 1, none⟩ = some (.int .i64 y) := HX6.out.cell 1
          go_wp2_with fail
          refine (HA.out _).mono ?_
          rintro e w7 ⟨rfl, hb⟩
          clear c1 c2
          have HX7 : Hid (HasBox w7 w.heap.size 23 #[.int .i64 x, .int .i64 y]) := HX6.out.below hb
          have HB7 : Hid (Below w.heap.size w w7) := HB6.out.trans (hb.mono HB6.out.size)
          clear hb HX6 HB6
          go_wp2
          go_ret
          exact ⟨rfl, HB7.out⟩
      · have HFq := HF' _ d1
        have HFp := HG' _ d2
        clear HF' HG' d1 d2
        have e3 : (b.ok == b.all) = true := by simp [d3]
        clear d3
        rcases hn with n1 | ⟨n1, n2⟩ | ⟨n1, n2, n3⟩
        · have m1 : (b.all == 0) = true := by simp [n1]
          clear n1
          obtain ⟨x, y⟩ := b
          unfold bval bcells at HMh HrMh HF0 HFq HFp ⊢
          simp only at HMh HrMh HF0 HFq HFp e3 m1 ⊢
          go_enter Try.func5, Try.ntmps5
          go_upto_region 1 with fail
          generalize hW0 : w.alloc _ = w0
          have HX0 : Hid (HasBox w0 w.heap.size 23 #[.int .i64 x, .int .i64 y]) := by show HasBox _ _ _ _; rw [← hW0]; exact hasBox_new w _ _
          have HB0 : Hid (Below w.heap.size w w0) := by show Below _ _ _; rw [← hW0]; exact (Below.refl _ _).alloc (Nat.le_refl _) _
          clear hW0
          have c1 : w0.cell? ⟨w.heap.size, 0, none⟩ = some (.int .i64 x) := HX0.out.cell 0
          have c2 : w0.cell? ⟨w.heap.size, 1, none⟩ = some (.int .i64 y) := HX0.out.cell 1
          go_wp2_with fail
          refine (HMh.out _).mono ?_
          rintro e w1 ⟨rfl, hb⟩
          clear c1 c2
          have HX1 : Hid (HasBox w1 w.heap.size 23 #[.int .i64 x, .int .i64 y]) := HX0.out.below hb
          have HB1 : Hid (Below w.heap.size w w1) := HB0.out.trans (hb.mono HB0.out.size)
          clear hb HX0 HB0
          have c1 : w1.cell? ⟨w.heap.size, 0, none⟩ = some (.int .i64 x) := HX1.out.cell 0
          have c2 : w1.cell? ⟨w.heap.size, 1, none⟩ = some (.int .i64 y) := HX1.out.cell 1
          go_wp2_with fail
          refine (HrMh.out _).mono ?_
          rintro e w2 ⟨rfl, hb⟩
          clear c1 c2
          have HX2 : Hid (HasBox w2 w.heap.size 23 #[.int .i64 x, .int .i64 y]) := HX1.out.below hb
          have HB2 : Hid (Below w.heap.size w w2) := HB1.out.trans (hb.mono HB1.out.size)
          clear hb HX1 HB1
          have c1 : w2.cell? ⟨w.heap.size, 0, none⟩ = some (.int .i64 x) := HX2.out.cell 0
          have c2 : w2.cell? ⟨w.heap.size, 1, none⟩ = some (.int .i64 y) := HX2.out.cell 1
          go_wp2_with fail
          refine (HFq.out _).mono ?_
          rintro e w3 ⟨rfl, hb⟩
          clear c1 c2
          have HX3 : Hid (HasBox w3 w.heap.size 23 #[.int .i64 x, .int .i64 y]) := HX2.out.below hb
          have HB3 : Hid (Below w.heap.size w w3) := HB2.out.trans (hb.mono HB2.out.size)
          clear hb HX2 HB2
          have c1 : w3.cell? ⟨w.heap.size, 0, none⟩ = some (.int .i64 x) := HX3.out.cell 0
          have c2 : w3.cell? ⟨w.heap.size, 1, none⟩ = some (.int .i64 y) := HX3.out.cell 1
          go_wp2_with fail
          refine (HFp.out _).mono ?_
          rintro e w4 ⟨rfl, hb⟩
          clear c1 c2
          have HX4 : Hid (HasBox w4 w.heap.size 23 #[.int .i64 x, .int .i64 y]) := HX3.out.below hb
          have HB4 : Hid (Below w.heap.size w w4) := HB3.out.trans (hb.mono HB3.out.size)
          clear hb HX3 HB3
          have c1 : w4.cell? ⟨w.heap.size, 0, none⟩ = some (.int .i64 x) := HX4.out.cell 0
          have c2 : w4.cell? ⟨w.heap.size, 1, none⟩ = some (.int .i64 y) := HX4.out.cell 1
          go_wp2_with fail
          refine (HF0.out _).mono ?_
          rintro e w5 ⟨rfl, hb⟩
          clear c1 c2
          have HX5 : Hid (HasBox w5 w.heap.size 23 #[.int .i64 x, .int .i64 y]) := HX4.out.below hb
          have HB5 : Hid (Below w.heap.size w w5) := HB4.out.trans (hb.mono HB4.out.size)
          clear hb HX4 HB4
          have c1 : w5.cell? ⟨w.heap.size, 0, none⟩ = some (.int .i64 x) := HX5.out.cell 0
          have c2 : w5.cell? ⟨w.heap.size, 1, none⟩ = some (.int .i64 y) := HX5.out.cell 1
          go_wp2_with fail
          refine (HA.out _).mono ?_
          rintro e w6 ⟨rfl, hb⟩
          clear c1 c2
          have HX6 : Hid (HasBox w6 w.heap.size 23 #[.int .i64 x, .int .i64 y]) := HX5.out.below hb
          have HB6 : Hid (Below w.heap.size w w6) := HB5.out.trans (hb.mono HB5.out.size)
          clear hb HX5 HB5
          go_wp2
          go_ret
          exact ⟨rfl, HB6.out⟩
        · have m1 : (b.all == 0) = false := by simp [n1]
          clear n1
          obtain ⟨x, y⟩ := b
          unfold bval bcells at HMh HrMh HF0 HFq HFp ⊢
          simp only at HMh HrMh HF0 HFq HFp e3 m1 n2 ⊢
          go_enter Try.func5, Try.ntmps5
          go_upto_region 1 with fail
          generalize hW0 : w.alloc _ = w0
          have HX0 : Hid (HasBox w0 w.heap.size 23 #[.int .i64 x, .int .i64 y]) := by show HasBox _ _ _ _; rw [← hW0]; exact hasBox_new w _ _
          have HB0 : Hid (Below w.heap.size w w0) := by show Below _ _ _; rw [← hW0]; exact (Below.refl _ _).alloc (Nat.le_refl _) _
          clear hW0
          have c1 : w0.cell? ⟨w.heap.size, 0, none⟩ = some (.int .i64 x) := HX0.out.cell 0
          have c2 : w0.cell? ⟨w.heap.size, 1, none⟩ = some (.int .i64 y) := HX0.out.cell 1
          go_wp2_with fail
          refine (HMh.out _).mono ?_
          rintro e w1 ⟨rfl, hb⟩
          clear c1 c2
          have HX1 : Hid (HasBox w1 w.heap.size 23 #[.int .i64 x, .int .i64 y]) := HX0.out.below hb
          have HB1 : Hid (Below w.heap.size w w1) := HB0.out.trans (hb.mono HB0.out.size)
          clear hb HX0 HB0
          have c1 : w1.cell? ⟨w.heap.size, 0, none⟩ = some (.int .i64 x) := HX1.out.cell 0
          have c2 : w1.cell? ⟨w.heap.size, 1, none⟩ = some (.int .i64 y) := HX1.out.cell 1
          go_wp2_with fail
          refine (HrMh.out _).mono ?_
          rintro e w2 ⟨rfl, hb⟩
          clear c1 c2
          have HX2 : Hid (HasBox w2 w.heap.size 23 #[.int .i64 x, .int .i64 y]) := HX1.out.below hb
          have HB2 : Hid (Below w.heap.size w w2) := HB1.out.trans (hb.mono HB1.out.size)
          clear hb HX1 HB1
          have c1 : w2.cell? ⟨w.heap.size, 0, none⟩ = some (.int .i64 x) := HX2.out.cell 0
          have c2 : w2.cell? ⟨w.heap.size, 1, none⟩ = some (.int .i64 y) := HX2.out.cell 1
          go_wp2_with fail
          refine (HFq.out _).mono ?_
          rintro e w3 ⟨rfl, hb⟩
          clear c1 c2
          have HX3 : Hid (HasBox w3 w.heap.size 23 #[.int .i64 x, .int .i64 y]) := HX2.out.below hb
          have HB3 : Hid (Below w.heap.size w w3) := HB2.out.trans (hb.mono HB2.out.size)
          clear hb HX2 HB2
          have c1 : w3.cell? ⟨w.heap.size, 0, none⟩ = some (.int .i64 x) := HX3.out.cell 0
          have c2 : w3.cell? ⟨w.heap.size, 1, none⟩ = some (.int .i64 y) := HX3.out.cell 1
          go_wp2_with fail
          refine (HFp.out _).mono ?_
          rintro e w4 ⟨rfl, hb⟩
          clear c1 c2
          have HX4 : Hid (HasBox w4 w.heap.size 23 #[.int .i64 x, .int .i64 y]) := HX3.out.below hb
          have HB4 : Hid (Below w.heap.size w w4) := HB3.out.trans (hb.mono HB3.out.size)
          clear hb HX3 HB3
          have c1 : w4.cell? ⟨w.heap.size, 0, none⟩ = some (.int .i64 x) := HX4.out.cell 0
          have c2 : w4.cell? ⟨w.heap.size, 1, none⟩ = some (.int .i64 y) := HX4.out.cell 1
          go_wp2_with fail
          refine (HF0.out _).mono ?_
          rintro e w5 ⟨rfl, hb⟩
          clear c1 c2
          have HX5 : Hid (HasBox w5 w.heap.size 23 #[.int .i64 x, .int .i64 y]) := HX4.out.below hb
          have HB5 : Hid (Below w.heap.size w w5) := HB4.out.trans (hb.mono HB4.out.size)
          clear hb HX4 HB4
          have c1 : w5.cell? ⟨w.heap.size, 0, none⟩ = some (.int .i64 x) := HX5.out.cell 0
          have c2 : w5.cell? ⟨w.heap.size, 1, none⟩ = some (.int .i64 y) := HX5.out.cell 1
          go_wp2_with fail
          refine (HA.out _).mono ?_
          rintro e w6 ⟨rfl, hb⟩
          clear c1 c2
          have HX6 : Hid (HasBox w6 w.heap.size 23 #[.int .i64 x, .int .i64 y]) := HX5.out.below hb
          have HB6 : Hid (Below w.heap.size w w6) := HB5.out.trans (hb.mono HB5.out.size)
          clear hb HX5 HB5
          go_wp2
          go_ret
          exact ⟨rfl, HB6.out⟩
        · have m1 : (b.all == 0) = false := by simp [n1]
          clear n1
          have HFh : Hid (∀ W : World, Calls Try.prog 15 #[bval b, .int .i64 100] W fun e w' => e = .returned (.bool true) ∧ Below W.heap.size W w') := fun W => by have := kFail_any b 100 (by omega) W; rw [n3] at this; exact this
          clear n3
          obtain ⟨x, y⟩ := b
          unfold bval bcells at HMh HrMh HF0 HFq HFp HFh ⊢
          simp only at HMh HrMh HF0 HFq HFp HFh e3 m1 n2 ⊢
          go_enter Try.func5, Try.ntmps5
          go_upto_region 1 with fail
          generalize hW0 : w.alloc _ = w0
          have HX0 : Hid (HasBox w0 w.heap.size 23 #[.int .i64 x, .int .i64 y]) := by show HasBox _ _ _ _; rw [← hW0]; exact hasBox_new w _ _
          have HB0 : Hid (Below w.heap.size w w0) := by show Below _ _ _; rw [← hW0]; exact (Below.refl _ _).alloc (Nat.le_refl _) _
          clear hW0
          have c1 : w0.cell? ⟨w.heap.size, 0, none⟩ = some (.int .i64 x) := HX0.out.cell 0
          have c2 : w0.cell? ⟨w.heap.size, 1, none⟩ = some (.int .i64 y) := HX0.out.cell 1
          go_wp2_with fail
          refine (HMh.out _).mono ?_
          rintro e w1 ⟨rfl, hb⟩
          clear c1 c2
          have HX1 : Hid (HasBox w1 w.heap.size 23 #[.int .i64 x, .int .i64 y]) := HX0.out.below hb
          have HB1 : Hid (Below w.heap.size w w1) := HB0.out.trans (hb.mono HB0.out.size)
          clear hb HX0 HB0
          have c1 : w1.cell? ⟨w.heap.size, 0, none⟩ = some (.int .i64 x) := HX1.out.cell 0
          have c2 : w1.cell? ⟨w.heap.size, 1, none⟩ = some (.int .i64 y) := HX1.out.cell 1
          go_wp2_with fail
          refine (HrMh.out _).mono ?_
          rintro e w2 ⟨rfl, hb⟩
          clear c1 c2
          have HX2 : Hid (HasBox w2 w.heap.size 23 #[.int .i64 x, .int .i64 y]) := HX1.out.below hb
          have HB2 : Hid (Below w.heap.size w w2) := HB1.out.trans (hb.mono HB1.out.size)
          clear hb HX1 HB1
          have c1 : w2.cell? ⟨w.heap.size, 0, none⟩ = some (.int .i64 x) := HX2.out.cell 0
          have c2 : w2.cell? ⟨w.heap.size, 1, none⟩ = some (.int .i64 y) := HX2.out.cell 1
          go_wp2_with fail
          refine (HFq.out _).mono ?_
          rintro e w3 ⟨rfl, hb⟩
          clear c1 c2
          have HX3 : Hid (HasBox w3 w.heap.size 23 #[.int .i64 x, .int .i64 y]) := HX2.out.below hb
          have HB3 : Hid (Below w.heap.size w w3) := HB2.out.trans (hb.mono HB2.out.size)
          clear hb HX2 HB2
          have c1 : w3.cell? ⟨w.heap.size, 0, none⟩ = some (.int .i64 x) := HX3.out.cell 0
          have c2 : w3.cell? ⟨w.heap.size, 1, none⟩ = some (.int .i64 y) := HX3.out.cell 1
          go_wp2_with fail
          refine (HFp.out _).mono ?_
          rintro e w4 ⟨rfl, hb⟩
          clear c1 c2
          have HX4 : Hid (HasBox w4 w.heap.size 23 #[.int .i64 x, .int .i64 y]) := HX3.out.below hb
          have HB4 : Hid (Below w.heap.size w w4) := HB3.out.trans (hb.mono HB3.out.size)
          clear hb HX3 HB3
          have c1 : w4.cell? ⟨w.heap.size, 0, none⟩ = some (.int .i64 x) := HX4.out.cell 0
          have c2 : w4.cell? ⟨w.heap.size, 1, none⟩ = some (.int .i64 y) := HX4.out.cell 1
          go_wp2_with fail
          refine (HF0.out _).mono ?_
          rintro e w5 ⟨rfl, hb⟩
          clear c1 c2
          have HX5 : Hid (HasBox w5 w.heap.size 23 #[.int .i64 x, .int .i64 y]) := HX4.out.below hb
          have HB5 : Hid (Below w.heap.size w w5) := HB4.out.trans (hb.mono HB4.out.size)
          clear hb HX4 HB4
          have c1 : w5.cell? ⟨w.heap.size, 0, none⟩ = some (.int .i64 x) := HX5.out.cell 0
          have c2 : w5.cell? ⟨w.heap.size, 1, none⟩ = some (.int .i64 y) := HX5.out.cell 1
          go_wp2_with fail
          refine (HFh.out _).mono ?_
          rintro e w6 ⟨rfl, hb⟩
          clear c1 c2
          have HX6 : Hid (HasBox w6 w.heap.size 23 #[.int .i64 x, .int .i64 y]) := HX5.out.below hb
          have HB6 : Hid (Below w.heap.size w w6) := HB5.out.trans (hb.mono HB5.out.size)
          clear hb HX5 HB5
          have c1 : w6.cell? ⟨w.heap.size, 0, none⟩ = some (.int .i64 x) := HX6.out.cell 0
          have c2 : w6.cell? ⟨w.heap.size, 1, none⟩ = some (.int .i64 y) := HX6.out.cell 1
          go_wp2_with fail
          refine (HA.out _).mono ?_
          rintro e w7 ⟨rfl, hb⟩
          clear c1 c2
          have HX7 : Hid (HasBox w7 w.heap.size 23 #[.int .i64 x, .int .i64 y]) := HX6.out.below hb
          have HB7 : Hid (Below w.heap.size w w7) := HB6.out.trans (hb.mono HB6.out.size)
          clear hb HX6 HB6
          go_wp2
          go_ret
          exact ⟨rfl, HB7.out⟩
      · have HFq := HF' _ d1
        clear HF' HG' d1
        have e3 : (b.ok == b.all) = false := by simp [d3]
        clear d3
        rcases hn with n1 | ⟨n1, n2⟩ | ⟨n1, n2, n3⟩
        · have m1 : (b.all == 0) = true := by simp [n1]
          clear n1
          obtain ⟨x, y⟩ := b
          unfold bval bcells at HMh HrMh HF0 HFq ⊢
          simp only at HMh HrMh HF0 HFq e3 m1 ⊢
          go_enter Try.func5, Try.ntmps5
          go_upto_region 1 with fail
          generalize hW0 : w.alloc _ = w0
          have HX0 : Hid (HasBox w0 w.heap.size 23 #[.int .i64 x, .int .i64 y]) := by show HasBox _ _ _ _; rw [← hW0]; exact hasBox_new w _ _
          have HB0 : Hid (Below w.heap.size w w0) := by show Below _ _ _; rw [← hW0]; exact (Below.refl _ _).alloc (Nat.le_refl _) _
          clear hW0
          have c1 : w0.cell? ⟨w.heap.size, 0, none⟩ = some (.int .i64 x) := HX0.out.cell 0
          have c2 : w0.cell? ⟨w.heap.size, 1, none⟩ = some (.int .i64 y) := HX0.out.cell 1
          go_wp2_with fail
          refine (HMh.out _).mono ?_
          rintro e w1 ⟨rfl, hb⟩
          clear c1 c2
          have HX1 : Hid (HasBox w1 w.heap.size 23 #[.int .i64 x, .int .i64 y]) := HX0.out.below hb
          have HB1 : Hid (Below w.heap.size w w1) := HB0.out.trans (hb.mono HB0.out.size)
          clear hb HX0 HB0
          have c1 : w1.cell? ⟨w.heap.size, 0, none⟩ = some (.int .i64 x) := HX1.out.cell 0
          have c2 : w1.cell? ⟨w.heap.size, 1, none⟩ = some (.int .i64 y) := HX1.out.cell 1
          go_wp2_with fail
          refine (HrMh.out _).mono ?_
          rintro e w2 ⟨rfl, hb⟩
          clear c1 c2
          have HX2 : Hid (HasBox w2 w.heap.size 23 #[.int .i64 x, .int .i64 y]) := HX1.out.below hb
          have HB2 : Hid (Below w.heap.size w w2) := HB1.out.trans (hb.mono HB1.out.size)
          clear hb HX1 HB1
          have c1 : w2.cell? ⟨w.heap.size, 0, none⟩ = some (.int .i64 x) := HX2.out.cell 0
          have c2 : w2.cell? ⟨w.heap.size, 1, none⟩ = some (.int .i64 y) := HX2.out.cell 1
          go_wp2_with fail
          refine (HFq.out _).mono ?_
          rintro e w3 ⟨rfl, hb⟩
          clear c1 c2
          have HX3 : Hid (HasBox w3 w.heap.size 23 #[.int .i64 x, .int .i64 y]) := HX2.out.below hb
          have HB3 : Hid (Below w.heap.size w w3) := HB2.out.trans (hb.mono HB2.out.size)
          clear hb HX2 HB2
          have c1 : w3.cell? ⟨w.heap.size, 0, none⟩ = some (.int .i64 x) := HX3.out.cell 0
          have c2 : w3.cell? ⟨w.heap.size, 1, none⟩ = some (.int .i64 y) := HX3.out.cell 1
          go_wp2_with fail
          refine (HF0.out _).mono ?_
          rintro e w4 ⟨rfl, hb⟩
          clear c1 c2
          have HX4 : Hid (HasBox w4 w.heap.size 23 #[.int .i64 x, .int .i64 y]) := HX3.out.below hb
          have HB4 : Hid (Below w.heap.size w w4) := HB3.out.trans (hb.mono HB3.out.size)
          clear hb HX3 HB3
          have c1 : w4.cell? ⟨w.heap.size, 0, none⟩ = some (.int .i64 x) := HX4.out.cell 0
          have c2 : w4.cell? ⟨w.heap.size, 1, none⟩ = some (.int .i64 y) := HX4.out.cell 1
          go_wp2_with fail
          refine (HA.out _).mono ?_
          rintro e w5 ⟨rfl, hb⟩
          clear c1 c2
          have HX5 : Hid (HasBox w5 w.heap.size 23 #[.int .i64 x, .int .i64 y]) := HX4.out.below hb
          have HB5 : Hid (Below w.heap.size w w5) := HB4.out.trans (hb.mono HB4.out.size)
          clear hb HX4 HB4
          go_wp2
          go_ret
          exact ⟨rfl, HB5.out⟩
        · have m1 : (b.all == 0) = false := by simp [n1]
          clear n1
          obtain ⟨x, y⟩ := b
          unfold bval bcells at HMh HrMh HF0 HFq ⊢
          simp only at HMh HrMh HF0 HFq e3 m1 n2 ⊢
          go_enter Try.func5, Try.ntmps5
          go_upto_region 1 with fail
          generalize hW0 : w.alloc _ = w0
          have HX0 : Hid (HasBox w0 w.heap.size 23 #[.int .i64 x, .int .i64 y]) := by show HasBox _ _ _ _; rw [← hW0]; exact hasBox_new w _ _
          have HB0 : Hid (Below w.heap.size w w0) := by show Below _ _ _; rw [← hW0]; exact (Below.refl _ _).alloc (Nat.le_refl _) _
          clear hW0
          have c1 : w0.cell? ⟨w.heap.size, 0, none⟩ = some (.int .i64 x) := HX0.out.cell 0
          have c2 : w0.cell? ⟨w.heap.size, 1, none⟩ = some (.int .i64 y) := HX0.out.cell 1
          go_wp2_with fail
          refine (HMh.out _).mono ?_
          rintro e w1 ⟨rfl, hb⟩
          clear c1 c2
          have HX1 : Hid (HasBox w1 w.heap.size 23 #[.int .i64 x, .int .i64 y]) := HX0.out.below hb
          have HB1 : Hid (Below w.heap.size w w1) := HB0.out.trans (hb.mono HB0.out.size)
          clear hb HX0 HB0
          have c1 : w1.cell? ⟨w.heap.size, 0, none⟩ = some (.int .i64 x) := HX1.out.cell 0
          have c2 : w1.cell? ⟨w.heap.size, 1, none⟩ = some (.int .i64 y) := HX1.out.cell 1
          go_wp2_with fail
          refine (HrMh.out _).mono ?_
          rintro e w2 ⟨rfl, hb⟩
          clear c1 c2
          have HX2 : Hid (HasBox w2 w.heap.size 23 #[.int .i64 x, .int .i64 y]) := HX1.out.below hb
          have HB2 : Hid (Below w.heap.size w w2) := HB1.out.trans (hb.mono HB1.out.size)
          clear hb HX1 HB1
          have c1 : w2.cell? ⟨w.heap.size, 0, none⟩ = some (.int .i64 x) := HX2.out.cell 0
          have c2 : w2.cell? ⟨w.heap.size, 1, none⟩ = some (.int .i64 y) := HX2.out.cell 1
          go_wp2_with fail
          refine (HFq.out _).mono ?_
          rintro e w3 ⟨rfl, hb⟩
          clear c1 c2
          have HX3 : Hid (HasBox w3 w.heap.size 23 #[.int .i64 x, .int .i64 y]) := HX2.out.below hb
          have HB3 : Hid (Below w.heap.size w w3) := HB2.out.trans (hb.mono HB2.out.size)
          clear hb HX2 HB2
          have c1 : w3.cell? ⟨w.heap.size, 0, none⟩ = some (.int .i64 x) := HX3.out.cell 0
          have c2 : w3.cell? ⟨w.heap.size, 1, none⟩ = some (.int .i64 y) := HX3.out.cell 1
          go_wp2_with fail
          refine (HF0.out _).mono ?_
          rintro e w4 ⟨rfl, hb⟩
          clear c1 c2
          have HX4 : Hid (HasBox w4 w.heap.size 23 #[.int .i64 x, .int .i64 y]) := HX3.out.below hb
          have HB4 : Hid (Below w.heap.size w w4) := HB3.out.trans (hb.mono HB3.out.size)
          clear hb HX3 HB3
          have c1 : w4.cell? ⟨w.heap.size, 0, none⟩ = some (.int .i64 x) := HX4.out.cell 0
          have c2 : w4.cell? ⟨w.heap.size, 1, none⟩ = some (.int .i64 y) := HX4.out.cell 1
          go_wp2_with fail
          refine (HA.out _).mono ?_
          rintro e w5 ⟨rfl, hb⟩
          clear c1 c2
          have HX5 : Hid (HasBox w5 w.heap.size 23 #[.int .i64 x, .int .i64 y]) := HX4.out.below hb
          have HB5 : Hid (Below w.heap.size w w5) := HB4.out.trans (hb.mono HB4.out.size)
          clear hb HX4 HB4
          go_wp2
          go_ret
          exact ⟨rfl, HB5.out⟩
        · have m1 : (b.all == 0) = false := by simp [n1]
          clear n1
          have HFh : Hid (∀ W : World, Calls Try.prog 15 #[bval b, .int .i64 100] W fun e w' => e = .returned (.bool true) ∧ Below W.heap.size W w') := fun W => by have := kFail_any b 100 (by omega) W; rw [n3] at this; exact this
          clear n3
          obtain ⟨x, y⟩ := b
          unfold bval bcells at HMh HrMh HF0 HFq HFh ⊢
          simp only at HMh HrMh HF0 HFq HFh e3 m1 n2 ⊢
          go_enter Try.func5, Try.ntmps5
          go_upto_region 1 with fail
          generalize hW0 : w.alloc _ = w0
          have HX0 : Hid (HasBox w0 w.heap.size 23 #[.int .i64 x, .int .i64 y]) := by show HasBox _ _ _ _; rw [← hW0]; exact hasBox_new w _ _
          have HB0 : Hid (Below w.heap.size w w0) := by show Below _ _ _; rw [← hW0]; exact (Below.refl _ _).alloc (Nat.le_refl _) _
          clear hW0
          have c1 : w0.cell? ⟨w.heap.size, 0, none⟩ = some (.int .i64 x) := HX0.out.cell 0
          have c2 : w0.cell? ⟨w.heap.size, 1, none⟩ = some (.int .i64 y) := HX0.out.cell 1
          go_wp2_with fail
          refine (HMh.out _).mono ?_
          rintro e w1 ⟨rfl, hb⟩
          clear c1 c2
          have HX1 : Hid (HasBox w1 w.heap.size 23 #[.int .i64 x, .int .i64 y]) := HX0.out.below hb
          have HB1 : Hid (Below w.heap.size w w1) := HB0.out.trans (hb.mono HB0.out.size)
          clear hb HX0 HB0
          have c1 : w1.cell? ⟨w.heap.size, 0, none⟩ = some (.int .i64 x) := HX1.out.cell 0
          have c2 : w1.cell? ⟨w.heap.size, 1, none⟩ = some (.int .i64 y) := HX1.out.cell 1
          go_wp2_with fail
          refine (HrMh.out _).mono ?_
          rintro e w2 ⟨rfl, hb⟩
          clear c1 c2
          have HX2 : Hid (HasBox w2 w.heap.size 23 #[.int .i64 x, .int .i64 y]) := HX1.out.below hb
          have HB2 : Hid (Below w.heap.size w w2) := HB1.out.trans (hb.mono HB1.out.size)
          clear hb HX1 HB1
          have c1 : w2.cell? ⟨w.heap.size, 0, none⟩ = some (.int .i64 x) := HX2.out.cell 0
          have c2 : w2.cell? ⟨w.heap.size, 1, none⟩ = some (.int .i64 y) := HX2.out.cell 1
          go_wp2_with fail
          refine (HFq.out _).mono ?_
          rintro e w3 ⟨rfl, hb⟩
          clear c1 c2
          have HX3 : Hid (HasBox w3 w.heap.size 23 #[.int .i64 x, .int .i64 y]) := HX2.out.below hb
          have HB3 : Hid (Below w.heap.size w w3) := HB2.out.trans (hb.mono HB2.out.size)
          clear hb HX2 HB2
          have c1 : w3.cell? ⟨w.heap.size, 0, none⟩ = some (.int .i64 x) := HX3.out.cell 0
          have c2 : w3.cell? ⟨w.heap.size, 1, none⟩ = some (.int .i64 y) := HX3.out.cell 1
          go_wp2_with fail
          refine (HF0.out _).mono ?_
          rintro e w4 ⟨rfl, hb⟩
          clear c1 c2
          have HX4 : Hid (HasBox w4 w.heap.size 23 #[.int .i64 x, .int .i64 y]) := HX3.out.below hb
          have HB4 : Hid (Below w.heap.size w w4) := HB3.out.trans (hb.mono HB3.out.size)
          clear hb HX3 HB3
          have c1 : w4.cell? ⟨w.heap.size, 0, none⟩ = some (.int .i64 x) := HX4.out.cell 0
          have c2 : w4.cell? ⟨w.heap.size, 1, none⟩ = some (.int .i64 y) := HX4.out.cell 1
          go_wp2_with fail
          refine (HFh.out _).mono ?_
          rintro e w5 ⟨rfl, hb⟩
          clear c1 c2
          have HX5 : Hid (HasBox w5 w.heap.size 23 #[.int .i64 x, .int .i64 y]) := HX4.out.below hb
          have HB5 : Hid (Below w.heap.size w w5) := HB4.out.trans (hb.mono HB4.out.size)
          clear hb HX4 HB4
          have c1 : w5.cell? ⟨w.heap.size, 0, none⟩ = some (.int .i64 x) := HX5.out.cell 0
          have c2 : w5.cell? ⟨w.heap.size, 1, none⟩ = some (.int .i64 y) := HX5.out.cell 1
          go_wp2_with fail
          refine (HA.out _).mono ?_
          rintro e w6 ⟨rfl, hb⟩
          clear c1 c2
          have HX6 : Hid (HasBox w6 w.heap.size 23 #[.int .i64 x, .int .i64 y]) := HX5.out.below hb
          have HB6 : Hid (Below w.heap.size w w6) := HB5.out.trans (hb.mono HB5.out.size)
          clear hb HX5 HB5
          go_wp2
          go_ret
          exact ⟨rfl, HB6.out⟩
    · have hd := fails_cases (b := b) p1 (show P ≤ Q by omega)
      have HF' : ∀ f, failK b Q = f → Hid (∀ W : World, Calls Try.prog 15 #[bval b, .int .i64 Q] W fun e w' => e = .returned (.bool f) ∧ Below W.heap.size W w') := fun f hf => HF Q f (by omega) hf
      have HG' : ∀ f, failK b P = f → Hid (∀ W : World, Calls Try.prog 15 #[bval b, .int .i64 P] W fun e w' => e = .returned (.bool f) ∧ Below W.heap.size W w') := fun f hf => HF P f (by omega) hf
      clear HF p1 p2 q1 q2 x0 x1 y0 y1
      rcases hd with ⟨d1, d2, d3⟩ | ⟨d1, d2, d3⟩ | ⟨d1, d3⟩
      · have HFq := HF' _ d1
        have HFp := HG' _ d2
        clear HF' HG' d1 d2
        have e3 : (b.ok == b.all) = false := by simp [d3]
        clear d3
        rcases hn with n1 | ⟨n1, n2⟩ | ⟨n1, n2, n3⟩
        · have m1 : (b.all == 0) = true := by simp [n1]
          clear n1
          obtain ⟨x, y⟩ := b
          unfold bval bcells at HMh HrMh HF0 HFq HFp ⊢
          simp only at HMh HrMh HF0 HFq HFp e3 m1 ⊢
          go_enter Try.func5, Try.ntmps5
          go_upto_region 1 with fail
          generalize hW0 : w.alloc _ = w0
          have HX0 : Hid (HasBox w0 w.heap.size 23 #[.int .i64 x, .int .i64 y]) := by show HasBox _ _ _ _; rw [← hW0]; exact hasBox_new w _ _
          have HB0 : Hid (Below w.heap.size w w0) := by show Below _ _ _; rw [← hW0]; exact (Below.refl _ _).alloc (Nat.le_refl _) _
          clear hW0
          have c1 : w0.cell? ⟨w.heap.size, 0, none⟩ = some (.int .i64 x) := HX0.out.cell 0
          have c2 : w0.cell? ⟨w.heap.size, 1, none⟩ = some (.int .i64 y) := HX0.out.cell 1
          go_wp2_with fail
          refine (HMh.out _).mono ?_
          rintro e w1 ⟨rfl, hb⟩
          clear c1 c2
          have HX1 : Hid (HasBox w1 w.heap.size 23 #[.int .i64 x, .int .i64 y]) := HX0.out.below hb
          have HB1 : Hid (Below w.heap.size w w1) := HB0.out.trans (hb.mono HB0.out.size)
          clear hb HX0 HB0
          have c1 : w1.cell? ⟨w.heap.size, 0, none⟩ = some (.int .i64 x) := HX1.out.cell 0
          have c2 : w1.cell? ⟨w.heap.size, 1, none⟩ = some (.int .i64 y) := HX1.out.cell 1
          go_wp2_with fail
          refine (HrMh.out _).mono ?_
          rintro e w2 ⟨rfl, hb⟩
          clear c1 c2
          have HX2 : Hid (HasBox w2 w.heap.size 23 #[.int .i64 x, .int .i64 y]) := HX1.out.below hb
          have HB2 : Hid (Below w.heap.size w w2) := HB1.out.trans (hb.mono HB1.out.size)
          clear hb HX1 HB1
          have c1 : w2.cell? ⟨w.heap.size, 0, none⟩ = some (.int .i64 x) := HX2.out.cell 0
          have c2 : w2.cell? ⟨w.heap.size, 1, none⟩ = some (.int .i64 y) := HX2.out.cell 1
          go_wp2_with fail
          refine (HFq.out _).mono ?_
          rintro e w3 ⟨rfl, hb⟩
          clear c1 c2
          have HX3 : Hid (HasBox w3 w.heap.size 23 #[.int .i64 x, .int .i64 y]) := HX2.out.below hb
          have HB3 : Hid (Below w.heap.size w w3) := HB2.out.trans (hb.mono HB2.out.size)
          clear hb HX2 HB2
          have c1 : w3.cell? ⟨w.heap.size, 0, none⟩ = some (.int .i64 x) := HX3.out.cell 0
          have c2 : w3.cell? ⟨w.heap.size, 1, none⟩ = some (.int .i64 y) := HX3.out.cell 1
          go_wp2_with fail
          refine (HFp.out _).mono ?_
          rintro e w4 ⟨rfl, hb⟩
          clear c1 c2
          have HX4 : Hid (HasBox w4 w.heap.size 23 #[.int .i64 x, .int .i64 y]) := HX3.out.below hb
          have HB4 : Hid (Below w.heap.size w w4) := HB3.out.trans (hb.mono HB3.out.size)
          clear hb HX3 HB3
          have c1 : w4.cell? ⟨w.heap.size, 0, none⟩ = some (.int .i64 x) := HX4.out.cell 0
          have c2 : w4.cell? ⟨w.heap.size, 1, none⟩ = some (.int .i64 y) := HX4.out.cell 1
          go_wp2_with fail
          refine (HF0.out _).mono ?_
          rintro e w5 ⟨rfl, hb⟩
          clear c1 c2
          have HX5 : Hid (HasBox w5 w.heap.size 23 #[.int .i64 x, .int .i64 y]) := HX4.out.below hb
          have HB5 : Hid (Below w.heap.size w w5) := HB4.out.trans (hb.mono HB4.out.size)
          clear hb HX4 HB4
          have c1 : w5.cell? ⟨w.heap.size, 0, none⟩ = some (.int .i64 x) := HX5.out.cell 0
          have c2 : w5.cell? ⟨w.heap.size, 1, none⟩ = some (.int .i64 y) := HX5.out.cell 1
          go_wp2_with fail
          refine (HA.out _).mono ?_
          rintro e w6 ⟨rfl, hb⟩
          clear c1 c2
          have HX6 : Hid (HasBox w6 w.heap.size 23 #[.int .i64 x, .int .i64 y]) := HX5.out.below hb
          have HB6 : Hid (Below w.heap.size w w6) := HB5.out.trans (hb.mono HB5.out.size)
          clear hb HX5 HB5
          go_wp2
          go_ret
          exact ⟨rfl, HB6.out⟩
        · have m1 : (b.all == 0) = false := by simp [n1]
          clear n1
          obtain ⟨x, y⟩ := b
          unfold bval bcells at HMh HrMh HF0 HFq HFp ⊢
          simp only at HMh HrMh HF0 HFq HFp e3 m1 n2 ⊢
          go_enter Try.func5, Try.ntmps5
          go_upto_region 1 with fail
          generalize hW0 : w.alloc _ = w0
          have HX0 : Hid (HasBox w0 w.heap.size 23 #[.int .i64 x, .int .i64 y]) := by show HasBox _ _ _ _; rw [← hW0]; exact hasBox_new w _ _
          have HB0 : Hid (Below w.heap.size w w0) := by show Below _ _ _; rw [← hW0]; exact (Below.refl _ _).alloc (Nat.le_refl _) _
          clear hW0
          have c1 : w0.cell? ⟨w.heap.size, 0, none⟩ = some (.int .i64 x) := HX0.out.cell 0
          have c2 : w0.cell? ⟨w.heap.size, 1, none⟩ = some (.int .i64 y) := HX0.out.cell 1
          go_wp2_with fail
          refine (HMh.out _).mono ?_
          rintro e w1 ⟨rfl, hb⟩
          clear c1 c2
          have HX1 : Hid (HasBox w1 w.heap.size 23 #[.int .i64 x, .int .i64 y]) := HX0.out.below hb
          have HB1 : Hid (Below w.heap.size w w1) := HB0.out.trans (hb.mono HB0.out.size)
          clear hb HX0 HB0
          have c1 : w1.cell? ⟨w.heap.size, 0, none⟩ = some (.int .i64 x) := HX1.out.cell 0
          have c2 : w1.cell? ⟨w.heap.size, 1, none⟩ = some (.int .i64 y) := HX1.out.cell 1
          go_wp2_with fail
          refine (HrMh.out _).mono ?_
          rintro e w2 ⟨rfl, hb⟩
          clear c1 c2
          have HX2 : Hid (HasBox w2 w.heap.size 23 #[.int .i64 x, .int .i64 y]) := HX1.out.below hb
          have HB2 : Hid (Below w.heap.size w w2) := HB1.out.trans (hb.mono HB1.out.size)
          clear hb HX1 HB1
          have c1 : w2.cell? ⟨w.heap.size, 0, none⟩ = some (.int .i64 x) := HX2.out.cell 0
          have c2 : w2.cell? ⟨w.heap.size, 1, none⟩ = some (.int .i64 y) := HX2.out.cell 1
          go_wp2_with fail
          refine (HFq.out _).mono ?_
          rintro e w3 ⟨rfl, hb⟩
          clear c1 c2
          have HX3 : Hid (HasBox w3 w.heap.size 23 #[.int .i64 x, .int .i64 y]) := HX2.out.below hb
          have HB3 : Hid (Below w.heap.size w w3) := HB2.out.trans (hb.mono HB2.out.size)
          clear hb HX2 HB2
          have c1 : w3.cell? ⟨w.heap.size, 0, none⟩ = some (.int .i64 x) := HX3.out.cell 0
          have c2 : w3.cell? ⟨w.heap.size, 1, none⟩ = some (.int .i64 y) := HX3.out.cell 1
          go_wp2_with fail
          refine (HFp.out _).mono ?_
          rintro e w4 ⟨rfl, hb⟩
          clear c1 c2
          have HX4 : Hid (HasBox w4 w.heap.size 23 #[.int .i64 x, .int .i64 y]) := HX3.out.below hb
          have HB4 : Hid (Below w.heap.size w w4) := HB3.out.trans (hb.mono HB3.out.size)
          clear hb HX3 HB3
          have c1 : w4.cell? ⟨w.heap.size, 0, none⟩ = some (.int .i64 x) := HX4.out.cell 0
          have c2 : w4.cell? ⟨w.heap.size, 1, none⟩ = some (.int .i64 y) := HX4.out.cell 1
          go_wp2_with fail
          refine (HF0.out _).mono ?_
          rintro e w5 ⟨rfl, hb⟩
          clear c1 c2
          have HX5 : Hid (HasBox w5 w.heap.size 23 #[.int .i64 x, .int .i64 y]) := HX4.out.below hb
          have HB5 : Hid (Below w.heap.size w w5) := HB4.out.trans (hb.mono HB4.out.size)
          clear hb HX4 HB4
          have c1 : w5.cell? ⟨w.heap.size, 0, none⟩ = some (.int .i64 x) := HX5.out.cell 0
          have c2 : w5.cell? ⟨w.heap.size, 1, none⟩ = some (.int .i64 y) := HX5.out.cell 1
          go_wp2_with fail
          refine (HA.out _).mono ?_
          rintro e w6 ⟨rfl, hb⟩
          clear c1 c2
          have HX6 : Hid (HasBox w6 w.heap.size 23 #[.int .i64 x, .int .i64 y]) := HX5.out.below hb
          have HB6 : Hid (Below w.heap.size w w6) := HB5.out.trans (hb.mono HB5.out.size)
          clear hb HX5 HB5
          go_wp2
          go_ret
          exact ⟨rfl, HB6.out⟩
        · have m1 : (b.all == 0) = false := by simp [n1]
          clear n1
          have HFh : Hid (∀ W : World, Calls Try.prog 15 #[bval b, .int .i64 100] W fun e w' => e = .returned (.bool true) ∧ Below W.heap.size W w') := fun W => by have := kFail_any b 100 (by omega) W; rw [n3] at this; exact this
          clear n3
          obtain ⟨x, y⟩ := b
          unfold bval bcells at HMh HrMh HF0 HFq HFp HFh ⊢
          simp only at HMh HrMh HF0 HFq HFp HFh e3 m1 n2 ⊢
          go_enter Try.func5, Try.ntmps5
          go_upto_region 1 with fail
          generalize hW0 : w.alloc _ = w0
          have HX0 : Hid (HasBox w0 w.heap.size 23 #[.int .i64 x, .int .i64 y]) := by show HasBox _ _ _ _; rw [← hW0]; exact hasBox_new w _ _
          have HB0 : Hid (Below w.heap.size w w0) := by show Below _ _ _; rw [← hW0]; exact (Below.refl _ _).alloc (Nat.le_refl _) _
          clear hW0
          have c1 : w0.cell? ⟨w.heap.size, 0, none⟩ = some (.int .i64 x) := HX0.out.cell 0
          have c2 : w0.cell? ⟨w.heap.size, 1, none⟩ = some (.int .i64 y) := HX0.out.cell 1
          go_wp2_with fail
          refine (HMh.out _).mono ?_
          rintro e w1 ⟨rfl, hb⟩
          clear c1 c2
          have HX1 : Hid (HasBox w1 w.heap.size 23 #[.int .i64 x, .int .i64 y]) := HX0.out.below hb
          have HB1 : Hid (Below w.heap.size w w1) := HB0.out.trans (hb.mono HB0.out.size)
          clear hb HX0 HB0
          have c1 : w1.cell? ⟨w.heap.size, 0, none⟩ = some (.int .i64 x) := HX1.out.cell 0
          have c2 : w1.cell? ⟨w.heap.size, 1, none⟩ = some (.int .i64 y) := HX1.out.cell 1
          go_wp2_with fail
          refine (HrMh.out _).mono ?_
          rintro e w2 ⟨rfl, hb⟩
          clear c1 c2
          have HX2 : Hid (HasBox w2 w.heap.size 23 #[.int .i64 x, .int .i64 y]) := HX1.out.below hb
          have HB2 : Hid (Below w.heap.size w w2) := HB1.out.trans (hb.mono HB1.out.size)
          clear hb HX1 HB1
          have c1 : w2.cell? ⟨w.heap.size, 0, none⟩ = some (.int .i64 x) := HX2.out.cell 0
          have c2 : w2.cell? ⟨w.heap.size, 1, none⟩ = some (.int .i64 y) := HX2.out.cell 1
          go_wp2_with fail
          refine (HFq.out _).mono ?_
          rintro e w3 ⟨rfl, hb⟩
          clear c1 c2
          have HX3 : Hid (HasBox w3 w.heap.size 23 #[.int .i64 x, .int .i64 y]) := HX2.out.below hb
          have HB3 : Hid (Below w.heap.size w w3) := HB2.out.trans (hb.mono HB2.out.size)
          clear hb HX2 HB2
          have c1 : w3.cell? ⟨w.heap.size, 0, none⟩ = some (.int .i64 x) := HX3.out.cell 0
          have c2 : w3.cell? ⟨w.heap.size, 1, none⟩ = some (.int .i64 y) := HX3.out.cell 1
          go_wp2_with fail
          refine (HFp.out _).mono ?_
          rintro e w4 ⟨rfl, hb⟩
          clear c1 c2
          have HX4 : Hid (HasBox w4 w.heap.size 23 #[.int .i64 x, .int .i64 y]) := HX3.out.below hb
          have HB4 : Hid (Below w.heap.size w w4) := HB3.out.trans (hb.mono HB3.out.size)
          clear hb HX3 HB3
          have c1 : w4.cell? ⟨w.heap.size, 0, none⟩ = some (.int .i64 x) := HX4.out.cell 0
          have c2 : w4.cell? ⟨w.heap.size, 1, none⟩ = some (.int .i64 y) := HX4.out.cell 1
          go_wp2_with fail
          refine (HF0.out _).mono ?_
          rintro e w5 ⟨rfl, hb⟩
          clear c1 c2
          have HX5 : Hid (HasBox w5 w.heap.size 23 #[.int .i64 x, .int .i64 y]) := HX4.out.below hb
          have HB5 : Hid (Below w.heap.size w w5) := HB4.out.trans (hb.mono HB4.out.size)
          clear hb HX4 HB4
          have c1 : w5.cell? ⟨w.heap.size, 0, none⟩ = some (.int .i64 x) := HX5.out.cell 0
          have c2 : w5.cell? ⟨w.heap.size, 1, none⟩ = some (.int .i64 y) := HX5.out.cell 1
          go_wp2_with fail
          refine (HFh.out _).mono ?_
          rintro e w6 ⟨rfl, hb⟩
          clear c1 c2
          have HX6 : Hid (HasBox w6 w.heap.size 23 #[.int .i64 x, .int .i64 y]) := HX5.out.below hb
          have HB6 : Hid (Below w.heap.size w w6) := HB5.out.trans (hb.mono HB5.out.size)
          clear hb HX5 HB5
          have c1 : w6.cell? ⟨w.heap.size, 0, none⟩ = some (.int .i64 x) := HX6.out.cell 0
          have c2 : w6.cell? ⟨w.heap.size, 1, none⟩ = some (.int .i64 y) := HX6.out.cell 1
          go_wp2_with fail
          refine (HA.out _).mono ?_
          rintro e w7 ⟨rfl, hb⟩
          clear c1 c2
          have HX7 : Hid (HasBox w7 w.heap.size 23 #[.int .i64 x, .int .i64 y]) := HX6.out.below hb
          have HB7 : Hid (Below w.heap.size w w7) := HB6.out.trans (hb.mono HB6.out.size)
          clear hb HX6 HB6
          go_wp2
          go_ret
          exact ⟨rfl, HB7.out⟩
      · have HFq := HF' _ d1
        have HFp := HG' _ d2
        clear HF' HG' d1 d2
        have e3 : (b.ok == b.all) = true := by simp [d3]
        clear d3
        rcases hn with n1 | ⟨n1, n2⟩ | ⟨n1, n2, n3⟩
        · have m1 : (b.all == 0) = true := by simp [n1]
          clear n1
          obtain ⟨x, y⟩ := b
          unfold bval bcells at HMh HrMh HF0 HFq HFp ⊢
          simp only at HMh HrMh HF0 HFq HFp e3 m1 ⊢
          go_enter Try.func5, Try.ntmps5
          go_upto_region 1 with fail
          generalize hW0 : w.alloc _ = w0
          have HX0 : Hid (HasBox w0 w.heap.size 23 #[.int .i64 x, .int .i64 y]) := by show HasBox _ _ _ _; rw [← hW0]; exact hasBox_new w _ _
          have HB0 : Hid (Below w.heap.size w w0) := by show Below _ _ _; rw [← hW0]; exact (Below.refl _ _).alloc (Nat.le_refl _) _
          clear hW0
          have c1 : w0.cell? ⟨w.heap.size, 0, none⟩ = some (.int .i64 x) := HX0.out.cell 0
          have c2 : w0.cell? ⟨w.heap.size, 1, none⟩ = some (.int .i64 y) := HX0.out.cell 1
          go_wp2_with fail
          refine (HMh.out _).mono ?_
          rintro e w1 ⟨rfl, hb⟩
          clear c1 c2
          have HX1 : Hid (HasBox w1 w.heap.size 23 #[.int .i64 x, .int .i64 y]) := HX0.out.below hb
          have HB1 : Hid (Below w.heap.size w w1) := HB0.out.trans (hb.mono HB0.out.size)
          clear hb HX0 HB0
          have c1 : w1.cell? ⟨w.heap.size, 0, none⟩ = some (.int .i64 x) := HX1.out.cell 0
          have c2 : w1.cell? ⟨w.heap.size, 1, none⟩ = some (.int .i64 y) := HX1.out.cell 1
          go_wp2_with fail
          refine (HrMh.out _).mono ?_
          rintro e w2 ⟨rfl, hb⟩
          clear c1 c2
          have HX2 : Hid (HasBox w2 w.heap.size 23 #[.int .i64 x, .int .i64 y]) := HX1.out.below hb
          have HB2 : Hid (Below w.heap.size w w2) := HB1.out.trans (hb.mono HB1.out.size)
          clear hb HX1 HB1
          have c1 : w2.cell? ⟨w.heap.size, 0, none⟩ = some (.int .i64 x) := HX2.out.cell 0
          have c2 : w2.cell? ⟨w.heap.size, 1, none⟩ = some (.int .i64 y) := HX2.out.cell 1
          go_wp2_with fail
          refine (HFq.out _).mono ?_
          rintro e w3 ⟨rfl, hb⟩
          clear c1 c2
          have HX3 : Hid (HasBox w3 w.heap.size 23 #[.int .i64 x, .int .i64 y]) := HX2.out.below hb
          have HB3 : Hid (Below w.heap.size w w3) := HB2.out.trans (hb.mono HB2.out.size)
          clear hb HX2 HB2
          have c1 : w3.cell? ⟨w.heap.size, 0, none⟩ = some (.int .i64 x) := HX3.out.cell 0
          have c2 : w3.cell? ⟨w.heap.size, 1, none⟩ = some (.int .i64 y) := HX3.out.cell 1
          go_wp2_with fail
          refine (HFp.out _).mono ?_
          rintro e w4 ⟨rfl, hb⟩
          clear c1 c2
          have HX4 : Hid (HasBox w4 w.heap.size 23 #[.int .i64 x, .int .i64 y]) := HX3.out.below hb
          have HB4 : Hid (Below w.heap.size w w4) := HB3.out.trans (hb.mono HB3.out.size)
          clear hb HX3 HB3
          have c1 : w4.cell? ⟨w.heap.size, 0, none⟩ = some (.int .i64 x) := HX4.out.cell 0
          have c2 : w4.cell? ⟨w.heap.size, 1, none⟩ = some (.int .i64 y) := HX4.out.cell 1
          go_wp2_with fail
          refine (HF0.out _).mono ?_
          rintro e w5 ⟨rfl, hb⟩
          clear c1 c2
          have HX5 : Hid (HasBox w5 w.heap.size 23 #[.int .i64 x, .int .i64 y]) := HX4.out.below hb
          have HB5 : Hid (Below w.heap.size w w5) := HB4.out.trans (hb.mono HB4.out.size)
          clear hb HX4 HB4
          have c1 : w5.cell? ⟨w.heap.size, 0, none⟩ = some (.int .i64 x) := HX5.out.cell 0
          have c2 : w5.cell? ⟨w.heap.size, 1, none⟩ = some (.int .i64 y) := HX5.out.cell 1
          go_wp2_with fail
          refine (HA.out _).mono ?_
          rintro e w6 ⟨rfl, hb⟩
          clear c1 c2
          have HX6 : Hid (HasBox w6 w.heap.size 23 #[.int .i64 x, .int .i64 y]) := HX5.out.below hb
          have HB6 : Hid (Below w.heap.size w w6) := HB5.out.trans (hb.mono HB5.out.size)
          clear hb HX5 HB5
          go_wp2
          go_ret
          exact ⟨rfl, HB6.out⟩
        · have m1 : (b.all == 0) = false := by simp [n1]
          clear n1
          obtain ⟨x, y⟩ := b
          unfold bval bcells at HMh HrMh HF0 HFq HFp ⊢
          simp only at HMh HrMh HF0 HFq HFp e3 m1 n2 ⊢
          go_enter Try.func5, Try.ntmps5
          go_upto_region 1 with fail
          generalize hW0 : w.alloc _ = w0
          have HX0 : Hid (HasBox w0 w.heap.size 23 #[.int .i64 x, .int .i64 y]) := by show HasBox _ _ _ _; rw [← hW0]; exact hasBox_new w _ _
          have HB0 : Hid (Below w.heap.size w w0) := by show Below _ _ _; rw [← hW0]; exact (Below.refl _ _).alloc (Nat.le_refl _) _
          clear hW0
          have c1 : w0.cell? ⟨w.heap.size, 0, none⟩ = some (.int .i64 x) := HX0.out.cell 0
          have c2 : w0.cell? ⟨w.heap.size, 1, none⟩ = some (.int .i64 y) := HX0.out.cell 1
          go_wp2_with fail
          refine (HMh.out _).mono ?_
          rintro e w1 ⟨rfl, hb⟩
          clear c1 c2
          have HX1 : Hid (HasBox w1 w.heap.size 23 #[.int .i64 x, .int .i64 y]) := HX0.out.below hb
          have HB1 : Hid (Below w.heap.size w w1) := HB0.out.trans (hb.mono HB0.out.size)
          clear hb HX0 HB0
          have c1 : w1.cell? ⟨w.heap.size, 0, none⟩ = some (.int .i64 x) := HX1.out.cell 0
          have c2 : w1.cell? ⟨w.heap.size, 1, none⟩ = some (.int .i64 y) := HX1.out.cell 1
          go_wp2_with fail
          refine (HrMh.out _).mono ?_
          rintro e w2 ⟨rfl, hb⟩
          clear c1 c2
          have HX2 : Hid (HasBox w2 w.heap.size 23 #[.int .i64 x, .int .i64 y]) := HX1.out.below hb
          have HB2 : Hid (Below w.heap.size w w2) := HB1.out.trans (hb.mono HB1.out.size)
          clear hb HX1 HB1
          have c1 : w2.cell? ⟨w.heap.size, 0, none⟩ = some (.int .i64 x) := HX2.out.cell 0
          have c2 : w2.cell? ⟨w.heap.size, 1, none⟩ = some (.int .i64 y) := HX2.out.cell 1
          go_wp2_with fail
          refine (HFq.out _).mono ?_
          rintro e w3 ⟨rfl, hb⟩
          clear c1 c2
          have HX3 : Hid (HasBox w3 w.heap.size 23 #[.int .i64 x, .int .i64 y]) := HX2.out.below hb
          have HB3 : Hid (Below w.heap.size w w3) := HB2.out.trans (hb.mono HB2.out.size)
          clear hb HX2 HB2
          have c1 : w3.cell? ⟨w.heap.size, 0, none⟩ = some (.int .i64 x) := HX3.out.cell 0
          have c2 : w3.cell? ⟨w.heap.size, 1, none⟩ = some (.int .i64 y) := HX3.out.cell 1
          go_wp2_with fail
          refine (HFp.out _).mono ?_
          rintro e w4 ⟨rfl, hb⟩
          clear c1 c2
          have HX4 : Hid (HasBox w4 w.heap.size 23 #[.int .i64 x, .int .i64 y]) := HX3.out.below hb
          have HB4 : Hid (Below w.heap.size w w4) := HB3.out.trans (hb.mono HB3.out.size)
          clear hb HX3 HB3
          have c1 : w4.cell? ⟨w.heap.size, 0, none⟩ = some (.int .i64 x) := HX4.out.cell 0
          have c2 : w4.cell? ⟨w.heap.size, 1, none⟩ = some (.int .i64 y) := HX4.out.cell 1
          go_wp2_with fail
          refine (HF0.out _).mono ?_
          rintro e w5 ⟨rfl, hb⟩
          clear c1 c2
          have HX5 : Hid (HasBox w5 w.heap.size 23 #[.int .i64 x, .int .i64 y]) := HX4.out.below hb
          have HB5 : Hid (Below w.heap.size w w5) := HB4.out.trans (hb.mono HB4.out.size)
          clear hb HX4 HB4
          have c1 : w5.cell? ⟨w.heap.size, 0, none⟩ = some (.int .i64 x) := HX5.out.cell 0
          have c2 : w5.cell? ⟨w.heap.size, 1, none⟩ = some (.int .i64 y) := HX5.out.cell 1
          go_wp2_with fail
          refine (HA.out _).mono ?_
          rintro e w6 ⟨rfl, hb⟩
          clear c1 c2
          have HX6 : Hid (HasBox w6 w.heap.size 23 #[.int .i64 x, .int .i64 y]) := HX5.out.below hb
          have HB6 : Hid (Below w.heap.size w w6) := HB5.out.trans (hb.mono HB5.out.size)
          clear hb HX5 HB5
          go_wp2
          go_ret
          exact ⟨rfl, HB6.out⟩
        · have m1 : (b.all == 0) = false := by simp [n1]
          clear n1
          have HFh : Hid (∀ W : World, Calls Try.prog 15 #[bval b, .int .i64 100] W fun e w' => e = .returned (.bool true) ∧ Below W.heap.size W w') := fun W => by have := kFail_any b 100 (by omega) W; rw [n3] at this; exact this
          clear n3
          obtain ⟨x, y⟩ := b
          unfold bval bcells at HMh HrMh HF0 HFq HFp HFh ⊢
          simp only at HMh HrMh HF0 HFq HFp HFh e3 m1 n2 ⊢
          go_enter Try.func5, Try.ntmps5
          go_upto_region 1 with fail
          generalize hW0 : w.alloc _ = w0
          have HX0 : Hid (HasBox w0 w.heap.size 23 #[.int .i64 x, .int .i64 y]) := by show HasBox _ _ _ _; rw [← hW0]; exact hasBox_new w _ _
          have HB0 : Hid (Below w.heap.size w w0) := by show Below _ _ _; rw [← hW0]; exact (Below.refl _ _).alloc (Nat.le_refl _) _
          clear hW0
          have c1 : w0.cell? ⟨w.heap.size, 0, none⟩ = some (.int .i64 x) := HX0.out.cell 0
          have c2 : w0.cell? ⟨w.heap.size, 1, none⟩ = some (.int .i64 y) := HX0.out.cell 1
          go_wp2_with fail
          refine (HMh.out _).mono ?_
          rintro e w1 ⟨rfl, hb⟩
          clear c1 c2
          have HX1 : Hid (HasBox w1 w.heap.size 23 #[.int .i64 x, .int .i64 y]) := HX0.out.below hb
          have HB1 : Hid (Below w.heap.size w w1) := HB0.out.trans (hb.mono HB0.out.size)
          clear hb HX0 HB0
          have c1 : w1.cell? ⟨w.heap.size, 0, none⟩ = some (.int .i64 x) := HX1.out.cell 0
          have c2 : w1.cell? ⟨w.heap.size, 1, none⟩ = some (.int .i64 y) := HX1.out.cell 1
          go_wp2_with fail
          refine (HrMh.out _).mono ?_
          rintro e w2 ⟨rfl, hb⟩
          clear c1 c2
          have HX2 : Hid (HasBox w2 w.heap.size 23 #[.int .i64 x, .int .i64 y]) := HX1.out.below hb
          have HB2 : Hid (Below w.heap.size w w2) := HB1.out.trans (hb.mono HB1.out.size)
          clear hb HX1 HB1
          have c1 : w2.cell? ⟨w.heap.size, 0, none⟩ = some (.int .i64 x) := HX2.out.cell 0
          have c2 : w2.cell? ⟨w.heap.size, 1, none⟩ = some (.int .i64 y) := HX2.out.cell 1
          go_wp2_with fail
          refine (HFq.out _).mono ?_
          rintro e w3 ⟨rfl, hb⟩
          clear c1 c2
          have HX3 : Hid (HasBox w3 w.heap.size 23 #[.int .i64 x, .int .i64 y]) := HX2.out.below hb
          have HB3 : Hid (Below w.heap.size w w3) := HB2.out.trans (hb.mono HB2.out.size)
          clear hb HX2 HB2
          have c1 : w3.cell? ⟨w.heap.size, 0, none⟩ = some (.int .i64 x) := HX3.out.cell 0
          have c2 : w3.cell? ⟨w.heap.size, 1, none⟩ = some (.int .i64 y) := HX3.out.cell 1
          go_wp2_with fail
          refine (HFp.out _).mono ?_
          rintro e w4 ⟨rfl, hb⟩
          clear c1 c2
          have HX4 : Hid (HasBox w4 w.heap.size 23 #[.int .i64 x, .int .i64 y]) := HX3.out.below hb
          have HB4 : Hid (Below w.heap.size w w4) := HB3.out.trans (hb.mono HB3.out.size)
          clear hb HX3 HB3
          have c1 : w4.cell? ⟨w.heap.size, 0, none⟩ = some (.int .i64 x) := HX4.out.cell 0
          have c2 : w4.cell? ⟨w.heap.size, 1, none⟩ = some (.int .i64 y) := HX4.out.cell 1
          go_wp2_with fail
          refine (HF0.out _).mono ?_
          rintro e w5 ⟨rfl, hb⟩
          clear c1 c2
          have HX5 : Hid (HasBox w5 w.heap.size 23 #[.int .i64 x, .int .i64 y]) := HX4.out.below hb
          have HB5 : Hid (Below w.heap.size w w5) := HB4.out.trans (hb.mono HB4.out.size)
          clear hb HX4 HB4
          have c1 : w5.cell? ⟨w.heap.size, 0, none⟩ = some (.int .i64 x) := HX5.out.cell 0
          have c2 : w5.cell? ⟨w.heap.size, 1, none⟩ = some (.int .i64 y) := HX5.out.cell 1
          go_wp2_with fail
          refine (HFh.out _).mono ?_
          rintro e w6 ⟨rfl, hb⟩
          clear c1 c2
          have HX6 : Hid (HasBox w6 w.heap.size 23 #[.int .i64 x, .int .i64 y]) := HX5.out.below hb
          have HB6 : Hid (Below w.heap.size w w6) := HB5.out.trans (hb.mono HB5.out.size)
          clear hb HX5 HB5
          have c1 : w6.cell? ⟨w.heap.size, 0, none⟩ = some (.int .i64 x) := HX6.out.cell 0
          have c2 : w6.cell? ⟨w.heap.size, 1, none⟩ = some (.int .i64 y) := HX6.out.cell 1
          go_wp2_with fail
          refine (HA.out _).mono ?_
          rintro e w7 ⟨rfl, hb⟩
          clear c1 c2
          have HX7 : Hid (HasBox w7 w.heap.size 23 #[.int .i64 x, .int .i64 y]) := HX6.out.below hb
          have HB7 : Hid (Below w.heap.size w w7) := HB6.out.trans (hb.mono HB6.out.size)
          clear hb HX6 HB6
          go_wp2
          go_ret
          exact ⟨rfl, HB7.out⟩
      · have HFq := HF' _ d1
        clear HF' HG' d1
        have e3 : (b.ok == b.all) = false := by simp [d3]
        clear d3
        rcases hn with n1 | ⟨n1, n2⟩ | ⟨n1, n2, n3⟩
        · have m1 : (b.all == 0) = true := by simp [n1]
          clear n1
          obtain ⟨x, y⟩ := b
          unfold bval bcells at HMh HrMh HF0 HFq ⊢
          simp only at HMh HrMh HF0 HFq e3 m1 ⊢
          go_enter Try.func5, Try.ntmps5
          go_upto_region 1 with fail
          generalize hW0 : w.alloc _ = w0
          have HX0 : Hid (HasBox w0 w.heap.size 23 #[.int .i64 x, .int .i64 y]) := by show HasBox _ _ _ _; rw [← hW0]; exact hasBox_new w _ _
          have HB0 : Hid (Below w.heap.size w w0) := by show Below _ _ _; rw [← hW0]; exact (Below.refl _ _).alloc (Nat.le_refl _) _
          clear hW0
          have c1 : w0.cell? ⟨w.heap.size, 0, none⟩ = some (.int .i64 x) := HX0.out.cell 0
          have c2 : w0.cell? ⟨w.heap.size, 1, none⟩ = some (.int .i64 y) := HX0.out.cell 1
          go_wp2_with fail
          refine (HMh.out _).mono ?_
          rintro e w1 ⟨rfl, hb⟩
          clear c1 c2
          have HX1 : Hid (HasBox w1 w.heap.size 23 #[.int .i64 x, .int .i64 y]) := HX0.out.below hb
          have HB1 : Hid (Below w.heap.size w w1) := HB0.out.trans (hb.mono HB0.out.size)
          clear hb HX0 HB0
          have c1 : w1.cell? ⟨w.heap.size, 0, none⟩ = some (.int .i64 x) := HX1.out.cell 0
          have c2 : w1.cell? ⟨w.heap.size, 1, none⟩ = some (.int .i64 y) := HX1.out.cell 1
          go_wp2_with fail
          refine (HrMh.out _).mono ?_
          rintro e w2 ⟨rfl, hb⟩
          clear c1 c2
          have HX2 : Hid (HasBox w2 w.heap.size 23 #[.int .i64 x, .int .i64 y]) := HX1.out.below hb
          have HB2 : Hid (Below w.heap.size w w2) := HB1.out.trans (hb.mono HB1.out.size)
          clear hb HX1 HB1
          have c1 : w2.cell? ⟨w.heap.size, 0, none⟩ = some (.int .i64 x) := HX2.out.cell 0
          have c2 : w2.cell? ⟨w.heap.size, 1, none⟩ = some (.int .i64 y) := HX2.out.cell 1
          go_wp2_with fail
          refine (HFq.out _).mono ?_
          rintro e w3 ⟨rfl, hb⟩
          clear c1 c2
          have HX3 : Hid (HasBox w3 w.heap.size 23 #[.int .i64 x, .int .i64 y]) := HX2.out.below hb
          have HB3 : Hid (Below w.heap.size w w3) := HB2.out.trans (hb.mono HB2.out.size)
          clear hb HX2 HB2
          have c1 : w3.cell? ⟨w.heap.size, 0, none⟩ = some (.int .i64 x) := HX3.out.cell 0
          have c2 : w3.cell? ⟨w.heap.size, 1, none⟩ = some (.int .i64 y) := HX3.out.cell 1
          go_wp2_with fail
          refine (HF0.out _).mono ?_
          rintro e w4 ⟨rfl, hb⟩
          clear c1 c2
          have HX4 : Hid (HasBox w4 w.heap.size 23 #[.int .i64 x, .int .i64 y]) := HX3.out.below hb
          have HB4 : Hid (Below w.heap.size w w4) := HB3.out.trans (hb.mono HB3.out.size)
          clear hb HX3 HB3
          have c1 : w4.cell? ⟨w.heap.size, 0, none⟩ = some (.int .i64 x) := HX4.out.cell 0
          have c2 : w4.cell? ⟨w.heap.size, 1, none⟩ = some (.int .i64 y) := HX4.out.cell 1
          go_wp2_with fail
          refine (HA.out _).mono ?_
          rintro e w5 ⟨rfl, hb⟩
          clear c1 c2
          have HX5 : Hid (HasBox w5 w.heap.size 23 #[.int .i64 x, .int .i64 y]) := HX4.out.below hb
          have HB5 : Hid (Below w.heap.size w w5) := HB4.out.trans (hb.mono HB4.out.size)
          clear hb HX4 HB4
          go_wp2
          go_ret
          exact ⟨rfl, HB5.out⟩
        · have m1 : (b.all == 0) = false := by simp [n1]
          clear n1
          obtain ⟨x, y⟩ := b
          unfold bval bcells at HMh HrMh HF0 HFq ⊢
          simp only at HMh HrMh HF0 HFq e3 m1 n2 ⊢
          go_enter Try.func5, Try.ntmps5
          go_upto_region 1 with fail
          generalize hW0 : w.alloc _ = w0
          have HX0 : Hid (HasBox w0 w.heap.size 23 #[.int .i64 x, .int .i64 y]) := by show HasBox _ _ _ _; rw [← hW0]; exact hasBox_new w _ _
          have HB0 : Hid (Below w.heap.size w w0) := by show Below _ _ _; rw [← hW0]; exact (Below.refl _ _).alloc (Nat.le_refl _) _
          clear hW0
          have c1 : w0.cell? ⟨w.heap.size, 0, none⟩ = some (.int .i64 x) := HX0.out.cell 0
          have c2 : w0.cell? ⟨w.heap.size, 1, none⟩ = some (.int .i64 y) := HX0.out.cell 1
          go_wp2_with fail
          refine (HMh.out _).mono ?_
          rintro e w1 ⟨rfl, hb⟩
          clear c1 c2
          have HX1 : Hid (HasBox w1 w.heap.size 23 #[.int .i64 x, .int .i64 y]) := HX0.out.below hb
          have HB1 : Hid (Below w.heap.size w w1) := HB0.out.trans (hb.mono HB0.out.size)
          clear hb HX0 HB0
          have c1 : w1.cell? ⟨w.heap.size, 0, none⟩ = some (.int .i64 x) := HX1.out.cell 0
          have c2 : w1.cell? ⟨w.heap.size, 1, none⟩ = some (.int .i64 y) := HX1.out.cell 1
          go_wp2_with fail
          refine (HrMh.out _).mono ?_
          rintro e w2 ⟨rfl, hb⟩
          clear c1 c2
          have HX2 : Hid (HasBox w2 w.heap.size 23 #[.int .i64 x, .int .i64 y]) := HX1.out.below hb
          have HB2 : Hid (Below w.heap.size w w2) := HB1.out.trans (hb.mono HB1.out.size)
          clear hb HX1 HB1
          have c1 : w2.cell? ⟨w.heap.size, 0, none⟩ = some (.int .i64 x) := HX2.out.cell 0
          have c2 : w2.cell? ⟨w.heap.size, 1, none⟩ = some (.int .i64 y) := HX2.out.cell 1
          go_wp2_with fail
          refine (HFq.out _).mono ?_
          rintro e w3 ⟨rfl, hb⟩
          clear c1 c2
          have HX3 : Hid (HasBox w3 w.heap.size 23 #[.int .i64 x, .int .i64 y]) := HX2.out.below hb
          have HB3 : Hid (Below w.heap.size w w3) := HB2.out.trans (hb.mono HB2.out.size)
          clear hb HX2 HB2
          have c1 : w3.cell? ⟨w.heap.size, 0, none⟩ = some (.int .i64 x) := HX3.out.cell 0
          have c2 : w3.cell? ⟨w.heap.size, 1, none⟩ = some (.int .i64 y) := HX3.out.cell 1
          go_wp2_with fail
          refine (HF0.out _).mono ?_
          rintro e w4 ⟨rfl, hb⟩
          clear c1 c2
          have HX4 : Hid (HasBox w4 w.heap.size 23 #[.int .i64 x, .int .i64 y]) := HX3.out.below hb
          have HB4 : Hid (Below w.heap.size w w4) := HB3.out.trans (hb.mono HB3.out.size)
          clear hb HX3 HB3
          have c1 : w4.cell? ⟨w.heap.size, 0, none⟩ = some (.int .i64 x) := HX4.out.cell 0
          have c2 : w4.cell? ⟨w.heap.size, 1, none⟩ = some (.int .i64 y) := HX4.out.cell 1
          go_wp2_with fail
          refine (HA.out _).mono ?_
          rintro e w5 ⟨rfl, hb⟩
          clear c1 c2
          have HX5 : Hid (HasBox w5 w.heap.size 23 #[.int .i64 x, .int .i64 y]) := HX4.out.below hb
          have HB5 : Hid (Below w.heap.size w w5) := HB4.out.trans (hb.mono HB4.out.size)
          clear hb HX4 HB4
          go_wp2
          go_ret
          exact ⟨rfl, HB5.out⟩
        · have m1 : (b.all == 0) = false := by simp [n1]
          clear n1
          have HFh : Hid (∀ W : World, Calls Try.prog 15 #[bval b, .int .i64 100] W fun e w' => e = .returned (.bool true) ∧ Below W.heap.size W w') := fun W => by have := kFail_any b 100 (by omega) W; rw [n3] at this; exact this
          clear n3
          obtain ⟨x, y⟩ := b
          unfold bval bcells at HMh HrMh HF0 HFq HFh ⊢
          simp only at HMh HrMh HF0 HFq HFh e3 m1 n2 ⊢
          go_enter Try.func5, Try.ntmps5
          go_upto_region 1 with fail
          generalize hW0 : w.alloc _ = w0
          have HX0 : Hid (HasBox w0 w.heap.size 23 #[.int .i64 x, .int .i64 y]) := by show HasBox _ _ _ _; rw [← hW0]; exact hasBox_new w _ _
          have HB0 : Hid (Below w.heap.size w w0) := by show Below _ _ _; rw [← hW0]; exact (Below.refl _ _).alloc (Nat.le_refl _) _
          clear hW0
          have c1 : w0.cell? ⟨w.heap.size, 0, none⟩ = some (.int .i64 x) := HX0.out.cell 0
          have c2 : w0.cell? ⟨w.heap.size, 1, none⟩ = some (.int .i64 y) := HX0.out.cell 1
          go_wp2_with fail
          refine (HMh.out _).mono ?_
          rintro e w1 ⟨rfl, hb⟩
          clear c1 c2
          have HX1 : Hid (HasBox w1 w.heap.size 23 #[.int .i64 x, .int .i64 y]) := HX0.out.below hb
          have HB1 : Hid (Below w.heap.size w w1) := HB0.out.trans (hb.mono HB0.out.size)
          clear hb HX0 HB0
          have c1 : w1.cell? ⟨w.heap.size, 0, none⟩ = some (.int .i64 x) := HX1.out.cell 0
          have c2 : w1.cell? ⟨w.heap.size, 1, none⟩ = some (.int .i64 y) := HX1.out.cell 1
          go_wp2_with fail
          refine (HrMh.out _).mono ?_
          rintro e w2 ⟨rfl, hb⟩
          clear c1 c2
          have HX2 : Hid (HasBox w2 w.heap.size 23 #[.int .i64 x, .int .i64 y]) := HX1.out.below hb
          have HB2 : Hid (Below w.heap.size w w2) := HB1.out.trans (hb.mono HB1.out.size)
          clear hb HX1 HB1
          have c1 : w2.cell? ⟨w.heap.size, 0, none⟩ = some (.int .i64 x) := HX2.out.cell 0
          have c2 : w2.cell? ⟨w.heap.size, 1, none⟩ = some (.int .i64 y) := HX2.out.cell 1
          go_wp2_with fail
          refine (HFq.out _).mono ?_
          rintro e w3 ⟨rfl, hb⟩
          clear c1 c2
          have HX3 : Hid (HasBox w3 w.heap.size 23 #[.int .i64 x, .int .i64 y]) := HX2.out.below hb
          have HB3 : Hid (Below w.heap.size w w3) := HB2.out.trans (hb.mono HB2.out.size)
          clear hb HX2 HB2
          have c1 : w3.cell? ⟨w.heap.size, 0, none⟩ = some (.int .i64 x) := HX3.out.cell 0
          have c2 : w3.cell? ⟨w.heap.size, 1, none⟩ = some (.int .i64 y) := HX3.out.cell 1
          go_wp2_with fail
          refine (HF0.out _).mono ?_
          rintro e w4 ⟨rfl, hb⟩
          clear c1 c2
          have HX4 : Hid (HasBox w4 w.heap.size 23 #[.int .i64 x, .int .i64 y]) := HX3.out.below hb
          have HB4 : Hid (Below w.heap.size w w4) := HB3.out.trans (hb.mono HB3.out.size)
          clear hb HX3 HB3
          have c1 : w4.cell? ⟨w.heap.size, 0, none⟩ = some (.int .i64 x) := HX4.out.cell 0
          have c2 : w4.cell? ⟨w.heap.size, 1, none⟩ = some (.int .i64 y) := HX4.out.cell 1
          go_wp2_with fail
          refine (HFh.out _).mono ?_
          rintro e w5 ⟨rfl, hb⟩
          clear c1 c2
          have HX5 : Hid (HasBox w5 w.heap.size 23 #[.int .i64 x, .int .i64 y]) := HX4.out.below hb
          have HB5 : Hid (Below w.heap.size w w5) := HB4.out.trans (hb.mono HB4.out.size)
          clear hb HX4 HB4
          have c1 : w5.cell? ⟨w.heap.size, 0, none⟩ = some (.int .i64 x) := HX5.out.cell 0
          have c2 : w5.cell? ⟨w.heap.size, 1, none⟩ = some (.int .i64 y) := HX5.out.cell 1
          go_wp2_with fail
          refine (HA.out _).mono ?_
          rintro e w6 ⟨rfl, hb⟩
          clear c1 c2
          have HX6 : Hid (HasBox w6 w.heap.size 23 #[.int .i64 x, .int .i64 y]) := HX5.out.below hb
          have HB6 : Hid (Below w.heap.size w w6) := HB5.out.trans (hb.mono HB5.out.size)
          clear hb HX5 HB5
          go_wp2
          go_ret
          exact ⟨rfl, HB6.out⟩
  · have h0 : mayK b = false := by simpa using hm
    have hc := countsK_off h0
    rw [h0] at HM
    have HMh : Hid _ := HM
    have HFp : Hid (∀ W : World, Calls Try.prog 15 #[bval b, .int .i64 p] W fun e w' => e = .returned (.bool false) ∧ Below W.heap.size W w') := HF p false wp.2 (by unfold failK; rw [hc, Bool.false_and])
    have HE : Hid (∀ W : World, Calls Try.prog 13 #[bval b, .int .i64 p] W fun e w' => e = .returned (.bool false) ∧ Below W.heap.size W w') := fun W => by
      have := kEnough_any b p W
      rw [show enoughK b p = false by unfold enoughK; rw [hc, Bool.false_and]] at this
      exact this
    have HR : Hid (∀ W : World, Calls Try.prog 11 #[bval b] W fun e w' => e = .returned (.int .i64 0) ∧ Below W.heap.size W w') := fun W => by
      have := kRate_any b hb0 W
      rw [show rateK b = 0 by unfold rateK; rw [hc]; rfl] at this
      exact this
    clear wp hm h0 hc HM HrM HF hb0
    obtain ⟨x, y⟩ := b
    unfold bval bcells at HMh HFp HE HR ⊢
    simp only at HMh HFp HE HR ⊢
    go_enter Try.func5, Try.ntmps5
    go_upto_region 1 with fail
    generalize hW0 : w.alloc _ = w0
    have HX0 : Hid (HasBox w0 w.heap.size 23 #[.int .i64 x, .int .i64 y]) := by show HasBox _ _ _ _; rw [← hW0]; exact hasBox_new w _ _
    have HB0 : Hid (Below w.heap.size w w0) := by show Below _ _ _; rw [← hW0]; exact (Below.refl _ _).alloc (Nat.le_refl _) _
    clear hW0
    have c1 : w0.cell? ⟨w.heap.size, 0, none⟩ = some (.int .i64 x) := HX0.out.cell 0
    have c2 : w0.cell? ⟨w.heap.size, 1, none⟩ = some (.int .i64 y) := HX0.out.cell 1
    go_wp2_with fail
    refine (HMh.out _).mono ?_
    rintro e w1 ⟨rfl, hb⟩
    clear c1 c2
    have HX1 : Hid (HasBox w1 w.heap.size 23 #[.int .i64 x, .int .i64 y]) := HX0.out.below hb
    have HB1 : Hid (Below w.heap.size w w1) := HB0.out.trans (hb.mono HB0.out.size)
    clear hb HX0 HB0
    have c1 : w1.cell? ⟨w.heap.size, 0, none⟩ = some (.int .i64 x) := HX1.out.cell 0
    have c2 : w1.cell? ⟨w.heap.size, 1, none⟩ = some (.int .i64 y) := HX1.out.cell 1
    go_wp2_with fail
    refine (HFp.out _).mono ?_
    rintro e w2 ⟨rfl, hb⟩
    clear c1 c2
    have HX2 : Hid (HasBox w2 w.heap.size 23 #[.int .i64 x, .int .i64 y]) := HX1.out.below hb
    have HB2 : Hid (Below w.heap.size w w2) := HB1.out.trans (hb.mono HB1.out.size)
    clear hb HX1 HB1
    have c1 : w2.cell? ⟨w.heap.size, 0, none⟩ = some (.int .i64 x) := HX2.out.cell 0
    have c2 : w2.cell? ⟨w.heap.size, 1, none⟩ = some (.int .i64 y) := HX2.out.cell 1
    go_wp2_with fail
    refine (HE.out _).mono ?_
    rintro e w3 ⟨rfl, hb⟩
    clear c1 c2
    have HX3 : Hid (HasBox w3 w.heap.size 23 #[.int .i64 x, .int .i64 y]) := HX2.out.below hb
    have HB3 : Hid (Below w.heap.size w w3) := HB2.out.trans (hb.mono HB2.out.size)
    clear hb HX2 HB2
    have c1 : w3.cell? ⟨w.heap.size, 0, none⟩ = some (.int .i64 x) := HX3.out.cell 0
    have c2 : w3.cell? ⟨w.heap.size, 1, none⟩ = some (.int .i64 y) := HX3.out.cell 1
    go_wp2_with fail
    refine (HR.out _).mono ?_
    rintro e w4 ⟨rfl, hb⟩
    clear c1 c2
    have HX4 : Hid (HasBox w4 w.heap.size 23 #[.int .i64 x, .int .i64 y]) := HX3.out.below hb
    have HB4 : Hid (Below w.heap.size w w4) := HB3.out.trans (hb.mono HB3.out.size)
    clear hb HX3 HB3
    have c1 : w4.cell? ⟨w.heap.size, 0, none⟩ = some (.int .i64 x) := HX4.out.cell 0
    have c2 : w4.cell? ⟨w.heap.size, 1, none⟩ = some (.int .i64 y) := HX4.out.cell 1
    go_wp2_with fail
    refine (HA.out _).mono ?_
    rintro e w5 ⟨rfl, hb⟩
    clear c1 c2
    have HX5 : Hid (HasBox w5 w.heap.size 23 #[.int .i64 x, .int .i64 y]) := HX4.out.below hb
    have HB5 : Hid (Below w.heap.size w w5) := HB4.out.trans (hb.mono HB4.out.size)
    clear hb HX4 HB4
    go_wp2
    go_ret
    exact ⟨rfl, HB5.out⟩

set_option maxRecDepth 100000 in
theorem lifted_BucketFails (os : Os) (started : os.Started) (H : Type) (enc : TypeId × Value → H) :
    ReturnsInHanded {} Try.checked os 5 .any (Rows.bucketFailsSpec.pre6 enc Try.prog Try.f5 Rows.bucketFailsRow.domain false) (Rows.bucketFailsSpec.post enc Try.prog Try.f5 false true false false) := by
  refine returnsInHanded_of_change (C := Try.checked) own started (by kernel_rfl) Try.func5
    (ChangeSpec.witness6 (enc := enc) (C := Try.checked) false ⟨#[], #[.agg #[.int .i64 0, .int .i64 0], .int .i64 0, .int .i64 0], []⟩ 8 (by kernel_rfl) (by kernel_rfl) (by kernel_rfl) (by kernel_rfl)) ?_
  intro W base args ds gs before hval0 hW hcnd _
  have hval : ∀ (j : Nat) t v, Try.f5.params[j]? = some t → args[j]? = some v → Value.okWide Try.prog W .any base t v := hval0
  have hW' := hW
  obtain ⟨p, q, hA0, hV, rfl, hfz, hnd⟩ := hW
  have hA : DataW.TrodAll enc Try.prog W 0 (fun _ => true) true Try.f5.params.toList args.toList ds p := hA0
  rw [Try.params5] at hA hval
  obtain ⟨v0, vs0, d0, ds0, p0, q0, hargs, rfl, rfl, h0, r0⟩ := trodAll_cons hA
  obtain ⟨v1, vs1, d1, ds1, p1, q1, rfl, rfl, rfl, h1, r1⟩ := trodAll_cons r0
  obtain ⟨v2, vs2, d2, ds2, p2, q2, rfl, rfl, rfl, h2, r2⟩ := trodAll_cons r1
  obtain ⟨rfl, rfl, rfl⟩ := trodAll_nil r2
  obtain rfl : args = #[v0, v1, v2] := by cases args; simp_all
  obtain ⟨rfl, rfl⟩ := trodVars_none hV
  have k0 := h0
  have lt0 : ∀ x ∈ p0, x.block < W.heap.size := by obtain ⟨m, hm⟩ := k0; exact DataW.trod_lt m _ _ _ hm
  obtain ⟨z0, rfl, w0⟩ := open_bucket (hval 0 23 v0 rfl rfl) h0
  obtain ⟨a1, rfl, rfl, rfl, w1⟩ := open_int Try.underlying3 (hval 1 3 v1 rfl rfl) h1
  obtain ⟨a2, rfl, rfl, rfl, w2⟩ := open_int Try.underlying3 (hval 2 3 v2 rfl rfl) h2
  clear hA0 hval0
  refine (walk_BucketFails z0 w0 a1 (wf_i64 w1) a2 (wf_i64 w2) W).mono fun e W' ⟨he, bel⟩ => ?_
  subst he
  exact ⟨_, rfl, _, _, _, [], _, [], hW', trodAll_mk1 (shut_bool Try.underlying4 _), (trodAll_cons_mk (Below.trod laidOut (by kernel_rfl) (of_decide_eq_true (by kernel_rfl)) k0 bel lt0) (trodAll_cons_mk (shut_int Try.underlying3 w1) (trodAll_cons_mk (shut_int Try.underlying3 w2) trodAll_mk0))), rfl, bel.frame _, fun h => by cases h⟩

theorem over_BucketFails : Rows.bucketFailsRow.holds Try.pinned (OpenSpec.ofChange Rows.bucketFailsSpec) :=
  OpenClaim.holds_of_wide 5 Try.f5 rfl rfl rfl rfl rfl rfl rfl ⟨rfl, rfl, rfl, rfl, rfl⟩ rfl rfl rfl rfl rfl (by kernel_rfl) Try.func5 (by kernel_rfl)
    (of_decide_eq_true (by kernel_rfl)) (by unfold Func.isWrapper; first | (rw [if_pos (by decide +kernel)]; kernel_rfl) | (rw [if_neg (by decide +kernel)]; exact ⟨rfl, rfl⟩))
    (fun os started H enc _ => lifted_BucketFails os started H enc)

/-- The statement. -/
theorem bucketFails_holds : Rows.BucketFailsSaid := over_BucketFails
#print axioms bucketFails_holds

end Go.Proofs.Ythoecpciiphofaa

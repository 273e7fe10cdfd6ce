/-
  BucketForms, for every bucket and numbers: Note, May, Rate, Enough and Failing are what the document says. No condition on the call.
-/
import Derived.Test.YthoecpciiphofaaBucketFrame
import Derived.Test.YthoecpciiphofaaRefBucket
import Derived.Test.YthoecpciiphofaaRel6
namespace Go.Proofs.Ythoecpciiphofaa
open Go.ChangeShapes Go.WideShapes Go.ChangeAt Go.RowKit
open Go.ChangeMaps (open_string shut_string)

set_option maxRecDepth 100000 in
set_option maxHeartbeats 8000000 in
theorem walk_BucketForms (b : Bk) (hb0 : inK b) (ok : Bool) (n : Int) (_ : -9223372036854775808 ≤ n ∧ n ≤ 9223372036854775807) (p : Int) (wp : -9223372036854775808 ≤ p ∧ p ≤ 9223372036854775807) (w : World) :
    Calls Try.prog 3 #[bval b, .bool ok, .int .i64 n, .int .i64 p] w fun e w' => e = .returned (.bool true) ∧ Below w.heap.size w w' := by
  have hp := wp.2
  have HN : ∀ W : World, Calls Try.prog 7 #[bval b, .bool ok] W fun e w' => e = .returned (bval (noteK b ok)) ∧ Below W.heap.size W w' := kNote_any b ok
  have HrN : ∀ W : World, Calls Try.prog 8 #[bval b, .bool ok] W fun e w' => e = .returned (bval (noteK b ok)) ∧ Below W.heap.size W w' := rkNote_any b ok
  have HM : ∀ W : World, Calls Try.prog 9 #[bval b] W fun e w' => e = .returned (.bool (mayK b)) ∧ Below W.heap.size W w' := kMay_any b
  have HrM : ∀ W : World, Calls Try.prog 10 #[bval b] W fun e w' => e = .returned (.bool (mayK b)) ∧ Below W.heap.size W w' := rkMay_any b
  have HR : ∀ W : World, Calls Try.prog 11 #[bval b] W fun e w' => e = .returned (.int .i64 (rateK b)) ∧ Below W.heap.size W w' := kRate_any b hb0
  have HrR : ∀ W : World, Calls Try.prog 12 #[bval b] W fun e w' => e = .returned (.int .i64 (rateK b)) ∧ Below W.heap.size W w' := rkRate_any b
  have HE : ∀ W : World, Calls Try.prog 13 #[bval b, .int .i64 n] W fun e w' => e = .returned (.bool (enoughK b n)) ∧ Below W.heap.size W w' := kEnough_any b n
  have HrE : ∀ W : World, Calls Try.prog 14 #[bval b, .int .i64 n] W fun e w' => e = .returned (.bool (enoughK b n)) ∧ Below W.heap.size W w' := rkEnough_any b n
  have HF : ∀ W : World, Calls Try.prog 15 #[bval b, .int .i64 p] W fun e w' => e = .returned (.bool (failK b p)) ∧ Below W.heap.size W w' := kFail_any b p hp
  have HrF : ∀ W : World, Calls Try.prog 16 #[bval b, .int .i64 p] W fun e w' => e = .returned (.bool (failK b p)) ∧ Below W.heap.size W w' := rkFail_any b p hp
  have HA : ∀ W : World, Calls Try.prog 17 #[] W fun e w' => e = .returned (.bool true) ∧ Below W.heap.size W w' := awake12_any
  have HEq : Hid (∀ W : World, (binOp .eql 23 (.agg (bcells (noteK b ok))) (.agg (bcells (noteK b ok)))).run Try.prog W = .ok (.bool true) W) := run_eqK_same _
  have HI : Hid ((Try.prog.info? 23).map (·.size) = some (bcells b).size) := infoBucket
  unfold bval at HN HrN HM HrM HR HrR HE HrE HF HrF ⊢
  clear hp wp hb0
  generalize bcells (noteK b ok) = ds at HN HrN HEq
  generalize mayK b = m at HM HrM
  generalize rateK b = r at HR HrR
  generalize enoughK b n = e at HE HrE
  generalize failK b p = f at HF HrF
  generalize bcells b = cs at HN HrN HM HrM HR HrR HE HrE HF HrF HI ⊢
  go_enter Try.func3, Try.ntmps3
  go_upto_region 1 with fail
  generalize hW0 : w.alloc _ = W0
  have HC : ∀ W, Below W0.heap.size W0 W → HasBox W w.heap.size 23 cs := fun W h => HasBox.below (by rw [← hW0]; exact hasBox_new w _ _) h
  have HB0 : Hid (Below w.heap.size w W0) := by show Below _ _ _; rw [← hW0]; exact (Below.refl _ _).alloc (Nat.le_refl _) _
  clear hW0
  refine wp_region_mp ([eqP (.agg cs), eqP (.bool ok), eqP (.agg ds), eqP (.agg cs), eqP (.bool ok), eqP (.agg ds), eqP (.bool true), eqP (.bool true), eqP (.agg cs), eqP (.bool m), eqP (.agg cs), eqP (.bool m), eqP (.bool true), eqP (.bool true), eqP (.bool true), eqP (.agg cs), eqP (.int .i64 r), eqP (.agg cs), eqP (.int .i64 r), eqP (.bool true), eqP (.bool true), eqP (.bool true), eqP (.agg cs), eqP (.int .i64 n), eqP (.bool e), eqP (.agg cs), eqP (.int .i64 n), eqP (.bool e), eqP (.bool true), eqP (.bool true), eqP (.bool true), eqP (.agg cs), eqP (.int .i64 p), eqP (.bool f), eqP (.agg cs), eqP (.int .i64 p), eqP (.bool f), eqP (.bool true), eqP (.bool true), eqP (.bool true), eqP (.bool true), eqP (.bool true), eqP (.bool true)]) (by kernel_rfl) (by kernel_rfl) ?_ ?_
  · simp only [stepsAll3]
    refine ⟨fun a W hF hE hd => ?_, fun a W hF hE hd => ?_, fun a W hF hE hd => ?_, fun a W hF hE hd => ?_, fun a W hF hE hd => ?_, fun a W hF hE hd => ?_, fun a W hF hE hd => ?_, fun a W hF hE hd => ?_, fun a W hF hE hd => ?_, fun a W hF hE hd => ?_, fun a W hF hE hd => ?_, fun a W hF hE hd => ?_, fun a W hF hE hd => ?_, fun a W hF hE hd => ?_, fun a W hF hE hd => ?_, fun a W hF hE hd => ?_, fun a W hF hE hd => ?_, fun a W hF hE hd => ?_, fun a W hF hE hd => ?_, fun a W hF hE hd => ?_, fun a W hF hE hd => ?_, fun a W hF hE hd => ?_, fun a W hF hE hd => ?_, fun a W hF hE hd => ?_, fun a W hF hE hd => ?_, fun a W hF hE hd => ?_, fun a W hF hE hd => ?_, fun a W hF hE hd => ?_, fun a W hF hE hd => ?_, fun a W hF hE hd => ?_, fun a W hF hE hd => ?_, fun a W hF hE hd => ?_, fun a W hF hE hd => ?_, fun a W hF hE hd => ?_, fun a W hF hE hd => ?_, fun a W hF hE hd => ?_, fun a W hF hE hd => ?_, fun a W hF hE hd => ?_, fun a W hF hE hd => ?_, fun a W hF hE hd => ?_, fun a W hF hE hd => ?_, fun a W hF hE hd => ?_, fun a W hF hE hd => ?_, trivial⟩
    all_goals unfold StepAt
    · have t4 : a.tmps.getD 4 undef = .pointer (some ⟨w.heap.size, 0, none⟩) := hF.at 4 (by kernel_rfl)
      rw [Array.getD_eq_getD_getElem?] at t4
      refine .inl ⟨rfl, ?_⟩
      rw [run_oload _ _ 23 (.tmp 4) rfl w.heap.size (by simpa [Act.eval] using t4) 23 cs (0, 0) _ (HC W hE) Try.underlying23 rfl HI.out]
      exact ⟨Below.refl _ _, rfl⟩
    · have t1 : a.tmps.getD 1 undef = .bool ok := hF.at 1 (by kernel_rfl)
      rw [Array.getD_eq_getD_getElem?] at t1
      refine .inl ⟨rfl, ?_⟩
      go_simp
      exact ⟨Below.refl _ _, rfl⟩
    · have t9 : a.tmps.getD 9 undef = .agg cs := hd { on := 0, ground := .data } (by simp) rfl
      rw [Array.getD_eq_getD_getElem?] at t9
      have t10 : a.tmps.getD 10 undef = .bool ok := hd { on := 1, ground := .data } (by simp) rfl
      rw [Array.getD_eq_getD_getElem?] at t10
      refine .inl ⟨rfl, ?_⟩
      go_simp
      exact (HN W).mono fun e w2 h => ⟨_, h.1, h.2, rfl⟩
    · have t4 : a.tmps.getD 4 undef = .pointer (some ⟨w.heap.size, 0, none⟩) := hF.at 4 (by kernel_rfl)
      rw [Array.getD_eq_getD_getElem?] at t4
      refine .inl ⟨rfl, ?_⟩
      rw [run_oload _ _ 23 (.tmp 4) rfl w.heap.size (by simpa [Act.eval] using t4) 23 cs (0, 0) _ (HC W hE) Try.underlying23 rfl HI.out]
      exact ⟨Below.refl _ _, rfl⟩
    · have t1 : a.tmps.getD 1 undef = .bool ok := hF.at 1 (by kernel_rfl)
      rw [Array.getD_eq_getD_getElem?] at t1
      refine .inl ⟨rfl, ?_⟩
      go_simp
      exact ⟨Below.refl _ _, rfl⟩
    · have t12 : a.tmps.getD 12 undef = .agg cs := hd { on := 3, ground := .data } (by simp) rfl
      rw [Array.getD_eq_getD_getElem?] at t12
      have t13 : a.tmps.getD 13 undef = .bool ok := hd { on := 4, ground := .data } (by simp) rfl
      rw [Array.getD_eq_getD_getElem?] at t13
      refine .inl ⟨rfl, ?_⟩
      go_simp
      exact (HrN W).mono fun e w2 h => ⟨_, h.1, h.2, rfl⟩
    · have t11 : a.tmps.getD 11 undef = .agg ds := hd { on := 2, ground := .data } (by simp) rfl
      rw [Array.getD_eq_getD_getElem?] at t11
      have t14 : a.tmps.getD 14 undef = .agg ds := hd { on := 5, ground := .data } (by simp) rfl
      rw [Array.getD_eq_getD_getElem?] at t14
      refine .inl ⟨rfl, ?_⟩
      have heq := HEq.out
      have hgd := guard_bucket
      go_simp
      exact ⟨Below.refl _ _, rfl⟩
    · have t15 : a.tmps.getD 15 undef = .bool true := hd { on := 6, ground := .data } (by simp) rfl
      rw [Array.getD_eq_getD_getElem?] at t15
      refine .inl ⟨rfl, ?_⟩
      go_simp
      exact ⟨Below.refl _ _, rfl⟩
    · have t4 : a.tmps.getD 4 undef = .pointer (some ⟨w.heap.size, 0, none⟩) := hF.at 4 (by kernel_rfl)
      rw [Array.getD_eq_getD_getElem?] at t4
      have g16 : a.eval (.tmp 16) = .bool true := hd { on := 7, ground := .guard } (by simp) rfl
      refine .inl ⟨(by simp only [Region.wanted]; rw [yielded_of (d := 16) (by rfl) g16]; rfl), ?_⟩
      clear g16
      rw [run_oload _ _ 23 (.tmp 4) rfl w.heap.size (by simpa [Act.eval] using t4) 23 cs (0, 0) _ (HC W hE) Try.underlying23 rfl HI.out]
      exact ⟨Below.refl _ _, rfl⟩
    · have t17 : a.tmps.getD 17 undef = .agg cs := hd { on := 8, ground := .data } (by simp) rfl
      rw [Array.getD_eq_getD_getElem?] at t17
      have g16 : a.eval (.tmp 16) = .bool true := hd { on := 7, ground := .guard } (by simp) rfl
      refine .inl ⟨(by simp only [Region.wanted]; rw [yielded_of (d := 16) (by rfl) g16]; rfl), ?_⟩
      clear g16
      go_simp
      exact (HM W).mono fun e w2 h => ⟨_, h.1, h.2, rfl⟩
    · have t4 : a.tmps.getD 4 undef = .pointer (some ⟨w.heap.size, 0, none⟩) := hF.at 4 (by kernel_rfl)
      rw [Array.getD_eq_getD_getElem?] at t4
      have g16 : a.eval (.tmp 16) = .bool true := hd { on := 7, ground := .guard } (by simp) rfl
      refine .inl ⟨(by simp only [Region.wanted]; rw [yielded_of (d := 16) (by rfl) g16]; rfl), ?_⟩
      clear g16
      rw [run_oload _ _ 23 (.tmp 4) rfl w.heap.size (by simpa [Act.eval] using t4) 23 cs (0, 0) _ (HC W hE) Try.underlying23 rfl HI.out]
      exact ⟨Below.refl _ _, rfl⟩
    · have t19 : a.tmps.getD 19 undef = .agg cs := hd { on := 10, ground := .data } (by simp) rfl
      rw [Array.getD_eq_getD_getElem?] at t19
      have g16 : a.eval (.tmp 16) = .bool true := hd { on := 7, ground := .guard } (by simp) rfl
      refine .inl ⟨(by simp only [Region.wanted]; rw [yielded_of (d := 16) (by rfl) g16]; rfl), ?_⟩
      clear g16
      go_simp
      exact (HrM W).mono fun e w2 h => ⟨_, h.1, h.2, rfl⟩
    · have t18 : a.tmps.getD 18 undef = .bool m := hd { on := 9, ground := .data } (by simp) rfl
      rw [Array.getD_eq_getD_getElem?] at t18
      have t20 : a.tmps.getD 20 undef = .bool m := hd { on := 11, ground := .data } (by simp) rfl
      rw [Array.getD_eq_getD_getElem?] at t20
      have g16 : a.eval (.tmp 16) = .bool true := hd { on := 7, ground := .guard } (by simp) rfl
      refine .inl ⟨(by simp only [Region.wanted]; rw [yielded_of (d := 16) (by rfl) g16]; rfl), ?_⟩
      clear g16
      go_simp
      exact ⟨Below.refl _ _, rfl⟩
    · have t16 : a.tmps.getD 16 undef = .bool true := hd { on := 7, ground := .data } (by simp) rfl
      rw [Array.getD_eq_getD_getElem?] at t16
      have t21 : a.tmps.getD 21 undef = .bool true := hd { on := 12, ground := .data } (by simp) rfl
      rw [Array.getD_eq_getD_getElem?] at t21
      refine .inl ⟨rfl, ?_⟩
      go_simp
      exact ⟨Below.refl _ _, rfl⟩
    · have t22 : a.tmps.getD 22 undef = .bool true := hd { on := 13, ground := .data } (by simp) rfl
      rw [Array.getD_eq_getD_getElem?] at t22
      refine .inl ⟨rfl, ?_⟩
      go_simp
      exact ⟨Below.refl _ _, rfl⟩
    · have t4 : a.tmps.getD 4 undef = .pointer (some ⟨w.heap.size, 0, none⟩) := hF.at 4 (by kernel_rfl)
      rw [Array.getD_eq_getD_getElem?] at t4
      have g23 : a.eval (.tmp 23) = .bool true := hd { on := 14, ground := .guard } (by simp) rfl
      refine .inl ⟨(by simp only [Region.wanted]; rw [yielded_of (d := 23) (by rfl) g23]; rfl), ?_⟩
      clear g23
      rw [run_oload _ _ 23 (.tmp 4) rfl w.heap.size (by simpa [Act.eval] using t4) 23 cs (0, 0) _ (HC W hE) Try.underlying23 rfl HI.out]
      exact ⟨Below.refl _ _, rfl⟩
    · have t24 : a.tmps.getD 24 undef = .agg cs := hd { on := 15, ground := .data } (by simp) rfl
      rw [Array.getD_eq_getD_getElem?] at t24
      have g23 : a.eval (.tmp 23) = .bool true := hd { on := 14, ground := .guard } (by simp) rfl
      refine .inl ⟨(by simp only [Region.wanted]; rw [yielded_of (d := 23) (by rfl) g23]; rfl), ?_⟩
      clear g23
      go_simp
      exact (HR W).mono fun e w2 h => ⟨_, h.1, h.2, rfl⟩
    · have t4 : a.tmps.getD 4 undef = .pointer (some ⟨w.heap.size, 0, none⟩) := hF.at 4 (by kernel_rfl)
      rw [Array.getD_eq_getD_getElem?] at t4
      have g23 : a.eval (.tmp 23) = .bool true := hd { on := 14, ground := .guard } (by simp) rfl
      refine .inl ⟨(by simp only [Region.wanted]; rw [yielded_of (d := 23) (by rfl) g23]; rfl), ?_⟩
      clear g23
      rw [run_oload _ _ 23 (.tmp 4) rfl w.heap.size (by simpa [Act.eval] using t4) 23 cs (0, 0) _ (HC W hE) Try.underlying23 rfl HI.out]
      exact ⟨Below.refl _ _, rfl⟩
    · have t26 : a.tmps.getD 26 undef = .agg cs := hd { on := 17, ground := .data } (by simp) rfl
      rw [Array.getD_eq_getD_getElem?] at t26
      have g23 : a.eval (.tmp 23) = .bool true := hd { on := 14, ground := .guard } (by simp) rfl
      refine .inl ⟨(by simp only [Region.wanted]; rw [yielded_of (d := 23) (by rfl) g23]; rfl), ?_⟩
      clear g23
      go_simp
      exact (HrR W).mono fun e w2 h => ⟨_, h.1, h.2, rfl⟩
    · have t25 : a.tmps.getD 25 undef = .int .i64 r := hd { on := 16, ground := .data } (by simp) rfl
      rw [Array.getD_eq_getD_getElem?] at t25
      have t27 : a.tmps.getD 27 undef = .int .i64 r := hd { on := 18, ground := .data } (by simp) rfl
      rw [Array.getD_eq_getD_getElem?] at t27
      have g23 : a.eval (.tmp 23) = .bool true := hd { on := 14, ground := .guard } (by simp) rfl
      refine .inl ⟨(by simp only [Region.wanted]; rw [yielded_of (d := 23) (by rfl) g23]; rfl), ?_⟩
      clear g23
      go_simp
      exact ⟨Below.refl _ _, rfl⟩
    · have t23 : a.tmps.getD 23 undef = .bool true := hd { on := 14, ground := .data } (by simp) rfl
      rw [Array.getD_eq_getD_getElem?] at t23
      have t28 : a.tmps.getD 28 undef = .bool true := hd { on := 19, ground := .data } (by simp) rfl
      rw [Array.getD_eq_getD_getElem?] at t28
      refine .inl ⟨rfl, ?_⟩
      go_simp
      exact ⟨Below.refl _ _, rfl⟩
    · have t29 : a.tmps.getD 29 undef = .bool true := hd { on := 20, ground := .data } (by simp) rfl
      rw [Array.getD_eq_getD_getElem?] at t29
      refine .inl ⟨rfl, ?_⟩
      go_simp
      exact ⟨Below.refl _ _, rfl⟩
    · have t4 : a.tmps.getD 4 undef = .pointer (some ⟨w.heap.size, 0, none⟩) := hF.at 4 (by kernel_rfl)
      rw [Array.getD_eq_getD_getElem?] at t4
      have g30 : a.eval (.tmp 30) = .bool true := hd { on := 21, ground := .guard } (by simp) rfl
      refine .inl ⟨(by simp only [Region.wanted]; rw [yielded_of (d := 30) (by rfl) g30]; rfl), ?_⟩
      clear g30
      rw [run_oload _ _ 23 (.tmp 4) rfl w.heap.size (by simpa [Act.eval] using t4) 23 cs (0, 0) _ (HC W hE) Try.underlying23 rfl HI.out]
      exact ⟨Below.refl _ _, rfl⟩
    · have t2 : a.tmps.getD 2 undef = .int .i64 n := hF.at 2 (by kernel_rfl)
      rw [Array.getD_eq_getD_getElem?] at t2
      have g30 : a.eval (.tmp 30) = .bool true := hd { on := 21, ground := .guard } (by simp) rfl
      refine .inl ⟨(by simp only [Region.wanted]; rw [yielded_of (d := 30) (by rfl) g30]; rfl), ?_⟩
      clear g30
      go_simp
      exact ⟨Below.refl _ _, rfl⟩
    · have t31 : a.tmps.getD 31 undef = .agg cs := hd { on := 22, ground := .data } (by simp) rfl
      rw [Array.getD_eq_getD_getElem?] at t31
      have t32 : a.tmps.getD 32 undef = .int .i64 n := hd { on := 23, ground := .data } (by simp) rfl
      rw [Array.getD_eq_getD_getElem?] at t32
      have g30 : a.eval (.tmp 30) = .bool true := hd { on := 21, ground := .guard } (by simp) rfl
      refine .inl ⟨(by simp only [Region.wanted]; rw [yielded_of (d := 30) (by rfl) g30]; rfl), ?_⟩
      clear g30
      go_simp
      exact (HE W).mono fun e w2 h => ⟨_, h.1, h.2, rfl⟩
    · have t4 : a.tmps.getD 4 undef = .pointer (some ⟨w.heap.size, 0, none⟩) := hF.at 4 (by kernel_rfl)
      rw [Array.getD_eq_getD_getElem?] at t4
      have g30 : a.eval (.tmp 30) = .bool true := hd { on := 21, ground := .guard } (by simp) rfl
      refine .inl ⟨(by simp only [Region.wanted]; rw [yielded_of (d := 30) (by rfl) g30]; rfl), ?_⟩
      clear g30
      rw [run_oload _ _ 23 (.tmp 4) rfl w.heap.size (by simpa [Act.eval] using t4) 23 cs (0, 0) _ (HC W hE) Try.underlying23 rfl HI.out]
      exact ⟨Below.refl _ _, rfl⟩
    · have t2 : a.tmps.getD 2 undef = .int .i64 n := hF.at 2 (by kernel_rfl)
      rw [Array.getD_eq_getD_getElem?] at t2
      have g30 : a.eval (.tmp 30) = .bool true := hd { on := 21, ground := .guard } (by simp) rfl
      refine .inl ⟨(by simp only [Region.wanted]; rw [yielded_of (d := 30) (by rfl) g30]; rfl), ?_⟩
      clear g30
      go_simp
      exact ⟨Below.refl _ _, rfl⟩
    · have t34 : a.tmps.getD 34 undef = .agg cs := hd { on := 25, ground := .data } (by simp) rfl
      rw [Array.getD_eq_getD_getElem?] at t34
      have t35 : a.tmps.getD 35 undef = .int .i64 n := hd { on := 26, ground := .data } (by simp) rfl
      rw [Array.getD_eq_getD_getElem?] at t35
      have g30 : a.eval (.tmp 30) = .bool true := hd { on := 21, ground := .guard } (by simp) rfl
      refine .inl ⟨(by simp only [Region.wanted]; rw [yielded_of (d := 30) (by rfl) g30]; rfl), ?_⟩
      clear g30
      go_simp
      exact (HrE W).mono fun e w2 h => ⟨_, h.1, h.2, rfl⟩
    · have t33 : a.tmps.getD 33 undef = .bool e := hd { on := 24, ground := .data } (by simp) rfl
      rw [Array.getD_eq_getD_getElem?] at t33
      have t36 : a.tmps.getD 36 undef = .bool e := hd { on := 27, ground := .data } (by simp) rfl
      rw [Array.getD_eq_getD_getElem?] at t36
      have g30 : a.eval (.tmp 30) = .bool true := hd { on := 21, ground := .guard } (by simp) rfl
      refine .inl ⟨(by simp only [Region.wanted]; rw [yielded_of (d := 30) (by rfl) g30]; rfl), ?_⟩
      clear g30
      go_simp
      exact ⟨Below.refl _ _, rfl⟩
    · have t30 : a.tmps.getD 30 undef = .bool true := hd { on := 21, ground := .data } (by simp) rfl
      rw [Array.getD_eq_getD_getElem?] at t30
      have t37 : a.tmps.getD 37 undef = .bool true := hd { on := 28, ground := .data } (by simp) rfl
      rw [Array.getD_eq_getD_getElem?] at t37
      refine .inl ⟨rfl, ?_⟩
      go_simp
      exact ⟨Below.refl _ _, rfl⟩
    · have t38 : a.tmps.getD 38 undef = .bool true := hd { on := 29, ground := .data } (by simp) rfl
      rw [Array.getD_eq_getD_getElem?] at t38
      refine .inl ⟨rfl, ?_⟩
      go_simp
      exact ⟨Below.refl _ _, rfl⟩
    · have t4 : a.tmps.getD 4 undef = .pointer (some ⟨w.heap.size, 0, none⟩) := hF.at 4 (by kernel_rfl)
      rw [Array.getD_eq_getD_getElem?] at t4
      have g39 : a.eval (.tmp 39) = .bool true := hd { on := 30, ground := .guard } (by simp) rfl
      refine .inl ⟨(by simp only [Region.wanted]; rw [yielded_of (d := 39) (by rfl) g39]; rfl), ?_⟩
      clear g39
      rw [run_oload _ _ 23 (.tmp 4) rfl w.heap.size (by simpa [Act.eval] using t4) 23 cs (0, 0) _ (HC W hE) Try.underlying23 rfl HI.out]
      exact ⟨Below.refl _ _, rfl⟩
    · have t3 : a.tmps.getD 3 undef = .int .i64 p := hF.at 3 (by kernel_rfl)
      rw [Array.getD_eq_getD_getElem?] at t3
      have g39 : a.eval (.tmp 39) = .bool true := hd { on := 30, ground := .guard } (by simp) rfl
      refine .inl ⟨(by simp only [Region.wanted]; rw [yielded_of (d := 39) (by rfl) g39]; rfl), ?_⟩
      clear g39
      go_simp
      exact ⟨Below.refl _ _, rfl⟩
    · have t40 : a.tmps.getD 40 undef = .agg cs := hd { on := 31, ground := .data } (by simp) rfl
      rw [Array.getD_eq_getD_getElem?] at t40
      have t41 : a.tmps.getD 41 undef = .int .i64 p := hd { on := 32, ground := .data } (by simp) rfl
      rw [Array.getD_eq_getD_getElem?] at t41
      have g39 : a.eval (.tmp 39) = .bool true := hd { on := 30, ground := .guard } (by simp) rfl
      refine .inl ⟨(by simp only [Region.wanted]; rw [yielded_of (d := 39) (by rfl) g39]; rfl), ?_⟩
      clear g39
      go_simp
      exact (HF W).mono fun e w2 h => ⟨_, h.1, h.2, rfl⟩
    · have t4 : a.tmps.getD 4 undef = .pointer (some ⟨w.heap.size, 0, none⟩) := hF.at 4 (by kernel_rfl)
      rw [Array.getD_eq_getD_getElem?] at t4
      have g39 : a.eval (.tmp 39) = .bool true := hd { on := 30, ground := .guard } (by simp) rfl
      refine .inl ⟨(by simp only [Region.wanted]; rw [yielded_of (d := 39) (by rfl) g39]; rfl), ?_⟩
      clear g39
      rw [run_oload _ _ 23 (.tmp 4) rfl w.heap.size (by simpa [Act.eval] using t4) 23 cs (0, 0) _ (HC W hE) Try.underlying23 rfl HI.out]
      exact ⟨Below.refl _ _, rfl⟩
    · have t3 : a.tmps.getD 3 undef = .int .i64 p := hF.at 3 (by kernel_rfl)
      rw [Array.getD_eq_getD_getElem?] at t3
      have g39 : a.eval (.tmp 39) = .bool true := hd { on := 30, ground := .guard } (by simp) rfl
      refine .inl ⟨(by simp only [Region.wanted]; rw [yielded_of (d := 39) (by rfl) g39]; rfl), ?_⟩
      clear g39
      go_simp
      exact ⟨Below.refl _ _, rfl⟩
    · have t43 : a.tmps.getD 43 undef = .agg cs := hd { on := 34, ground := .data } (by simp) rfl
      rw [Array.getD_eq_getD_getElem?] at t43
      have t44 : a.tmps.getD 44 undef = .int .i64 p := hd { on := 35, ground := .data } (by simp) rfl
      rw [Array.getD_eq_getD_getElem?] at t44
      have g39 : a.eval (.tmp 39) = .bool true := hd { on := 30, ground := .guard } (by simp) rfl
      refine .inl ⟨(by simp only [Region.wanted]; rw [yielded_of (d := 39) (by rfl) g39]; rfl), ?_⟩
      clear g39
      go_simp
      exact (HrF W).mono fun e w2 h => ⟨_, h.1, h.2, rfl⟩
    · have t42 : a.tmps.getD 42 undef = .bool f := hd { on := 33, ground := .data } (by simp) rfl
      rw [Array.getD_eq_getD_getElem?] at t42
      have t45 : a.tmps.getD 45 undef = .bool f := hd { on := 36, ground := .data } (by simp) rfl
      rw [Array.getD_eq_getD_getElem?] at t45
      have g39 : a.eval (.tmp 39) = .bool true := hd { on := 30, ground := .guard } (by simp) rfl
      refine .inl ⟨(by simp only [Region.wanted]; rw [yielded_of (d := 39) (by rfl) g39]; rfl), ?_⟩
      clear g39
      go_simp
      exact ⟨Below.refl _ _, rfl⟩
    · have t39 : a.tmps.getD 39 undef = .bool true := hd { on := 30, ground := .data } (by simp) rfl
      rw [Array.getD_eq_getD_getElem?] at t39
      have t46 : a.tmps.getD 46 undef = .bool true := hd { on := 37, ground := .data } (by simp) rfl
      rw [Array.getD_eq_getD_getElem?] at t46
      refine .inl ⟨rfl, ?_⟩
      go_simp
      exact ⟨Below.refl _ _, rfl⟩
    · have t47 : a.tmps.getD 47 undef = .bool true := hd { on := 38, ground := .data } (by simp) rfl
      rw [Array.getD_eq_getD_getElem?] at t47
      refine .inl ⟨rfl, ?_⟩
      go_simp
      exact ⟨Below.refl _ _, rfl⟩
    · have g48 : a.eval (.tmp 48) = .bool true := hd { on := 39, ground := .guard } (by simp) rfl
      refine .inl ⟨(by simp only [Region.wanted]; rw [yielded_of (d := 48) (by rfl) g48]; rfl), ?_⟩
      clear g48
      go_simp
      exact (HA W).mono fun e w2 h => ⟨_, h.1, h.2, rfl⟩
    · have t48 : a.tmps.getD 48 undef = .bool true := hd { on := 39, ground := .data } (by simp) rfl
      rw [Array.getD_eq_getD_getElem?] at t48
      have t49 : a.tmps.getD 49 undef = .bool true := hd { on := 40, ground := .data } (by simp) rfl
      rw [Array.getD_eq_getD_getElem?] at t49
      refine .inl ⟨rfl, ?_⟩
      go_simp
      exact ⟨Below.refl _ _, rfl⟩
    · have t50 : a.tmps.getD 50 undef = .bool true := hd { on := 41, ground := .data } (by simp) rfl
      rw [Array.getD_eq_getD_getElem?] at t50
      refine .inl ⟨rfl, ?_⟩
      go_simp
      exact ⟨Below.refl _ _, rfl⟩
  · intro vs W hE hV
    have h42 : vs 42 = .bool true := hV 42 (by decide)
    have HBf : Hid (Below w.heap.size w W) := HB0.out.trans (hE.mono HB0.out.size)
    clear hV hE
    simp only [putsV, dstsV, List.foldl, h42, Act.put, List.setIfInBounds_toArray, List.set_cons_succ, List.set_cons_zero]
    clear h42
    generalize vs 0 = y0
    generalize vs 1 = y1
    generalize vs 2 = y2
    generalize vs 3 = y3
    generalize vs 4 = y4
    generalize vs 5 = y5
    generalize vs 6 = y6
    generalize vs 7 = y7
    generalize vs 8 = y8
    generalize vs 9 = y9
    generalize vs 10 = y10
    generalize vs 11 = y11
    generalize vs 12 = y12
    generalize vs 13 = y13
    generalize vs 14 = y14
    generalize vs 15 = y15
    generalize vs 16 = y16
    generalize vs 17 = y17
    generalize vs 18 = y18
    generalize vs 19 = y19
    generalize vs 20 = y20
    generalize vs 21 = y21
    generalize vs 22 = y22
    generalize vs 23 = y23
    generalize vs 24 = y24
    generalize vs 25 = y25
    generalize vs 26 = y26
    generalize vs 27 = y27
    generalize vs 28 = y28
    generalize vs 29 = y29
    generalize vs 30 = y30
    generalize vs 31 = y31
    generalize vs 32 = y32
    generalize vs 33 = y33
    generalize vs 34 = y34
    generalize vs 35 = y35
    generalize vs 36 = y36
    generalize vs 37 = y37
    generalize vs 38 = y38
    generalize vs 39 = y39
    generalize vs 40 = y40
    generalize vs 41 = y41
    refine ‹∀ (a : Act) (w : World), Code.wp Try.prog Code.ret _ a w → _› _ _ ?_
    go_wp2
    go_ret
    exact ⟨rfl, HBf.out⟩

set_option maxRecDepth 100000 in
theorem lifted_BucketForms (os : Os) (started : os.Started) (H : Type) (enc : TypeId × Value → H) :
    ReturnsInHanded {} Try.checked os 3 .any (Rows.bucketFormsSpec.pre6 enc Try.prog Try.f3 Rows.bucketFormsRow.domain false) (Rows.bucketFormsSpec.post enc Try.prog Try.f3 false true false false) := by
  refine returnsInHanded_of_change (C := Try.checked) own started (by kernel_rfl) Try.func3
    (ChangeSpec.witness6 (enc := enc) (C := Try.checked) false ⟨#[], #[.agg #[.int .i64 0, .int .i64 0], .bool false, .int .i64 0, .int .i64 0], []⟩ 8 (by kernel_rfl) (by kernel_rfl) (by kernel_rfl) (by kernel_rfl)) ?_
  intro W base args ds gs before hval0 hW hcnd _
  have hval : ∀ (j : Nat) t v, Try.f3.params[j]? = some t → args[j]? = some v → Value.okWide Try.prog W .any base t v := hval0
  have hW' := hW
  obtain ⟨p, q, hA0, hV, rfl, hfz, hnd⟩ := hW
  have hA : DataW.TrodAll enc Try.prog W 0 (fun _ => true) true Try.f3.params.toList args.toList ds p := hA0
  rw [Try.params3] at hA hval
  obtain ⟨v0, vs0, d0, ds0, p0, q0, hargs, rfl, rfl, h0, r0⟩ := trodAll_cons hA
  obtain ⟨v1, vs1, d1, ds1, p1, q1, rfl, rfl, rfl, h1, r1⟩ := trodAll_cons r0
  obtain ⟨v2, vs2, d2, ds2, p2, q2, rfl, rfl, rfl, h2, r2⟩ := trodAll_cons r1
  obtain ⟨v3, vs3, d3, ds3, p3, q3, rfl, rfl, rfl, h3, r3⟩ := trodAll_cons r2
  obtain ⟨rfl, rfl, rfl⟩ := trodAll_nil r3
  obtain rfl : args = #[v0, v1, v2, v3] := by cases args; simp_all
  obtain ⟨rfl, rfl⟩ := trodVars_none hV
  have k0 := h0
  have lt0 : ∀ x ∈ p0, x.block < W.heap.size := by obtain ⟨m, hm⟩ := k0; exact DataW.trod_lt m _ _ _ hm
  obtain ⟨z0, rfl, w0⟩ := open_bucket (hval 0 23 v0 rfl rfl) h0
  obtain ⟨a1, rfl, rfl, rfl⟩ := open_bool Try.underlying4 (hval 1 4 v1 rfl rfl) h1
  obtain ⟨a2, rfl, rfl, rfl, w2⟩ := open_int Try.underlying3 (hval 2 3 v2 rfl rfl) h2
  obtain ⟨a3, rfl, rfl, rfl, w3⟩ := open_int Try.underlying3 (hval 3 3 v3 rfl rfl) h3
  clear hA0 hval0
  refine (walk_BucketForms z0 w0 a1 a2 (wf_i64 w2) a3 (wf_i64 w3) W).mono fun e W' ⟨he, bel⟩ => ?_
  subst he
  exact ⟨_, rfl, _, _, _, [], _, [], hW', trodAll_mk1 (shut_bool Try.underlying4 _), (trodAll_cons_mk (Below.trod laidOut (by kernel_rfl) (of_decide_eq_true (by kernel_rfl)) k0 bel lt0) (trodAll_cons_mk (shut_bool Try.underlying4 a1) (trodAll_cons_mk (shut_int Try.underlying3 w2) (trodAll_cons_mk (shut_int Try.underlying3 w3) trodAll_mk0)))), rfl, bel.frame _, fun h => by cases h⟩

theorem over_BucketForms : Rows.bucketFormsRow.holds Try.pinned (OpenSpec.ofChange Rows.bucketFormsSpec) :=
  OpenClaim.holds_of_wide 3 Try.f3 rfl rfl rfl rfl rfl rfl rfl ⟨rfl, rfl, rfl, rfl, rfl⟩ rfl rfl rfl rfl rfl (by kernel_rfl) Try.func3 (by kernel_rfl)
    (of_decide_eq_true (by kernel_rfl)) (by unfold Func.isWrapper; first | (rw [if_pos (by decide +kernel)]; kernel_rfl) | (rw [if_neg (by decide +kernel)]; exact ⟨rfl, rfl⟩))
    (fun os started H enc _ => lifted_BucketForms os started H enc)

/-- The statement. -/
theorem bucketForms_holds : Rows.BucketFormsSaid := over_BucketForms
#print axioms bucketForms_holds

end Go.Proofs.Ythoecpciiphofaa

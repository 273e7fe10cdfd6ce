/-
  ConfigBounds, for every two numbers: with one field of Default set to any number, May, Text and Parse of it go by that field's bounds. No condition but that the two tables are as the program's text lays them (the card).
-/
import Derived.Test.YtmhbfcjlbhighaaDoorConfFrame
import Derived.Test.YtmhbfcjlbhighaaDoorConfEq
import Derived.Test.YtmhbfcjlbhighaaDoorConfLaw
import Derived.Test.YtmhbfcjlbhighaaDoorConfSet
import Derived.Deep.Cut
import Derived.Deep.DeepCutAuto
import Derived.Deep.CutBlock
namespace Go.Proofs.YtmhbfcjlbhighaaDoor
open Go.ChangeShapes Go.WideShapes Go.ChangeAt Go.RowKit

theorem u8_mod (a : Int) : ∃ M : Nat, M < 8 ∧ (IntKind.u64.wrap a).tmod 8 = (M : Int) := by
  have h0 : 0 ≤ IntKind.u64.wrap a := by simp [IntKind.wrap, IntKind.signed, IntKind.bits]; omega
  refine ⟨((IntKind.u64.wrap a) % 8).toNat, by omega, ?_⟩
  rw [Int.tmod_eq_emod_of_nonneg h0]
  omega

/-- What the switch leaves: a configuration, whether it may be. -/
def Set1 (w : World) (cB : Nat) (p q : Value) (W : World) : Prop :=
  ∃ (c : Cfg) (ok : Bool), p = .pointer (some ⟨cB, 0, none⟩) ∧ q = .bool ok ∧ mayC c = ok ∧ c.zone.size = 0 ∧ CellsAt W cB c.arr ∧ Below w.heap.size w W
theorem set_one {w W : World} {cB : Nat} (hB : Below w.heap.size w W) (hcB : w.heap.size ≤ cB) (h : CellsAt W cB defC.arr) (f : Nat) (hf : f < 21 ∧ f ≠ 15) (n : Int) (q : Bool) (hq : q = decide (lowC f ≤ n ∧ n ≤ highC f)) :
    Set1 w cB (.pointer (some ⟨cB, 0, none⟩)) (.bool q) (W.setCell ⟨cB, f, none⟩ (.int .i64 n)) := by
  refine ⟨ofNums (defNums.set f n) ByteArray.empty, q, rfl, rfl, ?_, rfl, ?_, ?_⟩
  · rw [may_set f hf, hq]
  · rw [← arr_set_num rfl ByteArray.empty hf n]
    exact h.set _
  · exact below_grown hB (grown_set W ⟨cB, f, none⟩ _) hcB hB.size

set_option maxRecDepth 100000 in
set_option maxHeartbeats 4000000 in
theorem walk_ConfigBounds (a : Int) (_ : -9223372036854775808 ≤ a ∧ a ≤ 9223372036854775807) (n : Int) (_ : -9223372036854775808 ≤ n ∧ n ≤ 9223372036854775807) (w : World) (ht : Tabs w) :
    Calls Tryd.prog 7 #[.int .i64 a, .int .i64 n] w fun e w' => e = .returned (.bool true) ∧ Below w.heap.size w w' := by
  have HT : Hid (Tabs w) := ht
  obtain ⟨M, hM8, hM⟩ := u8_mod a
  have HDf := fun W h => default_any W h
  have HI1 : Hid _ := arr_info defC
  have HO1 : Hid _ := arr_one defC
  have HS1 : Hid (defC.arr.size = 23) := rfl
  have HSet : Hid (∀ (W : World) (cB : Nat), Below w.heap.size w W → w.heap.size ≤ cB → CellsAt W cB defC.arr → ∀ (f : Nat), (f < 21 ∧ f ≠ 15) → ∀ (q : Bool), q = decide (lowC f ≤ n ∧ n ≤ highC f) → Set1 w cB (.pointer (some ⟨cB, 0, none⟩)) (.bool q) (W.setCell ⟨cB, f, none⟩ (.int .i64 n))) := fun W cB h1 h2 h3 f hf q hq => set_one h1 h2 h3 f hf n q hq
  have HC0 : Hid (∃ x, defC.arr[0]? = some x) := ⟨_, rfl⟩
  have HC3 : Hid (∃ x, defC.arr[3]? = some x) := ⟨_, rfl⟩
  have HC5 : Hid (∃ x, defC.arr[5]? = some x) := ⟨_, rfl⟩
  have HC6 : Hid (∃ x, defC.arr[6]? = some x) := ⟨_, rfl⟩
  have HC8 : Hid (∃ x, defC.arr[8]? = some x) := ⟨_, rfl⟩
  have HC11 : Hid (∃ x, defC.arr[11]? = some x) := ⟨_, rfl⟩
  have HC19 : Hid (∃ x, defC.arr[19]? = some x) := ⟨_, rfl⟩
  have HC20 : Hid (∃ x, defC.arr[20]? = some x) := ⟨_, rfl⟩
  clear ht
  obtain ⟨D, hD⟩ : ∃ D, defC.arr = D := ⟨_, rfl⟩
  rw [hD] at HDf HI1 HO1 HS1 HSet HC0 HC3 HC5 HC6 HC8 HC11 HC19 HC20
  have HD : Hid (defC.arr = D) := hD
  clear hD
  go_enter Tryd.func7, Tryd.ntmps7
  go_wp2_with fail
  refine (HDf _ HT.out.1).mono ?_
  rintro e w1 ⟨rfl, hb⟩
  have HF := fun o => stored_facts hb (D := D) (o := o)
  have HL : Hid (w.heap.size ≤ w1.heap.size) := hb.size
  clear hb
  go_upto_block 0 with (first | (refine wpList_store_row rfl 23 (.tmp 5) (.tmp 10) rfl w1.heap.size D rfl rfl 23 _ (heap_alloc_new w1 _) HI1.out HS1.out.symm HO1.out ?_; obtain ⟨hf1, hf2⟩ := HF _; generalize World.setRow _ _ _ = W4 at hf1 hf2 ⊢; have HF1 : Hid _ := hf1; have HF2 : Hid _ := hf2; clear hf1 hf2 HF) | fail)
  go_cut [5, 6] (Set1 w w1.heap.size)
  case first =>
    have HCl : ∀ j, W4.cell? ⟨w1.heap.size, j, none⟩ = D[j]? := fun j => CellsAt.cell HF1.out
    have HFz : ∀ j, W4.frozen? ⟨w1.heap.size, j, none⟩ = false := fun j => CellsAt.frozen HF1.out
    have HS2 : Hid _ := HSet.out W4 w1.heap.size HF2.out HL.out HF1.out
    have hMc : M = 0 ∨ M = 1 ∨ M = 2 ∨ M = 3 ∨ M = 4 ∨ M = 5 ∨ M = 6 ∨ M = 7 := by omega
    clear hM8
    rcases hMc with rfl | rfl | rfl | rfl | rfl | rfl | rfl | rfl
    · obtain ⟨x0, hx0⟩ := HC0.out
      have hcl := (HCl 0).trans hx0
      have hfz := HFz 0
      clear HCl HFz
      by_cases h1 : (10 : Int) ≤ n
      · have h1' : decide ((10 : Int) ≤ n) = true := decide_eq_true h1
        have hS := HS2.out 0 (by decide) (decide (n ≤ 10000)) (by
          have e1 : lowC 0 = 10 := rfl
          have e2 : highC 0 = 10000 := rfl
          rw [e1, e2]
          simp [h1])
        clear HS2
        go_wp2
        go_meet
        case rel => exact hS
      · have hS := HS2.out 0 (by decide) false (by
          have e1 : lowC 0 = 10 := rfl
          have e2 : highC 0 = 10000 := rfl
          rw [e1, e2, eq_comm, decide_eq_false_iff_not]
          omega)
        clear HS2
        go_wp2
        go_meet
        case rel => exact hS
    · obtain ⟨x0, hx0⟩ := HC3.out
      have hcl := (HCl 3).trans hx0
      have hfz := HFz 3
      clear HCl HFz
      by_cases h1 : (1 : Int) ≤ n
      · have h1' : decide ((1 : Int) ≤ n) = true := decide_eq_true h1
        have hS := HS2.out 3 (by decide) (decide (n ≤ 10)) (by
          have e1 : lowC 3 = 1 := rfl
          have e2 : highC 3 = 10 := rfl
          rw [e1, e2]
          simp [h1])
        clear HS2
        go_wp2
        go_meet
        case rel => exact hS
      · have hS := HS2.out 3 (by decide) false (by
          have e1 : lowC 3 = 1 := rfl
          have e2 : highC 3 = 10 := rfl
          rw [e1, e2, eq_comm, decide_eq_false_iff_not]
          omega)
        clear HS2
        go_wp2
        go_meet
        case rel => exact hS
    · obtain ⟨x0, hx0⟩ := HC5.out
      have hcl := (HCl 5).trans hx0
      have hfz := HFz 5
      clear HCl HFz
      by_cases h1 : (0 : Int) ≤ n
      · have h1' : decide ((0 : Int) ≤ n) = true := decide_eq_true h1
        have hS := HS2.out 5 (by decide) (decide (n ≤ 100)) (by
          have e1 : lowC 5 = 0 := rfl
          have e2 : highC 5 = 100 := rfl
          rw [e1, e2]
          simp [h1])
        clear HS2
        go_wp2
        go_meet
        case rel => exact hS
      · have hS := HS2.out 5 (by decide) false (by
          have e1 : lowC 5 = 0 := rfl
          have e2 : highC 5 = 100 := rfl
          rw [e1, e2, eq_comm, decide_eq_false_iff_not]
          omega)
        clear HS2
        go_wp2
        go_meet
        case rel => exact hS
    · obtain ⟨x0, hx0⟩ := HC6.out
      have hcl := (HCl 6).trans hx0
      have hfz := HFz 6
      clear HCl HFz
      by_cases h1 : (100 : Int) ≤ n
      · have h1' : decide ((100 : Int) ≤ n) = true := decide_eq_true h1
        have hS := HS2.out 6 (by decide) (decide (n ≤ 1000)) (by
          have e1 : lowC 6 = 100 := rfl
          have e2 : highC 6 = 1000 := rfl
          rw [e1, e2]
          simp [h1])
        clear HS2
        go_wp2
        go_meet
        case rel => exact hS
      · have hS := HS2.out 6 (by decide) false (by
          have e1 : lowC 6 = 100 := rfl
          have e2 : highC 6 = 1000 := rfl
          rw [e1, e2, eq_comm, decide_eq_false_iff_not]
          omega)
        clear HS2
        go_wp2
        go_meet
        case rel => exact hS
    · obtain ⟨x0, hx0⟩ := HC8.out
      have hcl := (HCl 8).trans hx0
      have hfz := HFz 8
      clear HCl HFz
      by_cases h1 : (10 : Int) ≤ n
      · have h1' : decide ((10 : Int) ≤ n) = true := decide_eq_true h1
        have hS := HS2.out 8 (by decide) (decide (n ≤ 10000)) (by
          have e1 : lowC 8 = 10 := rfl
          have e2 : highC 8 = 10000 := rfl
          rw [e1, e2]
          simp [h1])
        clear HS2
        go_wp2
        go_meet
        case rel => exact hS
      · have hS := HS2.out 8 (by decide) false (by
          have e1 : lowC 8 = 10 := rfl
          have e2 : highC 8 = 10000 := rfl
          rw [e1, e2, eq_comm, decide_eq_false_iff_not]
          omega)
        clear HS2
        go_wp2
        go_meet
        case rel => exact hS
    · obtain ⟨x0, hx0⟩ := HC11.out
      have hcl := (HCl 11).trans hx0
      have hfz := HFz 11
      clear HCl HFz
      by_cases h1 : (0 : Int) ≤ n
      · have h1' : decide ((0 : Int) ≤ n) = true := decide_eq_true h1
        have hS := HS2.out 11 (by decide) (decide (n ≤ 10000)) (by
          have e1 : lowC 11 = 0 := rfl
          have e2 : highC 11 = 10000 := rfl
          rw [e1, e2]
          simp [h1])
        clear HS2
        go_wp2
        go_meet
        case rel => exact hS
      · have hS := HS2.out 11 (by decide) false (by
          have e1 : lowC 11 = 0 := rfl
          have e2 : highC 11 = 10000 := rfl
          rw [e1, e2, eq_comm, decide_eq_false_iff_not]
          omega)
        clear HS2
        go_wp2
        go_meet
        case rel => exact hS
    · obtain ⟨x0, hx0⟩ := HC20.out
      have hcl := (HCl 20).trans hx0
      have hfz := HFz 20
      clear HCl HFz
      by_cases h1 : (1 : Int) ≤ n
      · have h1' : decide ((1 : Int) ≤ n) = true := decide_eq_true h1
        have hS := HS2.out 20 (by decide) (decide (n ≤ 3)) (by
          have e1 : lowC 20 = 1 := rfl
          have e2 : highC 20 = 3 := rfl
          rw [e1, e2]
          simp [h1])
        clear HS2
        go_wp2
        go_meet
        case rel => exact hS
      · have hS := HS2.out 20 (by decide) false (by
          have e1 : lowC 20 = 1 := rfl
          have e2 : highC 20 = 3 := rfl
          rw [e1, e2, eq_comm, decide_eq_false_iff_not]
          omega)
        clear HS2
        go_wp2
        go_meet
        case rel => exact hS
    · obtain ⟨x0, hx0⟩ := HC19.out
      have hcl := (HCl 19).trans hx0
      have hfz := HFz 19
      clear HCl HFz
      by_cases h1 : (1 : Int) ≤ n
      · have h1' : decide ((1 : Int) ≤ n) = true := decide_eq_true h1
        have hS := HS2.out 19 (by decide) (decide (n ≤ 10000)) (by
          have e1 : lowC 19 = 1 := rfl
          have e2 : highC 19 = 10000 := rfl
          rw [e1, e2]
          simp [h1])
        clear HS2
        go_wp2
        go_meet
        case rel => exact hS
      · have hS := HS2.out 19 (by decide) false (by
          have e1 : lowC 19 = 1 := rfl
          have e2 : highC 19 = 10000 := rfl
          rw [e1, e2, eq_comm, decide_eq_false_iff_not]
          omega)
        clear HS2
        go_wp2
        go_meet
        case rel => exact hS
  case rest =>
    obtain ⟨c, ok, rfl, rfl, hok, hz, hca, hbw⟩ := hcut
    have HCa : Hid (CellsAt wc w1.heap.size c.arr) := hca
    have HBw0 : Hid (Below w.heap.size w wc) := hbw
    clear hca hbw HSet HF1 HF2 hM hM8
    have hz2 : c.zone.size ≤ 9223372036854775807 := by omega
    have HM := fun W h => may_any c W h hz2
    have HX := fun W h => text_any c W h hz2
    have HAw := fun W h => awake_any W h
    rw [hok] at HM
    have HI : Hid _ := arr_info c
    have hg := eq_guard
    generalize w1.heap.size = cB at HCa HL ⊢
    clear HC0 HC3 HC5 HC6 HC8 HC11 HC19 HC20
    cases ok with
    | true =>
      have HP := fun W h => parse_any (mkS (textC c)) W h (text_short hok)
      rw [parse_text hok] at HP
      simp only at HP
      obtain ⟨tb, tr, htx⟩ := text_pos hok
      have hnx : ((mkS (textC c)).toList == []) = false := by rw [htx, ByteArray.toList_eq]; rfl
      have hnx2 : (mkS (textC c)).toList.isEmpty = false := by rw [htx, ByteArray.toList_eq]; rfl
      have hs2 : ∀ W, (binOp .eql 23 (.agg c.arr) (.agg c.arr)).run Tryd.prog W = .ok (.bool true) W := fun W => by
        have h := run_sameC c c W
        rw [decide_eq_true rfl] at h
        exact h
      have HO : Hid _ := arr_one c
      have HS : Hid (c.arr.size = 23) := rfl
      clear htx hok hz hz2 HI1 HO1 HS1 HD HDf
      generalize mkS (textC c) = TX at HX HP hnx hnx2
      generalize c.arr = A at HCa HM HX HP HI hs2 HO HS
      go_wp2_with (first | (refine wpList_load_row rfl 23 (.tmp 5) rfl cB rfl 23 A (0, 0) _ HCa.out Tryd.underlying23 rfl HI.out ?_) | fail)
      refine (HX _ (HT.out.below HBw0.out)).mono ?_
      rintro e w5 ⟨rfl, hb⟩
      have HC5 : Hid (CellsAt w5 cB A) := HCa.out.below hb
      have HB5 : Hid (Below w.heap.size w w5) := HBw0.out.trans (hb.mono HBw0.out.size)
      clear hb HCa HBw0
      go_wp2_with fail
      refine (HP _ (HT.out.below HB5.out).1).mono ?_
      rintro e w6 ⟨rfl, hb⟩
      have HF := fun o => stored_facts2 (HC5.out.below hb) (Below.trans HB5.out (hb.mono (Below.size HB5.out))) (D := A) (o := o)
      clear hb HC5 HB5 HP
      go_wp2_with (first | (refine wpList_store_row rfl 23 (.tmp 7) (.tmp 96) rfl w6.heap.size A rfl rfl 23 _ (heap_alloc_new w6 _) HI.out HS.out.symm HO.out ?_; obtain ⟨hf1, hf2, hf3⟩ := HF _; generalize World.setRow _ _ _ = W7 at hf1 hf2 hf3 ⊢; have HF1 : Hid _ := hf1; have HF2 : Hid _ := hf2; have HF3 : Hid _ := hf3; clear hf1 hf2 hf3 HF) | fail)
      have hlA : ∀ W, Below W7.heap.size W7 W → CellsAt W cB A := fun W h => CellsAt.below HF1.out h
      have hlP : ∀ W, Below W7.heap.size W7 W → CellsAt W w6.heap.size A := fun W h => CellsAt.below HF2.out h
      have HBw : Hid (Below w.heap.size w W7) := HF3.out
      have HTw : Hid (Tabs W7) := HT.out.below HBw.out
      refine wp_region_rel4 (fun W W' => Below W.heap.size W W') (fun i v _ => v = ([.agg A, .bool true, .bool true, .bool true, .bool true, .agg A, .string TX, .bool true, .bool true, .bool true, .bool true, .bool true, .bool true, .bool false, .bool false, .int .i64 0, .bool true, .bool true, .agg A, .agg A, .bool true, .bool true, .bool true, .bool true, .bool true, .bool true, .bool true, undef, undef, undef, .bool true, .bool true, .bool true, .bool true, .bool true, .bool true] : List Value).getD i undef) (by kernel_rfl) (by kernel_rfl) (Below.refl _ _).drew (fun W => Below.refl _ _) (fun _ _ _ h1 h2 => h1.trans (h2.mono h1.size)) (fun _ _ _ _ h _ => h) ?_ ?_
      · simp only [stepsAll3]
        refine ⟨fun a W hF hE hd => ?_, fun a W hF hE hd => ?_, fun a W hF hE hd => ?_, fun a W hF hE hd => ?_, fun a W hF hE hd => ?_, fun a W hF hE hd => ?_, fun a W hF hE hd => ?_, fun a W hF hE hd => ?_, fun a W hF hE hd => ?_, fun a W hF hE hd => ?_, fun a W hF hE hd => ?_, fun a W hF hE hd => ?_, fun a W hF hE hd => ?_, fun a W hF hE hd => ?_, fun a W hF hE hd => ?_, fun a W hF hE hd => ?_, fun a W hF hE hd => ?_, fun a W hF hE hd => ?_, fun a W hF hE hd => ?_, fun a W hF hE hd => ?_, fun a W hF hE hd => ?_, fun a W hF hE hd => ?_, fun a W hF hE hd => ?_, fun a W hF hE hd => ?_, fun a W hF hE hd => ?_, fun a W hF hE hd => ?_, fun a W hF hE hd => ?_, fun a W hF hE hd => ?_, fun a W hF hE hd => ?_, fun a W hF hE hd => ?_, fun a W hF hE hd => ?_, fun a W hF hE hd => ?_, fun a W hF hE hd => ?_, fun a W hF hE hd => ?_, fun a W hF hE hd => ?_, fun a W hF hE hd => ?_, trivial⟩
        all_goals unfold StepAt
        · have t5 : a.tmps.getD 5 undef = .pointer (some ⟨cB, 0, none⟩) := hF.at 5 (by kernel_rfl)
          rw [Array.getD_eq_getD_getElem?] at t5
          refine .inl ⟨rfl, ?_⟩
          rw [run_oload _ _ 23 (.tmp 5) rfl (cB) (by simpa [Act.eval] using t5) 23 A (0, 0) _ (hlA W hE) Tryd.underlying23 rfl HI.out]
          exact ⟨Below.refl _ _, rfl⟩
        · have t99 : a.tmps.getD 99 undef = .agg A := hd { on := 0, ground := .data } (by simp) rfl
          rw [Array.getD_eq_getD_getElem?] at t99
          refine .inl ⟨rfl, ?_⟩
          go_simp
          exact (HM W (HTw.out.below hE).1).mono fun e w2 h => ⟨_, h.1, h.2, rfl⟩
        · have t6 : a.tmps.getD 6 undef = .bool true := hF.at 6 (by kernel_rfl)
          rw [Array.getD_eq_getD_getElem?] at t6
          refine .inl ⟨rfl, ?_⟩
          go_simp
          exact ⟨Below.refl _ _, rfl⟩
        · have t100 : a.tmps.getD 100 undef = .bool true := hd { on := 1, ground := .data } (by simp) rfl
          rw [Array.getD_eq_getD_getElem?] at t100
          have t101 : a.tmps.getD 101 undef = .bool true := hd { on := 2, ground := .data } (by simp) rfl
          rw [Array.getD_eq_getD_getElem?] at t101
          refine .inl ⟨rfl, ?_⟩
          go_simp
          exact ⟨Below.refl _ _, rfl⟩
        · have t102 : a.tmps.getD 102 undef = .bool true := hd { on := 3, ground := .data } (by simp) rfl
          rw [Array.getD_eq_getD_getElem?] at t102
          refine .inl ⟨rfl, ?_⟩
          go_simp
          exact ⟨Below.refl _ _, rfl⟩
        · have t5 : a.tmps.getD 5 undef = .pointer (some ⟨cB, 0, none⟩) := hF.at 5 (by kernel_rfl)
          rw [Array.getD_eq_getD_getElem?] at t5
          have g103 : a.eval (.tmp 103) = .bool true := hd { on := 4, ground := .guard } (by simp) rfl
          refine .inl ⟨(by simp only [Region.wanted]; rw [yielded_of (d := 103) (by rfl) g103]; rfl), ?_⟩
          clear g103
          rw [run_oload _ _ 23 (.tmp 5) rfl (cB) (by simpa [Act.eval] using t5) 23 A (0, 0) _ (hlA W hE) Tryd.underlying23 rfl HI.out]
          exact ⟨Below.refl _ _, rfl⟩
        · have t104 : a.tmps.getD 104 undef = .agg A := hd { on := 5, ground := .data } (by simp) rfl
          rw [Array.getD_eq_getD_getElem?] at t104
          have g103 : a.eval (.tmp 103) = .bool true := hd { on := 4, ground := .guard } (by simp) rfl
          refine .inl ⟨(by simp only [Region.wanted]; rw [yielded_of (d := 103) (by rfl) g103]; rfl), ?_⟩
          clear g103
          go_simp
          exact (HX W (HTw.out.below hE)).mono fun e w2 h => ⟨_, h.1, h.2, rfl⟩
        · have t105 : a.tmps.getD 105 undef = .string TX := hd { on := 6, ground := .data } (by simp) rfl
          rw [Array.getD_eq_getD_getElem?] at t105
          have g103 : a.eval (.tmp 103) = .bool true := hd { on := 4, ground := .guard } (by simp) rfl
          refine .inl ⟨(by simp only [Region.wanted]; rw [yielded_of (d := 103) (by rfl) g103]; rfl), ?_⟩
          clear g103
          go_simp
          exact ⟨Below.refl _ _, rfl⟩
        · have t6 : a.tmps.getD 6 undef = .bool true := hF.at 6 (by kernel_rfl)
          rw [Array.getD_eq_getD_getElem?] at t6
          have g103 : a.eval (.tmp 103) = .bool true := hd { on := 4, ground := .guard } (by simp) rfl
          refine .inl ⟨(by simp only [Region.wanted]; rw [yielded_of (d := 103) (by rfl) g103]; rfl), ?_⟩
          clear g103
          go_simp
          exact ⟨Below.refl _ _, rfl⟩
        · have t106 : a.tmps.getD 106 undef = .bool true := hd { on := 7, ground := .data } (by simp) rfl
          rw [Array.getD_eq_getD_getElem?] at t106
          have t107 : a.tmps.getD 107 undef = .bool true := hd { on := 8, ground := .data } (by simp) rfl
          rw [Array.getD_eq_getD_getElem?] at t107
          have g103 : a.eval (.tmp 103) = .bool true := hd { on := 4, ground := .guard } (by simp) rfl
          refine .inl ⟨(by simp only [Region.wanted]; rw [yielded_of (d := 103) (by rfl) g103]; rfl), ?_⟩
          clear g103
          go_simp
          exact ⟨Below.refl _ _, rfl⟩
        · have t103 : a.tmps.getD 103 undef = .bool true := hd { on := 4, ground := .data } (by simp) rfl
          rw [Array.getD_eq_getD_getElem?] at t103
          have t108 : a.tmps.getD 108 undef = .bool true := hd { on := 9, ground := .data } (by simp) rfl
          rw [Array.getD_eq_getD_getElem?] at t108
          refine .inl ⟨rfl, ?_⟩
          go_simp
          exact ⟨Below.refl _ _, rfl⟩
        · have t109 : a.tmps.getD 109 undef = .bool true := hd { on := 10, ground := .data } (by simp) rfl
          rw [Array.getD_eq_getD_getElem?] at t109
          refine .inl ⟨rfl, ?_⟩
          go_simp
          exact ⟨Below.refl _ _, rfl⟩
        · have t6 : a.tmps.getD 6 undef = .bool true := hF.at 6 (by kernel_rfl)
          rw [Array.getD_eq_getD_getElem?] at t6
          have g110 : a.eval (.tmp 110) = .bool true := hd { on := 11, ground := .guard } (by simp) rfl
          refine .inl ⟨(by simp only [Region.wanted]; rw [yielded_of (d := 110) (by rfl) g110]; rfl), ?_⟩
          clear g110
          go_simp
          exact ⟨Below.refl _ _, rfl⟩
        · have t111 : a.tmps.getD 111 undef = .bool true := hd { on := 12, ground := .data } (by simp) rfl
          rw [Array.getD_eq_getD_getElem?] at t111
          have g110 : a.eval (.tmp 110) = .bool true := hd { on := 11, ground := .guard } (by simp) rfl
          refine .inl ⟨(by simp only [Region.wanted]; rw [yielded_of (d := 110) (by rfl) g110]; rfl), ?_⟩
          clear g110
          go_simp
          exact ⟨Below.refl _ _, rfl⟩
        · have t112 : a.tmps.getD 112 undef = .bool false := hd { on := 13, ground := .data } (by simp) rfl
          rw [Array.getD_eq_getD_getElem?] at t112
          have g110 : a.eval (.tmp 110) = .bool true := hd { on := 11, ground := .guard } (by simp) rfl
          refine .inl ⟨(by simp only [Region.wanted]; rw [yielded_of (d := 110) (by rfl) g110]; rfl), ?_⟩
          clear g110
          go_simp
          exact ⟨Below.refl _ _, rfl⟩
        · have t9 : a.tmps.getD 9 undef = .int .i64 0 := hF.at 9 (by kernel_rfl)
          rw [Array.getD_eq_getD_getElem?] at t9
          have g113 : a.eval (.tmp 113) = .bool false := hd { on := 14, ground := .guard } (by simp) rfl
          refine .inl ⟨(by simp only [Region.wanted]; rw [yielded_of (d := 113) (by rfl) g113]; rfl), ?_⟩
          clear g113
          go_simp
          exact ⟨Below.refl _ _, rfl⟩
        · have t114 : a.tmps.getD 114 undef = .int .i64 0 := hd { on := 15, ground := .data } (by simp) rfl
          rw [Array.getD_eq_getD_getElem?] at t114
          have g113 : a.eval (.tmp 113) = .bool false := hd { on := 14, ground := .guard } (by simp) rfl
          refine .inl ⟨(by simp only [Region.wanted]; rw [yielded_of (d := 113) (by rfl) g113]; rfl), ?_⟩
          clear g113
          go_simp
          exact ⟨Below.refl _ _, rfl⟩
        · have t115 : a.tmps.getD 115 undef = .bool true := hd { on := 16, ground := .data } (by simp) rfl
          rw [Array.getD_eq_getD_getElem?] at t115
          have g113 : a.eval (.tmp 113) = .bool false := hd { on := 14, ground := .guard } (by simp) rfl
          refine .inl ⟨(by simp only [Region.wanted]; rw [yielded_of (d := 113) (by rfl) g113]; rfl), ?_⟩
          clear g113
          go_simp
          exact ⟨Below.refl _ _, rfl⟩
        · have t7 : a.tmps.getD 7 undef = .pointer (some ⟨w6.heap.size, 0, none⟩) := hF.at 7 (by kernel_rfl)
          rw [Array.getD_eq_getD_getElem?] at t7
          have g116 : a.eval (.tmp 116) = .bool true := hd { on := 17, ground := .guard } (by simp) rfl
          refine .inl ⟨(by simp only [Region.wanted]; rw [yielded_of (d := 116) (by rfl) g116]; rfl), ?_⟩
          clear g116
          rw [run_oload _ _ 23 (.tmp 7) rfl (w6.heap.size) (by simpa [Act.eval] using t7) 23 A (0, 0) _ (hlP W hE) Tryd.underlying23 rfl HI.out]
          exact ⟨Below.refl _ _, rfl⟩
        · have t5 : a.tmps.getD 5 undef = .pointer (some ⟨cB, 0, none⟩) := hF.at 5 (by kernel_rfl)
          rw [Array.getD_eq_getD_getElem?] at t5
          have g116 : a.eval (.tmp 116) = .bool true := hd { on := 17, ground := .guard } (by simp) rfl
          refine .inl ⟨(by simp only [Region.wanted]; rw [yielded_of (d := 116) (by rfl) g116]; rfl), ?_⟩
          clear g116
          rw [run_oload _ _ 23 (.tmp 5) rfl (cB) (by simpa [Act.eval] using t5) 23 A (0, 0) _ (hlA W hE) Tryd.underlying23 rfl HI.out]
          exact ⟨Below.refl _ _, rfl⟩
        · have t117 : a.tmps.getD 117 undef = .agg A := hd { on := 18, ground := .data } (by simp) rfl
          rw [Array.getD_eq_getD_getElem?] at t117
          have t118 : a.tmps.getD 118 undef = .agg A := hd { on := 19, ground := .data } (by simp) rfl
          rw [Array.getD_eq_getD_getElem?] at t118
          have g116 : a.eval (.tmp 116) = .bool true := hd { on := 17, ground := .guard } (by simp) rfl
          refine .inl ⟨(by simp only [Region.wanted]; rw [yielded_of (d := 116) (by rfl) g116]; rfl), ?_⟩
          clear g116
          go_simp
          exact ⟨Below.refl _ _, rfl⟩
        · have t116 : a.tmps.getD 116 undef = .bool true := hd { on := 17, ground := .data } (by simp) rfl
          rw [Array.getD_eq_getD_getElem?] at t116
          have t119 : a.tmps.getD 119 undef = .bool true := hd { on := 20, ground := .data } (by simp) rfl
          rw [Array.getD_eq_getD_getElem?] at t119
          have g113 : a.eval (.tmp 113) = .bool false := hd { on := 14, ground := .guard } (by simp) rfl
          refine .inl ⟨(by simp only [Region.wanted]; rw [yielded_of (d := 113) (by rfl) g113]; rfl), ?_⟩
          clear g113
          go_simp
          exact ⟨Below.refl _ _, rfl⟩
        · have t113 : a.tmps.getD 113 undef = .bool false := hd { on := 14, ground := .data } (by simp) rfl
          rw [Array.getD_eq_getD_getElem?] at t113
          have t120 : a.tmps.getD 120 undef = .bool true := hd { on := 21, ground := .data } (by simp) rfl
          rw [Array.getD_eq_getD_getElem?] at t120
          have g110 : a.eval (.tmp 110) = .bool true := hd { on := 11, ground := .guard } (by simp) rfl
          refine .inl ⟨(by simp only [Region.wanted]; rw [yielded_of (d := 110) (by rfl) g110]; rfl), ?_⟩
          clear g110
          go_simp
          exact ⟨Below.refl _ _, rfl⟩
        · have t110 : a.tmps.getD 110 undef = .bool true := hd { on := 11, ground := .data } (by simp) rfl
          rw [Array.getD_eq_getD_getElem?] at t110
          have t121 : a.tmps.getD 121 undef = .bool true := hd { on := 22, ground := .data } (by simp) rfl
          rw [Array.getD_eq_getD_getElem?] at t121
          refine .inl ⟨rfl, ?_⟩
          go_simp
          exact ⟨Below.refl _ _, rfl⟩
        · have t122 : a.tmps.getD 122 undef = .bool true := hd { on := 23, ground := .data } (by simp) rfl
          rw [Array.getD_eq_getD_getElem?] at t122
          refine .inl ⟨rfl, ?_⟩
          go_simp
          exact ⟨Below.refl _ _, rfl⟩
        · have t6 : a.tmps.getD 6 undef = .bool true := hF.at 6 (by kernel_rfl)
          rw [Array.getD_eq_getD_getElem?] at t6
          have g123 : a.eval (.tmp 123) = .bool true := hd { on := 24, ground := .guard } (by simp) rfl
          refine .inl ⟨(by simp only [Region.wanted]; rw [yielded_of (d := 123) (by rfl) g123]; rfl), ?_⟩
          clear g123
          go_simp
          exact ⟨Below.refl _ _, rfl⟩
        · have t124 : a.tmps.getD 124 undef = .bool true := hd { on := 25, ground := .data } (by simp) rfl
          rw [Array.getD_eq_getD_getElem?] at t124
          have g123 : a.eval (.tmp 123) = .bool true := hd { on := 24, ground := .guard } (by simp) rfl
          refine .inl ⟨(by simp only [Region.wanted]; rw [yielded_of (d := 123) (by rfl) g123]; rfl), ?_⟩
          clear g123
          go_simp
          exact ⟨Below.refl _ _, rfl⟩
        · have g125 : a.eval (.tmp 125) = .bool true := hd { on := 26, ground := .guard } (by simp) rfl
          exact .inr ⟨(by simp only [Region.wanted]; rw [yielded_of (d := 125) (by rfl) g125]; rfl), rfl⟩
        · have g125 : a.eval (.tmp 125) = .bool true := hd { on := 26, ground := .guard } (by simp) rfl
          exact .inr ⟨(by simp only [Region.wanted]; rw [yielded_of (d := 125) (by rfl) g125]; rfl), rfl⟩
        · have g125 : a.eval (.tmp 125) = .bool true := hd { on := 26, ground := .guard } (by simp) rfl
          exact .inr ⟨(by simp only [Region.wanted]; rw [yielded_of (d := 125) (by rfl) g125]; rfl), rfl⟩
        · have t125 : a.tmps.getD 125 undef = .bool true := hd { on := 26, ground := .data } (by simp) rfl
          rw [Array.getD_eq_getD_getElem?] at t125
          have g123 : a.eval (.tmp 123) = .bool true := hd { on := 24, ground := .guard } (by simp) rfl
          refine .inl ⟨(by simp only [Region.wanted]; rw [yielded_of (d := 123) (by rfl) g123]; rfl), ?_⟩
          clear g123
          go_simp
          exact ⟨Below.refl _ _, rfl⟩
        · have t123 : a.tmps.getD 123 undef = .bool true := hd { on := 24, ground := .data } (by simp) rfl
          rw [Array.getD_eq_getD_getElem?] at t123
          have t129 : a.tmps.getD 129 undef = .bool true := hd { on := 30, ground := .data } (by simp) rfl
          rw [Array.getD_eq_getD_getElem?] at t129
          refine .inl ⟨rfl, ?_⟩
          go_simp
          exact ⟨Below.refl _ _, rfl⟩
        · have t130 : a.tmps.getD 130 undef = .bool true := hd { on := 31, ground := .data } (by simp) rfl
          rw [Array.getD_eq_getD_getElem?] at t130
          refine .inl ⟨rfl, ?_⟩
          go_simp
          exact ⟨Below.refl _ _, rfl⟩
        · have g131 : a.eval (.tmp 131) = .bool true := hd { on := 32, ground := .guard } (by simp) rfl
          refine .inl ⟨(by simp only [Region.wanted]; rw [yielded_of (d := 131) (by rfl) g131]; rfl), ?_⟩
          clear g131
          go_simp
          exact (HAw W (HTw.out.below hE)).mono fun e w2 h => ⟨_, h.1, h.2, rfl⟩
        · have t131 : a.tmps.getD 131 undef = .bool true := hd { on := 32, ground := .data } (by simp) rfl
          rw [Array.getD_eq_getD_getElem?] at t131
          have t132 : a.tmps.getD 132 undef = .bool true := hd { on := 33, ground := .data } (by simp) rfl
          rw [Array.getD_eq_getD_getElem?] at t132
          refine .inl ⟨rfl, ?_⟩
          go_simp
          exact ⟨Below.refl _ _, rfl⟩
        · have t133 : a.tmps.getD 133 undef = .bool true := hd { on := 34, ground := .data } (by simp) rfl
          rw [Array.getD_eq_getD_getElem?] at t133
          refine .inl ⟨rfl, ?_⟩
          go_simp
          exact ⟨Below.refl _ _, rfl⟩
      · intro vs W hE hV
        have h4 : vs 35 = .bool true := hV 35 (by decide)
        have HBf : Hid (Below w.heap.size w W) := HBw.out.trans (hE.mono HBw.out.size)
        clear hV hE
        simp only [putsV, dstsV, List.foldl, h4, Act.put, List.setIfInBounds_toArray, List.set_cons_succ, List.set_cons_zero]
        clear h4
        refine ‹∀ (a : Act) (w : World), Code.wp Tryd.prog Code.ret _ a w → _› _ _ ?_
        go_wp2
        go_ret
        exact ⟨rfl, HBf.out⟩
    | false =>
      have hte : mkS (textC c) = ⟨#[]⟩ := by unfold textC; rw [hok]; rfl
      rw [hte] at HX
      have HP := fun W h => parse_any ⟨#[]⟩ W h (by decide)
      rw [parse_nothing] at HP
      simp only at HP
      rw [HD.out] at HP
      have hs2 : ∀ W, (binOp .eql 23 (.agg D) (.agg D)).run Tryd.prog W = .ok (.bool true) W := fun W => by
        have h := run_sameC defC defC W
        rw [decide_eq_true rfl, HD.out] at h
        exact h
      clear hok hz hz2 hte HD
      generalize c.arr = A at HCa HM HX HI
      go_wp2_with (first | (refine wpList_load_row rfl 23 (.tmp 5) rfl cB rfl 23 A (0, 0) _ HCa.out Tryd.underlying23 rfl HI.out ?_) | fail)
      refine (HX _ (HT.out.below HBw0.out)).mono ?_
      rintro e w5 ⟨rfl, hb⟩
      have HC5 : Hid (CellsAt w5 cB A) := HCa.out.below hb
      have HB5 : Hid (Below w.heap.size w w5) := HBw0.out.trans (hb.mono HBw0.out.size)
      clear hb HCa HBw0
      go_wp2_with fail
      refine (HP _ (HT.out.below HB5.out).1).mono ?_
      rintro e w6 ⟨rfl, hb⟩
      have HF := fun o => stored_facts2 (HC5.out.below hb) (Below.trans HB5.out (hb.mono (Below.size HB5.out))) (D := D) (o := o)
      clear hb HC5 HB5 HP
      go_wp2_with (first | (refine wpList_store_row rfl 23 (.tmp 7) (.tmp 96) rfl w6.heap.size D rfl rfl 23 _ (heap_alloc_new w6 _) HI1.out HS1.out.symm HO1.out ?_; obtain ⟨hf1, hf2, hf3⟩ := HF _; generalize World.setRow _ _ _ = W7 at hf1 hf2 hf3 ⊢; have HF1 : Hid _ := hf1; have HF2 : Hid _ := hf2; have HF3 : Hid _ := hf3; clear hf1 hf2 hf3 HF) | fail)
      have hlA : ∀ W, Below W7.heap.size W7 W → CellsAt W cB A := fun W h => CellsAt.below HF1.out h
      have hlP : ∀ W, Below W7.heap.size W7 W → CellsAt W w6.heap.size D := fun W h => CellsAt.below HF2.out h
      have HBw : Hid (Below w.heap.size w W7) := HF3.out
      have HTw : Hid (Tabs W7) := HT.out.below HBw.out
      refine wp_region_rel4 (fun W W' => Below W.heap.size W W') (fun i v _ => v = ([.agg A, .bool false, .bool false, .bool true, .bool true, .agg A, .string ⟨#[]⟩, .bool false, .bool false, .bool true, .bool true, .bool true, .bool false, .bool true, .bool true, undef, undef, undef, undef, undef, undef, undef, .bool true, .bool true, .bool true, .bool false, .bool false, .agg D, .agg D, .bool true, .bool true, .bool true, .bool true, .bool true, .bool true, .bool true] : List Value).getD i undef) (by kernel_rfl) (by kernel_rfl) (Below.refl _ _).drew (fun W => Below.refl _ _) (fun _ _ _ h1 h2 => h1.trans (h2.mono h1.size)) (fun _ _ _ _ h _ => h) ?_ ?_
      · simp only [stepsAll3]
        refine ⟨fun a W hF hE hd => ?_, fun a W hF hE hd => ?_, fun a W hF hE hd => ?_, fun a W hF hE hd => ?_, fun a W hF hE hd => ?_, fun a W hF hE hd => ?_, fun a W hF hE hd => ?_, fun a W hF hE hd => ?_, fun a W hF hE hd => ?_, fun a W hF hE hd => ?_, fun a W hF hE hd => ?_, fun a W hF hE hd => ?_, fun a W hF hE hd => ?_, fun a W hF hE hd => ?_, fun a W hF hE hd => ?_, fun a W hF hE hd => ?_, fun a W hF hE hd => ?_, fun a W hF hE hd => ?_, fun a W hF hE hd => ?_, fun a W hF hE hd => ?_, fun a W hF hE hd => ?_, fun a W hF hE hd => ?_, fun a W hF hE hd => ?_, fun a W hF hE hd => ?_, fun a W hF hE hd => ?_, fun a W hF hE hd => ?_, fun a W hF hE hd => ?_, fun a W hF hE hd => ?_, fun a W hF hE hd => ?_, fun a W hF hE hd => ?_, fun a W hF hE hd => ?_, fun a W hF hE hd => ?_, fun a W hF hE hd => ?_, fun a W hF hE hd => ?_, fun a W hF hE hd => ?_, fun a W hF hE hd => ?_, trivial⟩
        all_goals unfold StepAt
        · have t5 : a.tmps.getD 5 undef = .pointer (some ⟨cB, 0, none⟩) := hF.at 5 (by kernel_rfl)
          rw [Array.getD_eq_getD_getElem?] at t5
          refine .inl ⟨rfl, ?_⟩
          rw [run_oload _ _ 23 (.tmp 5) rfl (cB) (by simpa [Act.eval] using t5) 23 A (0, 0) _ (hlA W hE) Tryd.underlying23 rfl HI.out]
          exact ⟨Below.refl _ _, rfl⟩
        · have t99 : a.tmps.getD 99 undef = .agg A := hd { on := 0, ground := .data } (by simp) rfl
          rw [Array.getD_eq_getD_getElem?] at t99
          refine .inl ⟨rfl, ?_⟩
          go_simp
          exact (HM W (HTw.out.below hE).1).mono fun e w2 h => ⟨_, h.1, h.2, rfl⟩
        · have t6 : a.tmps.getD 6 undef = .bool false := hF.at 6 (by kernel_rfl)
          rw [Array.getD_eq_getD_getElem?] at t6
          refine .inl ⟨rfl, ?_⟩
          go_simp
          exact ⟨Below.refl _ _, rfl⟩
        · have t100 : a.tmps.getD 100 undef = .bool false := hd { on := 1, ground := .data } (by simp) rfl
          rw [Array.getD_eq_getD_getElem?] at t100
          have t101 : a.tmps.getD 101 undef = .bool false := hd { on := 2, ground := .data } (by simp) rfl
          rw [Array.getD_eq_getD_getElem?] at t101
          refine .inl ⟨rfl, ?_⟩
          go_simp
          exact ⟨Below.refl _ _, rfl⟩
        · have t102 : a.tmps.getD 102 undef = .bool true := hd { on := 3, ground := .data } (by simp) rfl
          rw [Array.getD_eq_getD_getElem?] at t102
          refine .inl ⟨rfl, ?_⟩
          go_simp
          exact ⟨Below.refl _ _, rfl⟩
        · have t5 : a.tmps.getD 5 undef = .pointer (some ⟨cB, 0, none⟩) := hF.at 5 (by kernel_rfl)
          rw [Array.getD_eq_getD_getElem?] at t5
          have g103 : a.eval (.tmp 103) = .bool true := hd { on := 4, ground := .guard } (by simp) rfl
          refine .inl ⟨(by simp only [Region.wanted]; rw [yielded_of (d := 103) (by rfl) g103]; rfl), ?_⟩
          clear g103
          rw [run_oload _ _ 23 (.tmp 5) rfl (cB) (by simpa [Act.eval] using t5) 23 A (0, 0) _ (hlA W hE) Tryd.underlying23 rfl HI.out]
          exact ⟨Below.refl _ _, rfl⟩
        · have t104 : a.tmps.getD 104 undef = .agg A := hd { on := 5, ground := .data } (by simp) rfl
          rw [Array.getD_eq_getD_getElem?] at t104
          have g103 : a.eval (.tmp 103) = .bool true := hd { on := 4, ground := .guard } (by simp) rfl
          refine .inl ⟨(by simp only [Region.wanted]; rw [yielded_of (d := 103) (by rfl) g103]; rfl), ?_⟩
          clear g103
          go_simp
          exact (HX W (HTw.out.below hE)).mono fun e w2 h => ⟨_, h.1, h.2, rfl⟩
        · have t105 : a.tmps.getD 105 undef = .string ⟨#[]⟩ := hd { on := 6, ground := .data } (by simp) rfl
          rw [Array.getD_eq_getD_getElem?] at t105
          have g103 : a.eval (.tmp 103) = .bool true := hd { on := 4, ground := .guard } (by simp) rfl
          refine .inl ⟨(by simp only [Region.wanted]; rw [yielded_of (d := 103) (by rfl) g103]; rfl), ?_⟩
          clear g103
          go_simp
          exact ⟨Below.refl _ _, rfl⟩
        · have t6 : a.tmps.getD 6 undef = .bool false := hF.at 6 (by kernel_rfl)
          rw [Array.getD_eq_getD_getElem?] at t6
          have g103 : a.eval (.tmp 103) = .bool true := hd { on := 4, ground := .guard } (by simp) rfl
          refine .inl ⟨(by simp only [Region.wanted]; rw [yielded_of (d := 103) (by rfl) g103]; rfl), ?_⟩
          clear g103
          go_simp
          exact ⟨Below.refl _ _, rfl⟩
        · have t106 : a.tmps.getD 106 undef = .bool false := hd { on := 7, ground := .data } (by simp) rfl
          rw [Array.getD_eq_getD_getElem?] at t106
          have t107 : a.tmps.getD 107 undef = .bool false := hd { on := 8, ground := .data } (by simp) rfl
          rw [Array.getD_eq_getD_getElem?] at t107
          have g103 : a.eval (.tmp 103) = .bool true := hd { on := 4, ground := .guard } (by simp) rfl
          refine .inl ⟨(by simp only [Region.wanted]; rw [yielded_of (d := 103) (by rfl) g103]; rfl), ?_⟩
          clear g103
          go_simp
          exact ⟨Below.refl _ _, rfl⟩
        · have t103 : a.tmps.getD 103 undef = .bool true := hd { on := 4, ground := .data } (by simp) rfl
          rw [Array.getD_eq_getD_getElem?] at t103
          have t108 : a.tmps.getD 108 undef = .bool true := hd { on := 9, ground := .data } (by simp) rfl
          rw [Array.getD_eq_getD_getElem?] at t108
          refine .inl ⟨rfl, ?_⟩
          go_simp
          exact ⟨Below.refl _ _, rfl⟩
        · have t109 : a.tmps.getD 109 undef = .bool true := hd { on := 10, ground := .data } (by simp) rfl
          rw [Array.getD_eq_getD_getElem?] at t109
          refine .inl ⟨rfl, ?_⟩
          go_simp
          exact ⟨Below.refl _ _, rfl⟩
        · have t6 : a.tmps.getD 6 undef = .bool false := hF.at 6 (by kernel_rfl)
          rw [Array.getD_eq_getD_getElem?] at t6
          have g110 : a.eval (.tmp 110) = .bool true := hd { on := 11, ground := .guard } (by simp) rfl
          refine .inl ⟨(by simp only [Region.wanted]; rw [yielded_of (d := 110) (by rfl) g110]; rfl), ?_⟩
          clear g110
          go_simp
          exact ⟨Below.refl _ _, rfl⟩
        · have t111 : a.tmps.getD 111 undef = .bool false := hd { on := 12, ground := .data } (by simp) rfl
          rw [Array.getD_eq_getD_getElem?] at t111
          have g110 : a.eval (.tmp 110) = .bool true := hd { on := 11, ground := .guard } (by simp) rfl
          refine .inl ⟨(by simp only [Region.wanted]; rw [yielded_of (d := 110) (by rfl) g110]; rfl), ?_⟩
          clear g110
          go_simp
          exact ⟨Below.refl _ _, rfl⟩
        · have t112 : a.tmps.getD 112 undef = .bool true := hd { on := 13, ground := .data } (by simp) rfl
          rw [Array.getD_eq_getD_getElem?] at t112
          have g110 : a.eval (.tmp 110) = .bool true := hd { on := 11, ground := .guard } (by simp) rfl
          refine .inl ⟨(by simp only [Region.wanted]; rw [yielded_of (d := 110) (by rfl) g110]; rfl), ?_⟩
          clear g110
          go_simp
          exact ⟨Below.refl _ _, rfl⟩
        · have g113 : a.eval (.tmp 113) = .bool true := hd { on := 14, ground := .guard } (by simp) rfl
          exact .inr ⟨(by simp only [Region.wanted]; rw [yielded_of (d := 113) (by rfl) g113]; rfl), rfl⟩
        · have g113 : a.eval (.tmp 113) = .bool true := hd { on := 14, ground := .guard } (by simp) rfl
          exact .inr ⟨(by simp only [Region.wanted]; rw [yielded_of (d := 113) (by rfl) g113]; rfl), rfl⟩
        · have g113 : a.eval (.tmp 113) = .bool true := hd { on := 14, ground := .guard } (by simp) rfl
          exact .inr ⟨(by simp only [Region.wanted]; rw [yielded_of (d := 113) (by rfl) g113]; rfl), rfl⟩
        · have g116 : a.eval (.tmp 116) = undef := hd { on := 17, ground := .guard } (by simp) rfl
          exact .inr ⟨(by simp only [Region.wanted]; rw [yielded_none (d := 116) (by rfl) g116]; rfl), rfl⟩
        · have g116 : a.eval (.tmp 116) = undef := hd { on := 17, ground := .guard } (by simp) rfl
          exact .inr ⟨(by simp only [Region.wanted]; rw [yielded_none (d := 116) (by rfl) g116]; rfl), rfl⟩
        · have g116 : a.eval (.tmp 116) = undef := hd { on := 17, ground := .guard } (by simp) rfl
          exact .inr ⟨(by simp only [Region.wanted]; rw [yielded_none (d := 116) (by rfl) g116]; rfl), rfl⟩
        · have g113 : a.eval (.tmp 113) = .bool true := hd { on := 14, ground := .guard } (by simp) rfl
          exact .inr ⟨(by simp only [Region.wanted]; rw [yielded_of (d := 113) (by rfl) g113]; rfl), rfl⟩
        · have t113 : a.tmps.getD 113 undef = .bool true := hd { on := 14, ground := .data } (by simp) rfl
          rw [Array.getD_eq_getD_getElem?] at t113
          have g110 : a.eval (.tmp 110) = .bool true := hd { on := 11, ground := .guard } (by simp) rfl
          refine .inl ⟨(by simp only [Region.wanted]; rw [yielded_of (d := 110) (by rfl) g110]; rfl), ?_⟩
          clear g110
          go_simp
          exact ⟨Below.refl _ _, rfl⟩
        · have t110 : a.tmps.getD 110 undef = .bool true := hd { on := 11, ground := .data } (by simp) rfl
          rw [Array.getD_eq_getD_getElem?] at t110
          have t121 : a.tmps.getD 121 undef = .bool true := hd { on := 22, ground := .data } (by simp) rfl
          rw [Array.getD_eq_getD_getElem?] at t121
          refine .inl ⟨rfl, ?_⟩
          go_simp
          exact ⟨Below.refl _ _, rfl⟩
        · have t122 : a.tmps.getD 122 undef = .bool true := hd { on := 23, ground := .data } (by simp) rfl
          rw [Array.getD_eq_getD_getElem?] at t122
          refine .inl ⟨rfl, ?_⟩
          go_simp
          exact ⟨Below.refl _ _, rfl⟩
        · have t6 : a.tmps.getD 6 undef = .bool false := hF.at 6 (by kernel_rfl)
          rw [Array.getD_eq_getD_getElem?] at t6
          have g123 : a.eval (.tmp 123) = .bool true := hd { on := 24, ground := .guard } (by simp) rfl
          refine .inl ⟨(by simp only [Region.wanted]; rw [yielded_of (d := 123) (by rfl) g123]; rfl), ?_⟩
          clear g123
          go_simp
          exact ⟨Below.refl _ _, rfl⟩
        · have t124 : a.tmps.getD 124 undef = .bool false := hd { on := 25, ground := .data } (by simp) rfl
          rw [Array.getD_eq_getD_getElem?] at t124
          have g123 : a.eval (.tmp 123) = .bool true := hd { on := 24, ground := .guard } (by simp) rfl
          refine .inl ⟨(by simp only [Region.wanted]; rw [yielded_of (d := 123) (by rfl) g123]; rfl), ?_⟩
          clear g123
          go_simp
          exact ⟨Below.refl _ _, rfl⟩
        · have t7 : a.tmps.getD 7 undef = .pointer (some ⟨w6.heap.size, 0, none⟩) := hF.at 7 (by kernel_rfl)
          rw [Array.getD_eq_getD_getElem?] at t7
          have g125 : a.eval (.tmp 125) = .bool false := hd { on := 26, ground := .guard } (by simp) rfl
          refine .inl ⟨(by simp only [Region.wanted]; rw [yielded_of (d := 125) (by rfl) g125]; rfl), ?_⟩
          clear g125
          rw [run_oload _ _ 23 (.tmp 7) rfl (w6.heap.size) (by simpa [Act.eval] using t7) 23 D (0, 0) _ (hlP W hE) Tryd.underlying23 rfl HI1.out]
          exact ⟨Below.refl _ _, rfl⟩
        · have g125 : a.eval (.tmp 125) = .bool false := hd { on := 26, ground := .guard } (by simp) rfl
          refine .inl ⟨(by simp only [Region.wanted]; rw [yielded_of (d := 125) (by rfl) g125]; rfl), ?_⟩
          clear g125
          go_simp
          exact (HDf W (HTw.out.below hE).1).mono fun e w2 h => ⟨_, h.1, h.2, rfl⟩
        · have t126 : a.tmps.getD 126 undef = .agg D := hd { on := 27, ground := .data } (by simp) rfl
          rw [Array.getD_eq_getD_getElem?] at t126
          have t127 : a.tmps.getD 127 undef = .agg D := hd { on := 28, ground := .data } (by simp) rfl
          rw [Array.getD_eq_getD_getElem?] at t127
          have g125 : a.eval (.tmp 125) = .bool false := hd { on := 26, ground := .guard } (by simp) rfl
          refine .inl ⟨(by simp only [Region.wanted]; rw [yielded_of (d := 125) (by rfl) g125]; rfl), ?_⟩
          clear g125
          go_simp
          exact ⟨Below.refl _ _, rfl⟩
        · have t125 : a.tmps.getD 125 undef = .bool false := hd { on := 26, ground := .data } (by simp) rfl
          rw [Array.getD_eq_getD_getElem?] at t125
          have t128 : a.tmps.getD 128 undef = .bool true := hd { on := 29, ground := .data } (by simp) rfl
          rw [Array.getD_eq_getD_getElem?] at t128
          have g123 : a.eval (.tmp 123) = .bool true := hd { on := 24, ground := .guard } (by simp) rfl
          refine .inl ⟨(by simp only [Region.wanted]; rw [yielded_of (d := 123) (by rfl) g123]; rfl), ?_⟩
          clear g123
          go_simp
          exact ⟨Below.refl _ _, rfl⟩
        · have t123 : a.tmps.getD 123 undef = .bool true := hd { on := 24, ground := .data } (by simp) rfl
          rw [Array.getD_eq_getD_getElem?] at t123
          have t129 : a.tmps.getD 129 undef = .bool true := hd { on := 30, ground := .data } (by simp) rfl
          rw [Array.getD_eq_getD_getElem?] at t129
          refine .inl ⟨rfl, ?_⟩
          go_simp
          exact ⟨Below.refl _ _, rfl⟩
        · have t130 : a.tmps.getD 130 undef = .bool true := hd { on := 31, ground := .data } (by simp) rfl
          rw [Array.getD_eq_getD_getElem?] at t130
          refine .inl ⟨rfl, ?_⟩
          go_simp
          exact ⟨Below.refl _ _, rfl⟩
        · have g131 : a.eval (.tmp 131) = .bool true := hd { on := 32, ground := .guard } (by simp) rfl
          refine .inl ⟨(by simp only [Region.wanted]; rw [yielded_of (d := 131) (by rfl) g131]; rfl), ?_⟩
          clear g131
          go_simp
          exact (HAw W (HTw.out.below hE)).mono fun e w2 h => ⟨_, h.1, h.2, rfl⟩
        · have t131 : a.tmps.getD 131 undef = .bool true := hd { on := 32, ground := .data } (by simp) rfl
          rw [Array.getD_eq_getD_getElem?] at t131
          have t132 : a.tmps.getD 132 undef = .bool true := hd { on := 33, ground := .data } (by simp) rfl
          rw [Array.getD_eq_getD_getElem?] at t132
          refine .inl ⟨rfl, ?_⟩
          go_simp
          exact ⟨Below.refl _ _, rfl⟩
        · have t133 : a.tmps.getD 133 undef = .bool true := hd { on := 34, ground := .data } (by simp) rfl
          rw [Array.getD_eq_getD_getElem?] at t133
          refine .inl ⟨rfl, ?_⟩
          go_simp
          exact ⟨Below.refl _ _, rfl⟩
      · intro vs W hE hV
        have h4 : vs 35 = .bool true := hV 35 (by decide)
        have HBf : Hid (Below w.heap.size w W) := HBw.out.trans (hE.mono HBw.out.size)
        clear hV hE
        simp only [putsV, dstsV, List.foldl, h4, Act.put, List.setIfInBounds_toArray, List.set_cons_succ, List.set_cons_zero]
        clear h4
        refine ‹∀ (a : Act) (w : World), Code.wp Tryd.prog Code.ret _ a w → _› _ _ ?_
        go_wp2
        go_ret
        exact ⟨rfl, HBf.out⟩


theorem reads_ConfigBounds (os : Os) {H : Type} (enc : TypeId × Value → H) : ∃ places, DataW.whole enc Tryd.prog ((laidWorld os).forCall (fun _ _ => 0) ⟨#[], #[.int .i64 0, .int .i64 0], []⟩).memory Tryd.f7.params.toList Rows.configBoundsSpec.vars false (#[.int .i64 0, .int .i64 0] : Array Value).toList 8 = some ([.lit (.int .i64 0), .lit (.int .i64 0)], [], places) :=
  ⟨[], by kernel_rfl⟩

set_option maxRecDepth 100000 in
theorem lifted_ConfigBounds (os : Os) (started : os.Started) (H : Type) (enc : TypeId × Value → H) (F : Stop.Interp) :
    ReturnsInHanded {} Tryd.checked os 7 .any ((OpenSpec.ofChange Rows.configBoundsSpec).preRow enc Tryd.prog Tryd.f7 Rows.configBoundsRow.domain false Rows.configBoundsRow.laid) (((OpenSpec.ofChange Rows.configBoundsSpec).at F).post enc Tryd.prog Tryd.f7 false true false false) := by
  obtain ⟨places, hx⟩ := reads_ConfigBounds os enc
  refine returnsInHanded_of_row (C := Tryd.checked) (s := OpenSpec.ofChange Rows.configBoundsSpec) own started (by kernel_rfl) Tryd.func7
    (witness_row_at (enc := enc) (C := Tryd.checked) false (laidWorld os) #[.int .i64 0, .int .i64 0] rfl (by kernel_rfl) (by kernel_rfl) (by kernel_rfl)
      (OpenSpec.preRow_of_cond 8 hx (by kernel_rfl) (fun k hk => by cases hk) (by kernel_rfl) (laid_met os _))) ?_
  intro W base args ds gs before hval0 hW _ _ hsz0 hL _ _
  have htab := table hL
  have hval : ∀ (j : Nat) t v, Tryd.f7.params[j]? = some t → args[j]? = some v → Value.okWide Tryd.prog W .any base t v := hval0
  have hW' := hW
  obtain ⟨p, q, hA0, hV, rfl, hfz, hnd⟩ := hW
  have hA : DataW.TrodAll enc Tryd.prog W 0 (fun _ => true) true Tryd.f7.params.toList args.toList ds p := hA0
  rw [Tryd.params7] at hA hval
  obtain ⟨v0, vs0, d0, ds0, p0, q0, hargs, rfl, rfl, h0, r0⟩ := trodAll_cons hA
  obtain ⟨v1, vs1, d1, ds1, p1, q1, rfl, rfl, rfl, h1, r1⟩ := trodAll_cons r0
  obtain ⟨rfl, rfl, rfl⟩ := trodAll_nil r1
  obtain rfl : args = #[v0, v1] := by cases args; simp_all
  obtain ⟨rfl, rfl⟩ := trodVars_none hV
  obtain ⟨a0, rfl, rfl, rfl, w0⟩ := open_int Tryd.underlying3 (hval 0 3 v0 rfl rfl) h0
  obtain ⟨a1, rfl, rfl, rfl, w1⟩ := open_int Tryd.underlying3 (hval 1 3 v1 rfl rfl) h1
  clear hA0 hval0
  refine (walk_ConfigBounds a0 (bounds_i64 w0) a1 (bounds_i64 w1) W htab).mono fun e W' ⟨he, bel⟩ => ?_
  subst he
  exact ⟨_, rfl, _, _, _, [], _, [], hW', trodAll_mk1 (shut_bool Tryd.underlying4 _), (trodAll_cons_mk (shut_int Tryd.underlying3 w0) (trodAll_cons_mk (shut_int Tryd.underlying3 w1) trodAll_mk0)), rfl, bel.frame _, fun h => by cases h⟩

theorem said_ConfigBounds : Rows.ConfigBoundsSaid :=
  OpenClaim.holds_of_cond 7 Tryd.f7 rfl rfl rfl rfl rfl rfl rfl ⟨rfl, rfl, rfl, rfl, rfl⟩ rfl rfl rfl rfl rfl (by kernel_rfl) Tryd.func7 (by kernel_rfl)
    (of_decide_eq_true (by kernel_rfl)) (by unfold Func.isWrapper; first | (rw [if_pos (by decide +kernel)]; kernel_rfl) | (rw [if_neg (by decide +kernel)]; exact ⟨rfl, rfl⟩))
    (fun os started H enc _ F => by rw [OpenClaim.pre_eq_preRow]; exact lifted_ConfigBounds os started H enc F)

theorem plain_ConfigBounds (f : FuncId) (fn : Func) (hf : Tryd.pinned.checked.prog.funcNamed Rows.configBoundsRow.func = some f) (hfn : Tryd.pinned.checked.prog.funcs[f]? = some fn) :
    false = Tryd.pinned.checked.prog.looks [] ∧ ∀ (j : Nat) t, fn.params[j]? = some t → Tryd.pinned.checked.prog.wantsStandIn t = false := by
  obtain rfl : f = 7 := Option.some.inj ((show Tryd.prog.funcNamed Rows.configBoundsRow.func = some 7 by kernel_rfl).symm.trans hf) |>.symm
  obtain rfl : fn = Tryd.f7 := (Option.some.inj (Tryd.func7.symm.trans hfn)).symm
  refine ⟨by kernel_rfl, fun j t ht => ?_⟩
  rw [Tryd.params7] at ht
  have hm := Array.mem_of_getElem? ht
  simp only [List.mem_toArray, List.mem_cons, List.not_mem_nil, or_false] at hm
  rcases hm with rfl | rfl
  · exact (show Tryd.prog.wantsStandIn 3 = false by kernel_rfl)
  · exact (show Tryd.prog.wantsStandIn 3 = false by kernel_rfl)

/-- The statement. -/
theorem configBounds_holds : Rows.ConfigBoundsCardSaid :=
  Claim7.holds_tied_plain_at .later [] _ _ _ _ said_ConfigBounds (fun _ h => by cases h) (by kernel_rfl) (fun _ h => by cases h) configBounds_row_tie rfl ⟨rfl, rfl⟩ (by kernel_rfl) rfl plain_ConfigBounds (by kernel_rfl)
#print axioms configBounds_holds

end Go.Proofs.YtmhbfcjlbhighaaDoor

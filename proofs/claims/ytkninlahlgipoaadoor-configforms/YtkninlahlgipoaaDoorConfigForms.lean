/-
  ConfigForms, for every configuration and every text: what package config answers is what the statement's own answers say; a text of more than 6000 bytes, and a zone of more than 100, is not asked. No condition but that the two tables are as the program's text lays them (the card).
-/
import Derived.Test.YtkninlahlgipoaaDoorConfFrame
import Derived.Test.YtkninlahlgipoaaDoorConfEq
import Derived.Test.YtkninlahlgipoaaDoorConfLaw
import Derived.Test.YtkninlahlgipoaaDoorRefParse
import Derived.Test.YtkninlahlgipoaaDoorRefText
namespace Go.Proofs.YtkninlahlgipoaaDoor
open Go.ChangeShapes Go.WideShapes Go.ChangeAt Go.RowKit
open Go.ChangeMaps (open_string shut_string)

set_option maxRecDepth 100000 in
set_option maxHeartbeats 8000000 in
theorem walk_ConfigForms (c : Cfg) (hz : c.zone.size ≤ 9223372036854775807) (s : ByteArray) (hs0 : s.size ≤ maxLen) (w : World) (ht : Tabs w) :
    Calls Tryd.prog 3 #[.agg c.arr, .string s] w fun e w' => e = .returned (.bool true) ∧ Below w.heap.size w w' := by
  have hs : s.size ≤ 9223372036854775807 := hs0
  clear hs0
  have HT : Hid (Tabs w) := ht
  have hz21 := arr_zone c
  have HZ : Hid _ := hz21
  by_cases hbig : (6000 : Int) < (s.size : Int) ∨ (100 : Int) < (c.zone.size : Int)
  · have : ((6000 : Int) < (s.size : Int)) ∨ (¬ (6000 : Int) < (s.size : Int) ∧ (100 : Int) < (c.zone.size : Int)) := by omega
    have HI1 : Hid _ := arr_info c
    clear ht hbig
    generalize c.arr = A at hz21 HZ HI1
    generalize c.zone = z at hz21 HZ this hz
    rcases this with h1 | ⟨h1, h2⟩
    all_goals
      go_enter Tryd.func3, Tryd.ntmps3
      go_wp2_with fail
      refine (awake_any _ (HT.out.below ((Below.refl _ _).alloc (Nat.le_refl _) _))).mono ?_
      rintro e w1 ⟨rfl, hb⟩
      have HB : Hid (Below w.heap.size w w1) := ((Below.refl _ _).alloc (Nat.le_refl _) _).trans (hb.mono (by simp))
      clear hb
      go_wp2
      go_ret
      exact ⟨rfl, HB.out⟩
  have h1 : ¬ (6000 : Int) < (s.size : Int) := by omega
  have h2 : ¬ (100 : Int) < (c.zone.size : Int) := by omega
  have HP := fun W h => parse_any s W h hs
  have HR := fun W => rParse_any s W hs
  have hsame := fun W => run_sameC (parseV s).1 (parseV s).1 W
  have hsameD := fun W => run_sameC defC defC W
  rw [decide_eq_true rfl] at hsame hsameD
  have HX := fun W h => text_any c W h hz
  have HXr := fun W h => rText_any c W h hz
  have HM := fun W h => may_any c W h hz
  have HMr := fun W => rMay_any c W hz
  rw [val_arr] at HMr
  have HD := fun W h => default_any W h
  have HDr := fun W => rDefault_any W
  rw [val_arr] at HDr
  have HAw := fun W h => awake_any W h
  have hg := eq_guard
  have HI1 : Hid _ := arr_info c
  have HI2 : Hid _ := arr_info (parseV s).1
  have HO2 : Hid _ := arr_one (parseV s).1
  have HS2 : Hid ((parseV s).1.arr.size = 23) := rfl
  clear ht hbig
  generalize mkS (textC c) = X at HX HXr
  generalize mayC c = m at HM HMr
  generalize (parseV s).1.arr = B at HP HR hsame HI2 HO2 HS2
  generalize (parseV s).2.1 = n at HP HR
  generalize (parseV s).2.2 = er at HP HR
  generalize defC.arr = D at HD HDr hsameD
  generalize c.arr = A at hz21 HZ HX HXr HM HMr HI1 ⊢
  generalize c.zone = z at hz21 HZ h2 hz
  go_enter Tryd.func3, Tryd.ntmps3
  go_wp2_with fail
  generalize hW0 : w.alloc _ = W0
  have HA0 : Hid (CellsAt W0 w.heap.size A) := by show CellsAt _ _ _; rw [← hW0]; exact heap_alloc_new w _
  have HB0 : Hid (Below w.heap.size w W0) := by show Below _ _ _; rw [← hW0]; exact (Below.refl _ _).alloc (Nat.le_refl _) _
  clear hW0
  refine (HP _ (HT.out.below HB0.out).1).mono ?_
  rintro e w1 ⟨rfl, hb⟩
  have HF := fun o => stored_facts2 (HA0.out.below hb) (HB0.out.trans (hb.mono HB0.out.size)) (D := B) (o := o)
  clear hb HP HA0 HB0
  go_wp2_with (first | (refine wpList_store_row rfl 23 (.tmp 5) (.tmp 24) rfl w1.heap.size B rfl rfl 23 _ (heap_alloc_new w1 _) HI2.out HS2.out.symm HO2.out ?_; obtain ⟨hf1, hf2, hf3⟩ := HF _; generalize World.setRow _ _ _ = W2 at hf1 hf2 hf3 ⊢; have HF1 : Hid _ := hf1; have HF2 : Hid _ := hf2; have HF3 : Hid _ := hf3; clear hf1 hf2 hf3 HF) | fail)
  refine (HR _).mono ?_
  rintro e w3 ⟨rfl, hb⟩
  have HF := fun o => stored_facts3 (CellsAt.below HF1.out hb) (CellsAt.below HF2.out hb) (Below.trans HF3.out (hb.mono (Below.size HF3.out))) (D := B) (o := o)
  clear hb HR HF1 HF2 HF3
  go_wp2_with (first | (refine wpList_store_row rfl 23 (.tmp 8) (.tmp 30) rfl w3.heap.size B rfl rfl 23 _ (heap_alloc_new w3 _) HI2.out HS2.out.symm HO2.out ?_; obtain ⟨hf1, hf2, hf3, hf4⟩ := HF _; generalize World.setRow _ _ _ = W4 at hf1 hf2 hf3 hf4 ⊢; have HF1 : Hid _ := hf1; have HF2 : Hid _ := hf2; have HF3 : Hid _ := hf3; have HBw : Hid _ := hf4; clear hf1 hf2 hf3 hf4 HF) | fail)
  have hlA : ∀ W, Below W4.heap.size W4 W → CellsAt W w.heap.size A := fun W q => CellsAt.below HF1.out q
  have hlB : ∀ W, Below W4.heap.size W4 W → CellsAt W w1.heap.size B := fun W q => CellsAt.below HF2.out q
  have hlC : ∀ W, Below W4.heap.size W4 W → CellsAt W w3.heap.size B := fun W q => CellsAt.below HF3.out q
  have HB0 : Hid (Below w.heap.size w W4) := HBw.out
  have HTw : Hid (Tabs W4) := HT.out.below HB0.out
  clear HF1 HF2 HF3 HBw hz21 HZ
  refine wp_region_rel4 (fun W W' => Below W.heap.size W W') (fun jj vv _ => vv = ([.agg B, .agg B, .bool true, .bool true, .int .i64 n, .int .i64 n, .bool true, .bool true, .bool true, .int .i64 er, .int .i64 er, .bool true, .bool true, .bool true, .agg A, .string X, .agg A, .string X, .bool true, .bool true, .bool true, .agg A, .bool m, .agg A, .bool m, .bool true, .bool true, .bool true, .agg D, .agg D, .bool true, .bool true, .bool true, .bool true, .bool true, .bool true] : List Value).getD jj undef) (by kernel_rfl) (by kernel_rfl) (Below.refl _ _).drew (fun W => Below.refl _ _) (fun _ _ _ h1 h2 => h1.trans (h2.mono h1.size)) (fun _ _ _ _ h _ => h) ?_ ?_
  · simp only [stepsAll3]
    refine ⟨fun a W hF hE hd => ?_, fun a W hF hE hd => ?_, fun a W hF hE hd => ?_, fun a W hF hE hd => ?_, fun a W hF hE hd => ?_, fun a W hF hE hd => ?_, fun a W hF hE hd => ?_, fun a W hF hE hd => ?_, fun a W hF hE hd => ?_, fun a W hF hE hd => ?_, fun a W hF hE hd => ?_, fun a W hF hE hd => ?_, fun a W hF hE hd => ?_, fun a W hF hE hd => ?_, fun a W hF hE hd => ?_, fun a W hF hE hd => ?_, fun a W hF hE hd => ?_, fun a W hF hE hd => ?_, fun a W hF hE hd => ?_, fun a W hF hE hd => ?_, fun a W hF hE hd => ?_, fun a W hF hE hd => ?_, fun a W hF hE hd => ?_, fun a W hF hE hd => ?_, fun a W hF hE hd => ?_, fun a W hF hE hd => ?_, fun a W hF hE hd => ?_, fun a W hF hE hd => ?_, fun a W hF hE hd => ?_, fun a W hF hE hd => ?_, fun a W hF hE hd => ?_, fun a W hF hE hd => ?_, fun a W hF hE hd => ?_, fun a W hF hE hd => ?_, fun a W hF hE hd => ?_, fun a W hF hE hd => ?_, trivial⟩
    all_goals unfold StepAt
    · have t5 : a.tmps.getD 5 undef = .pointer (some ⟨w1.heap.size, 0, none⟩) := hF.at 5 (by kernel_rfl)
      rw [Array.getD_eq_getD_getElem?] at t5
      refine .inl ⟨rfl, ?_⟩
      rw [run_oload _ _ 23 (.tmp 5) rfl (w1.heap.size) (by simpa [Act.eval] using t5) 23 B (0, 0) _ (hlB W hE) Tryd.underlying23 rfl HI2.out]
      exact ⟨Below.refl _ _, rfl⟩
    · have t8 : a.tmps.getD 8 undef = .pointer (some ⟨w3.heap.size, 0, none⟩) := hF.at 8 (by kernel_rfl)
      rw [Array.getD_eq_getD_getElem?] at t8
      refine .inl ⟨rfl, ?_⟩
      rw [run_oload _ _ 23 (.tmp 8) rfl (w3.heap.size) (by simpa [Act.eval] using t8) 23 B (0, 0) _ (hlC W hE) Tryd.underlying23 rfl HI2.out]
      exact ⟨Below.refl _ _, rfl⟩
    · have t33 : a.tmps.getD 33 undef = .agg B := hd { on := 0, ground := .data } (by simp) rfl
      rw [Array.getD_eq_getD_getElem?] at t33
      have t34 : a.tmps.getD 34 undef = .agg B := hd { on := 1, ground := .data } (by simp) rfl
      rw [Array.getD_eq_getD_getElem?] at t34
      refine .inl ⟨rfl, ?_⟩
      go_simp
      exact ⟨Below.refl _ _, rfl⟩
    · have t35 : a.tmps.getD 35 undef = .bool true := hd { on := 2, ground := .data } (by simp) rfl
      rw [Array.getD_eq_getD_getElem?] at t35
      refine .inl ⟨rfl, ?_⟩
      go_simp
      exact ⟨Below.refl _ _, rfl⟩
    · have t6 : a.tmps.getD 6 undef = .int .i64 n := hF.at 6 (by kernel_rfl)
      rw [Array.getD_eq_getD_getElem?] at t6
      have g36 : a.eval (.tmp 36) = .bool true := hd { on := 3, ground := .guard } (by simp) rfl
      refine .inl ⟨(by simp only [Region.wanted]; rw [yielded_of (d := 36) (by rfl) g36]; rfl), ?_⟩
      clear g36
      go_simp
      exact ⟨Below.refl _ _, rfl⟩
    · have t9 : a.tmps.getD 9 undef = .int .i64 n := hF.at 9 (by kernel_rfl)
      rw [Array.getD_eq_getD_getElem?] at t9
      have g36 : a.eval (.tmp 36) = .bool true := hd { on := 3, ground := .guard } (by simp) rfl
      refine .inl ⟨(by simp only [Region.wanted]; rw [yielded_of (d := 36) (by rfl) g36]; rfl), ?_⟩
      clear g36
      go_simp
      exact ⟨Below.refl _ _, rfl⟩
    · have t37 : a.tmps.getD 37 undef = .int .i64 n := hd { on := 4, ground := .data } (by simp) rfl
      rw [Array.getD_eq_getD_getElem?] at t37
      have t38 : a.tmps.getD 38 undef = .int .i64 n := hd { on := 5, ground := .data } (by simp) rfl
      rw [Array.getD_eq_getD_getElem?] at t38
      have g36 : a.eval (.tmp 36) = .bool true := hd { on := 3, ground := .guard } (by simp) rfl
      refine .inl ⟨(by simp only [Region.wanted]; rw [yielded_of (d := 36) (by rfl) g36]; rfl), ?_⟩
      clear g36
      go_simp
      exact ⟨Below.refl _ _, rfl⟩
    · have t36 : a.tmps.getD 36 undef = .bool true := hd { on := 3, ground := .data } (by simp) rfl
      rw [Array.getD_eq_getD_getElem?] at t36
      have t39 : a.tmps.getD 39 undef = .bool true := hd { on := 6, ground := .data } (by simp) rfl
      rw [Array.getD_eq_getD_getElem?] at t39
      refine .inl ⟨rfl, ?_⟩
      go_simp
      exact ⟨Below.refl _ _, rfl⟩
    · have t40 : a.tmps.getD 40 undef = .bool true := hd { on := 7, ground := .data } (by simp) rfl
      rw [Array.getD_eq_getD_getElem?] at t40
      refine .inl ⟨rfl, ?_⟩
      go_simp
      exact ⟨Below.refl _ _, rfl⟩
    · have t7 : a.tmps.getD 7 undef = .int .i64 er := hF.at 7 (by kernel_rfl)
      rw [Array.getD_eq_getD_getElem?] at t7
      have g41 : a.eval (.tmp 41) = .bool true := hd { on := 8, ground := .guard } (by simp) rfl
      refine .inl ⟨(by simp only [Region.wanted]; rw [yielded_of (d := 41) (by rfl) g41]; rfl), ?_⟩
      clear g41
      go_simp
      exact ⟨Below.refl _ _, rfl⟩
    · have t10 : a.tmps.getD 10 undef = .int .i64 er := hF.at 10 (by kernel_rfl)
      rw [Array.getD_eq_getD_getElem?] at t10
      have g41 : a.eval (.tmp 41) = .bool true := hd { on := 8, ground := .guard } (by simp) rfl
      refine .inl ⟨(by simp only [Region.wanted]; rw [yielded_of (d := 41) (by rfl) g41]; rfl), ?_⟩
      clear g41
      go_simp
      exact ⟨Below.refl _ _, rfl⟩
    · have t42 : a.tmps.getD 42 undef = .int .i64 er := hd { on := 9, ground := .data } (by simp) rfl
      rw [Array.getD_eq_getD_getElem?] at t42
      have t43 : a.tmps.getD 43 undef = .int .i64 er := hd { on := 10, ground := .data } (by simp) rfl
      rw [Array.getD_eq_getD_getElem?] at t43
      have g41 : a.eval (.tmp 41) = .bool true := hd { on := 8, ground := .guard } (by simp) rfl
      refine .inl ⟨(by simp only [Region.wanted]; rw [yielded_of (d := 41) (by rfl) g41]; rfl), ?_⟩
      clear g41
      go_simp
      exact ⟨Below.refl _ _, rfl⟩
    · have t41 : a.tmps.getD 41 undef = .bool true := hd { on := 8, ground := .data } (by simp) rfl
      rw [Array.getD_eq_getD_getElem?] at t41
      have t44 : a.tmps.getD 44 undef = .bool true := hd { on := 11, ground := .data } (by simp) rfl
      rw [Array.getD_eq_getD_getElem?] at t44
      refine .inl ⟨rfl, ?_⟩
      go_simp
      exact ⟨Below.refl _ _, rfl⟩
    · have t45 : a.tmps.getD 45 undef = .bool true := hd { on := 12, ground := .data } (by simp) rfl
      rw [Array.getD_eq_getD_getElem?] at t45
      refine .inl ⟨rfl, ?_⟩
      go_simp
      exact ⟨Below.refl _ _, rfl⟩
    · have t2 : a.tmps.getD 2 undef = .pointer (some ⟨w.heap.size, 0, none⟩) := hF.at 2 (by kernel_rfl)
      rw [Array.getD_eq_getD_getElem?] at t2
      have g46 : a.eval (.tmp 46) = .bool true := hd { on := 13, ground := .guard } (by simp) rfl
      refine .inl ⟨(by simp only [Region.wanted]; rw [yielded_of (d := 46) (by rfl) g46]; rfl), ?_⟩
      clear g46
      rw [run_oload _ _ 23 (.tmp 2) rfl (w.heap.size) (by simpa [Act.eval] using t2) 23 A (0, 0) _ (hlA W hE) Tryd.underlying23 rfl HI1.out]
      exact ⟨Below.refl _ _, rfl⟩
    · have t47 : a.tmps.getD 47 undef = .agg A := hd { on := 14, ground := .data } (by simp) rfl
      rw [Array.getD_eq_getD_getElem?] at t47
      have g46 : a.eval (.tmp 46) = .bool true := hd { on := 13, ground := .guard } (by simp) rfl
      refine .inl ⟨(by simp only [Region.wanted]; rw [yielded_of (d := 46) (by rfl) g46]; rfl), ?_⟩
      clear g46
      go_simp
      exact (HX W (HTw.out.below hE)).mono fun e w2 h => ⟨_, h.1, h.2, rfl⟩
    · have t2 : a.tmps.getD 2 undef = .pointer (some ⟨w.heap.size, 0, none⟩) := hF.at 2 (by kernel_rfl)
      rw [Array.getD_eq_getD_getElem?] at t2
      have g46 : a.eval (.tmp 46) = .bool true := hd { on := 13, ground := .guard } (by simp) rfl
      refine .inl ⟨(by simp only [Region.wanted]; rw [yielded_of (d := 46) (by rfl) g46]; rfl), ?_⟩
      clear g46
      rw [run_oload _ _ 23 (.tmp 2) rfl (w.heap.size) (by simpa [Act.eval] using t2) 23 A (0, 0) _ (hlA W hE) Tryd.underlying23 rfl HI1.out]
      exact ⟨Below.refl _ _, rfl⟩
    · have t49 : a.tmps.getD 49 undef = .agg A := hd { on := 16, ground := .data } (by simp) rfl
      rw [Array.getD_eq_getD_getElem?] at t49
      have g46 : a.eval (.tmp 46) = .bool true := hd { on := 13, ground := .guard } (by simp) rfl
      refine .inl ⟨(by simp only [Region.wanted]; rw [yielded_of (d := 46) (by rfl) g46]; rfl), ?_⟩
      clear g46
      go_simp
      exact (HXr W (HTw.out.below hE)).mono fun e w2 h => ⟨_, h.1, h.2, rfl⟩
    · have t48 : a.tmps.getD 48 undef = .string X := hd { on := 15, ground := .data } (by simp) rfl
      rw [Array.getD_eq_getD_getElem?] at t48
      have t50 : a.tmps.getD 50 undef = .string X := hd { on := 17, ground := .data } (by simp) rfl
      rw [Array.getD_eq_getD_getElem?] at t50
      have g46 : a.eval (.tmp 46) = .bool true := hd { on := 13, ground := .guard } (by simp) rfl
      refine .inl ⟨(by simp only [Region.wanted]; rw [yielded_of (d := 46) (by rfl) g46]; rfl), ?_⟩
      clear g46
      go_simp
      exact ⟨Below.refl _ _, rfl⟩
    · have t46 : a.tmps.getD 46 undef = .bool true := hd { on := 13, ground := .data } (by simp) rfl
      rw [Array.getD_eq_getD_getElem?] at t46
      have t51 : a.tmps.getD 51 undef = .bool true := hd { on := 18, ground := .data } (by simp) rfl
      rw [Array.getD_eq_getD_getElem?] at t51
      refine .inl ⟨rfl, ?_⟩
      go_simp
      exact ⟨Below.refl _ _, rfl⟩
    · have t52 : a.tmps.getD 52 undef = .bool true := hd { on := 19, ground := .data } (by simp) rfl
      rw [Array.getD_eq_getD_getElem?] at t52
      refine .inl ⟨rfl, ?_⟩
      go_simp
      exact ⟨Below.refl _ _, rfl⟩
    · have t2 : a.tmps.getD 2 undef = .pointer (some ⟨w.heap.size, 0, none⟩) := hF.at 2 (by kernel_rfl)
      rw [Array.getD_eq_getD_getElem?] at t2
      have g53 : a.eval (.tmp 53) = .bool true := hd { on := 20, ground := .guard } (by simp) rfl
      refine .inl ⟨(by simp only [Region.wanted]; rw [yielded_of (d := 53) (by rfl) g53]; rfl), ?_⟩
      clear g53
      rw [run_oload _ _ 23 (.tmp 2) rfl (w.heap.size) (by simpa [Act.eval] using t2) 23 A (0, 0) _ (hlA W hE) Tryd.underlying23 rfl HI1.out]
      exact ⟨Below.refl _ _, rfl⟩
    · have t54 : a.tmps.getD 54 undef = .agg A := hd { on := 21, ground := .data } (by simp) rfl
      rw [Array.getD_eq_getD_getElem?] at t54
      have g53 : a.eval (.tmp 53) = .bool true := hd { on := 20, ground := .guard } (by simp) rfl
      refine .inl ⟨(by simp only [Region.wanted]; rw [yielded_of (d := 53) (by rfl) g53]; rfl), ?_⟩
      clear g53
      go_simp
      exact (HM W (HTw.out.below hE).1).mono fun e w2 h => ⟨_, h.1, h.2, rfl⟩
    · have t2 : a.tmps.getD 2 undef = .pointer (some ⟨w.heap.size, 0, none⟩) := hF.at 2 (by kernel_rfl)
      rw [Array.getD_eq_getD_getElem?] at t2
      have g53 : a.eval (.tmp 53) = .bool true := hd { on := 20, ground := .guard } (by simp) rfl
      refine .inl ⟨(by simp only [Region.wanted]; rw [yielded_of (d := 53) (by rfl) g53]; rfl), ?_⟩
      clear g53
      rw [run_oload _ _ 23 (.tmp 2) rfl (w.heap.size) (by simpa [Act.eval] using t2) 23 A (0, 0) _ (hlA W hE) Tryd.underlying23 rfl HI1.out]
      exact ⟨Below.refl _ _, rfl⟩
    · have t56 : a.tmps.getD 56 undef = .agg A := hd { on := 23, ground := .data } (by simp) rfl
      rw [Array.getD_eq_getD_getElem?] at t56
      have g53 : a.eval (.tmp 53) = .bool true := hd { on := 20, ground := .guard } (by simp) rfl
      refine .inl ⟨(by simp only [Region.wanted]; rw [yielded_of (d := 53) (by rfl) g53]; rfl), ?_⟩
      clear g53
      go_simp
      exact (HMr W).mono fun e w2 h => ⟨_, h.1, h.2, rfl⟩
    · have t55 : a.tmps.getD 55 undef = .bool m := hd { on := 22, ground := .data } (by simp) rfl
      rw [Array.getD_eq_getD_getElem?] at t55
      have t57 : a.tmps.getD 57 undef = .bool m := hd { on := 24, ground := .data } (by simp) rfl
      rw [Array.getD_eq_getD_getElem?] at t57
      have g53 : a.eval (.tmp 53) = .bool true := hd { on := 20, ground := .guard } (by simp) rfl
      refine .inl ⟨(by simp only [Region.wanted]; rw [yielded_of (d := 53) (by rfl) g53]; rfl), ?_⟩
      clear g53
      go_simp
      exact ⟨Below.refl _ _, rfl⟩
    · have t53 : a.tmps.getD 53 undef = .bool true := hd { on := 20, ground := .data } (by simp) rfl
      rw [Array.getD_eq_getD_getElem?] at t53
      have t58 : a.tmps.getD 58 undef = .bool true := hd { on := 25, ground := .data } (by simp) rfl
      rw [Array.getD_eq_getD_getElem?] at t58
      refine .inl ⟨rfl, ?_⟩
      go_simp
      exact ⟨Below.refl _ _, rfl⟩
    · have t59 : a.tmps.getD 59 undef = .bool true := hd { on := 26, ground := .data } (by simp) rfl
      rw [Array.getD_eq_getD_getElem?] at t59
      refine .inl ⟨rfl, ?_⟩
      go_simp
      exact ⟨Below.refl _ _, rfl⟩
    · have g60 : a.eval (.tmp 60) = .bool true := hd { on := 27, ground := .guard } (by simp) rfl
      refine .inl ⟨(by simp only [Region.wanted]; rw [yielded_of (d := 60) (by rfl) g60]; rfl), ?_⟩
      clear g60
      go_simp
      exact (HD W (HTw.out.below hE).1).mono fun e w2 h => ⟨_, h.1, h.2, rfl⟩
    · have g60 : a.eval (.tmp 60) = .bool true := hd { on := 27, ground := .guard } (by simp) rfl
      refine .inl ⟨(by simp only [Region.wanted]; rw [yielded_of (d := 60) (by rfl) g60]; rfl), ?_⟩
      clear g60
      go_simp
      exact (HDr W).mono fun e w2 h => ⟨_, h.1, h.2, rfl⟩
    · have t61 : a.tmps.getD 61 undef = .agg D := hd { on := 28, ground := .data } (by simp) rfl
      rw [Array.getD_eq_getD_getElem?] at t61
      have t62 : a.tmps.getD 62 undef = .agg D := hd { on := 29, ground := .data } (by simp) rfl
      rw [Array.getD_eq_getD_getElem?] at t62
      have g60 : a.eval (.tmp 60) = .bool true := hd { on := 27, ground := .guard } (by simp) rfl
      refine .inl ⟨(by simp only [Region.wanted]; rw [yielded_of (d := 60) (by rfl) g60]; rfl), ?_⟩
      clear g60
      go_simp
      exact ⟨Below.refl _ _, rfl⟩
    · have t60 : a.tmps.getD 60 undef = .bool true := hd { on := 27, ground := .data } (by simp) rfl
      rw [Array.getD_eq_getD_getElem?] at t60
      have t63 : a.tmps.getD 63 undef = .bool true := hd { on := 30, ground := .data } (by simp) rfl
      rw [Array.getD_eq_getD_getElem?] at t63
      refine .inl ⟨rfl, ?_⟩
      go_simp
      exact ⟨Below.refl _ _, rfl⟩
    · have t64 : a.tmps.getD 64 undef = .bool true := hd { on := 31, ground := .data } (by simp) rfl
      rw [Array.getD_eq_getD_getElem?] at t64
      refine .inl ⟨rfl, ?_⟩
      go_simp
      exact ⟨Below.refl _ _, rfl⟩
    · have g65 : a.eval (.tmp 65) = .bool true := hd { on := 32, ground := .guard } (by simp) rfl
      refine .inl ⟨(by simp only [Region.wanted]; rw [yielded_of (d := 65) (by rfl) g65]; rfl), ?_⟩
      clear g65
      go_simp
      exact (HAw W (HTw.out.below hE)).mono fun e w2 h => ⟨_, h.1, h.2, rfl⟩
    · have t65 : a.tmps.getD 65 undef = .bool true := hd { on := 32, ground := .data } (by simp) rfl
      rw [Array.getD_eq_getD_getElem?] at t65
      have t66 : a.tmps.getD 66 undef = .bool true := hd { on := 33, ground := .data } (by simp) rfl
      rw [Array.getD_eq_getD_getElem?] at t66
      refine .inl ⟨rfl, ?_⟩
      go_simp
      exact ⟨Below.refl _ _, rfl⟩
    · have t67 : a.tmps.getD 67 undef = .bool true := hd { on := 34, ground := .data } (by simp) rfl
      rw [Array.getD_eq_getD_getElem?] at t67
      refine .inl ⟨rfl, ?_⟩
      go_simp
      exact ⟨Below.refl _ _, rfl⟩
  · intro vs W hE hV
    have h4 : vs 35 = .bool true := hV 35 (by decide)
    have HBf : Hid (Below w.heap.size w W) := HB0.out.trans (hE.mono HB0.out.size)
    clear hV hE
    simp only [putsV, dstsV, List.foldl, h4, Act.put, List.setIfInBounds_toArray, List.set_cons_succ, List.set_cons_zero]
    clear h4
    refine ‹∀ (a : Act) (w : World), Code.wp Tryd.prog Code.ret _ a w → _› _ _ ?_
    go_wp2
    go_ret
    exact ⟨rfl, HBf.out⟩

theorem reads_ConfigForms (os : Os) {H : Type} (enc : TypeId × Value → H) : ∃ places, DataW.whole enc Tryd.prog ((laidWorld os).forCall (fun _ _ => 0) ⟨#[], #[.agg #[.int .i64 0, .int .i64 0, .int .i64 0, .int .i64 0, .int .i64 0, .int .i64 0, .int .i64 0, .int .i64 0, .int .i64 0, .int .i64 0, .int .i64 0, .int .i64 0, .int .i64 0, .int .i64 0, .int .i64 0, .bool false, .int .i64 0, .int .i64 0, .int .i64 0, .int .i64 0, .int .i64 0, .string ByteArray.empty, .bool false], .string ByteArray.empty], []⟩).memory Tryd.f3.params.toList Rows.configFormsSpec.vars false (#[.agg #[.int .i64 0, .int .i64 0, .int .i64 0, .int .i64 0, .int .i64 0, .int .i64 0, .int .i64 0, .int .i64 0, .int .i64 0, .int .i64 0, .int .i64 0, .int .i64 0, .int .i64 0, .int .i64 0, .int .i64 0, .bool false, .int .i64 0, .int .i64 0, .int .i64 0, .int .i64 0, .int .i64 0, .string ByteArray.empty, .bool false], .string ByteArray.empty] : Array Value).toList 8 = some ([.agg [.lit (.int .i64 0), .lit (.int .i64 0), .lit (.int .i64 0), .lit (.int .i64 0), .lit (.int .i64 0), .lit (.int .i64 0), .lit (.int .i64 0), .lit (.int .i64 0), .lit (.int .i64 0), .lit (.int .i64 0), .lit (.int .i64 0), .lit (.int .i64 0), .lit (.int .i64 0), .lit (.int .i64 0), .lit (.int .i64 0), .lit (.bool false), .lit (.int .i64 0), .lit (.int .i64 0), .lit (.int .i64 0), .lit (.int .i64 0), .lit (.int .i64 0), .lit (.string []), .lit (.bool false)], .lit (.string [])], [], places) :=
  ⟨[], by kernel_rfl⟩

set_option maxRecDepth 100000 in
theorem lifted_ConfigForms (os : Os) (started : os.Started) (H : Type) (enc : TypeId × Value → H) (F : Stop.Interp) :
    ReturnsInHanded {} Tryd.checked os 3 .any ((OpenSpec.ofChange Rows.configFormsSpec).preRow enc Tryd.prog Tryd.f3 Rows.configFormsRow.domain false Rows.configFormsRow.laid) (((OpenSpec.ofChange Rows.configFormsSpec).at F).post enc Tryd.prog Tryd.f3 false true false false) := by
  obtain ⟨places, hx⟩ := reads_ConfigForms os enc
  refine returnsInHanded_of_row (C := Tryd.checked) (s := OpenSpec.ofChange Rows.configFormsSpec) own started (by kernel_rfl) Tryd.func3
    (witness_row_at (enc := enc) (C := Tryd.checked) false (laidWorld os) #[.agg #[.int .i64 0, .int .i64 0, .int .i64 0, .int .i64 0, .int .i64 0, .int .i64 0, .int .i64 0, .int .i64 0, .int .i64 0, .int .i64 0, .int .i64 0, .int .i64 0, .int .i64 0, .int .i64 0, .int .i64 0, .bool false, .int .i64 0, .int .i64 0, .int .i64 0, .int .i64 0, .int .i64 0, .string ByteArray.empty, .bool false], .string ByteArray.empty] rfl (by kernel_rfl) (by kernel_rfl) (by kernel_rfl)
      (OpenSpec.preRow_of_cond 8 hx (by kernel_rfl) (fun k hk => by cases hk) (by kernel_rfl) (laid_met os _))) ?_
  intro W base args ds gs before hval0 hW _ _ hsz0 hL _ _
  have htab := table hL
  have hval : ∀ (j : Nat) t v, Tryd.f3.params[j]? = some t → args[j]? = some v → Value.okWide Tryd.prog W .any base t v := hval0
  have hW' := hW
  obtain ⟨p, q, hA0, hV, rfl, hfz, hnd⟩ := hW
  have hA : DataW.TrodAll enc Tryd.prog W 0 (fun _ => true) true Tryd.f3.params.toList args.toList ds p := hA0
  rw [Tryd.params3] at hA hval
  obtain ⟨v0, vs0, d0, ds0, p0, q0, hargs, rfl, rfl, h0, r0⟩ := trodAll_cons hA
  obtain ⟨v1, vs1, d1, ds1, p1, q1, rfl, rfl, rfl, h1, r1⟩ := trodAll_cons r0
  obtain ⟨rfl, rfl, rfl⟩ := trodAll_nil r1
  obtain rfl : args = #[v0, v1] := by cases args; simp_all
  obtain ⟨rfl, rfl⟩ := trodVars_none hV
  have k0 := h0
  have lt0 : ∀ x ∈ p0, x.block < W.heap.size := by obtain ⟨m, hm⟩ := k0; exact DataW.trod_lt m _ _ _ hm
  obtain ⟨z0, rfl, w0⟩ := open_cfg (hval 0 23 v0 rfl rfl) h0
  obtain ⟨a1, rfl, rfl, rfl, w1⟩ := open_string Tryd.underlying9 (hval 1 9 v1 rfl rfl) h1
  clear hA0 hval0
  refine (walk_ConfigForms z0 w0 a1 w1 W htab).mono fun e W' ⟨he, bel⟩ => ?_
  subst he
  exact ⟨_, rfl, _, _, _, [], _, [], hW', trodAll_mk1 (shut_bool Tryd.underlying4 _), (trodAll_cons_mk (Below.trod laidOut (by kernel_rfl) (of_decide_eq_true (by kernel_rfl)) k0 bel lt0) (trodAll_cons_mk (shut_string Tryd.underlying9 w1) trodAll_mk0)), rfl, bel.frame _, fun h => by cases h⟩

theorem said_ConfigForms : Rows.ConfigFormsSaid :=
  OpenClaim.holds_of_cond 3 Tryd.f3 rfl rfl rfl rfl rfl rfl rfl ⟨rfl, rfl, rfl, rfl, rfl⟩ rfl rfl rfl rfl rfl (by kernel_rfl) Tryd.func3 (by kernel_rfl)
    (of_decide_eq_true (by kernel_rfl)) (by unfold Func.isWrapper; first | (rw [if_pos (by decide +kernel)]; kernel_rfl) | (rw [if_neg (by decide +kernel)]; exact ⟨rfl, rfl⟩))
    (fun os started H enc _ F => by rw [OpenClaim.pre_eq_preRow]; exact lifted_ConfigForms os started H enc F)

theorem plain_ConfigForms (f : FuncId) (fn : Func) (hf : Tryd.pinned.checked.prog.funcNamed Rows.configFormsRow.func = some f) (hfn : Tryd.pinned.checked.prog.funcs[f]? = some fn) :
    false = Tryd.pinned.checked.prog.looks [] ∧ ∀ (j : Nat) t, fn.params[j]? = some t → Tryd.pinned.checked.prog.wantsStandIn t = false := by
  obtain rfl : f = 3 := Option.some.inj ((show Tryd.prog.funcNamed Rows.configFormsRow.func = some 3 by kernel_rfl).symm.trans hf) |>.symm
  obtain rfl : fn = Tryd.f3 := (Option.some.inj (Tryd.func3.symm.trans hfn)).symm
  refine ⟨by kernel_rfl, fun j t ht => ?_⟩
  rw [Tryd.params3] at ht
  have hm := Array.mem_of_getElem? ht
  simp only [List.mem_toArray, List.mem_cons, List.not_mem_nil, or_false] at hm
  rcases hm with rfl | rfl
  · exact (show Tryd.prog.wantsStandIn 23 = false by kernel_rfl)
  · exact (show Tryd.prog.wantsStandIn 9 = false by kernel_rfl)

/-- The statement. -/
theorem configForms_holds : Rows.ConfigFormsCardSaid :=
  Claim7.holds_tied_plain_at .later [] _ _ _ _ said_ConfigForms (fun _ h => by cases h) (by kernel_rfl) (fun _ h => by cases h) configForms_row_tie rfl ⟨rfl, rfl⟩ (by kernel_rfl) rfl plain_ConfigForms (by kernel_rfl)
#print axioms configForms_holds

end Go.Proofs.YtkninlahlgipoaaDoor

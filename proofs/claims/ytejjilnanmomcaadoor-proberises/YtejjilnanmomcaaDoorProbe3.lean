/-
  The contract of package probe's Wait.
-/
import Derived.Test.YtejjilnanmomcaaDoorProbe2
import Derived.Test.YtejjilnanmomcaaDoorHash1
import Derived.Test.YtejjilnanmomcaaDoorCfgFrame
namespace Go.Proofs.YtejjilnanmomcaaDoor
open Go.RowKit

def waitV (c : Cfg) (host id : Int) : Int := c.f0 + belowV (withV (Lib.itoa host) id) (c.f2 + 1)
theorem wrap_in {x : Int} (h0 : -9223372036854775808 ≤ x) (h1 : x ≤ 9223372036854775807) : IntKind.i64.wrap x = x := by
  rw [IntKind.wrap_i64]; omega
theorem defC_may : mayC defC = true := by decide +kernel
theorem known_may (c : Cfg) : mayC (knownC c) = true := by
  unfold knownC
  split
  · assumption
  · exact defC_may
theorem known_self {c : Cfg} (h : mayC c = true) : knownC c = c := if_pos h
theorem may_num0 {c : Cfg} (h : mayC c = true) : 10 ≤ c.f0 ∧ c.f0 ≤ 10000 := of_decide_eq_true ((may_parts h).1 0 (by decide))
theorem may_num2 {c : Cfg} (h : mayC c = true) : 0 ≤ c.f2 ∧ c.f2 ≤ 1000 := of_decide_eq_true ((may_parts h).1 2 (by decide))
theorem may_num3 {c : Cfg} (h : mayC c = true) : 1 ≤ c.f3 ∧ c.f3 ≤ 10 := of_decide_eq_true ((may_parts h).1 3 (by decide))
theorem may_num4 {c : Cfg} (h : mayC c = true) : 1 ≤ c.f4 ∧ c.f4 ≤ 10 := of_decide_eq_true ((may_parts h).1 4 (by decide))
theorem belowV_bounds (h : Nat) (n : Int) (hn : 1 ≤ n) : 0 ≤ belowV h n ∧ belowV h n < n := by
  unfold belowV
  rw [if_neg (by omega)]
  exact ⟨Int.emod_nonneg _ (by omega), Int.emod_lt_of_pos _ (by omega)⟩
theorem withV_lt (l : List UInt8) (n : Int) : withV l n < 18446744073709551616 := textV_lt _

set_option maxRecDepth 100000 in
set_option maxHeartbeats 4000000 in
theorem pwait_any (c : Cfg) (host id : Int) (w : World) (htab : Tabs w) (hz : c.zone.size ≤ 9223372036854775807) (hh : -9223372036854775808 ≤ host ∧ host ≤ 9223372036854775807) (hi : -9223372036854775808 ≤ id ∧ id ≤ 9223372036854775807) :
    Calls Tryd.prog 13 #[.agg c.arr, .int .i64 host, .int .i64 id] w fun e w' => e = .returned (.int .i64 (waitV (knownC c) host id)) ∧ Below w.heap.size w w' := by
  have HT : Hid (Tabs w) := htab
  clear htab
  have HK : Hid (∀ W : World, TabC W → Calls Tryd.prog 22 #[.agg c.arr] W fun e w' => e = .returned (.agg (knownC c).arr) ∧ Below W.heap.size W w') := fun W h => pknown_any c W h hz
  have HI : Hid ((Tryd.prog.info? 23).map (·.size) = some c.arr.size) := arr_inf c
  have HJ : Hid ((Tryd.prog.info? 23).map (·.size) = some (knownC c).arr.size) := arr_inf _
  have HOS : Hid (c.arr.size = (knownC c).arr.size) := (arr_size c).trans (arr_size _).symm
  have HOd : Hid ((knownC c).arr.all (·.oneCell') = true) := arr_one _
  obtain ⟨b0, b1⟩ := may_num0 (known_may c)
  obtain ⟨b2, b3⟩ := may_num2 (known_may c)
  have hS0 := Lib.itoa_length_le host hh.1 hh.2
  have HIt' : Hid (∀ W : World, Tabs W → Calls Tryd.prog 25 #[.int .i64 host] W fun e w' => e = .returned (.string ⟨(Lib.itoa host).toArray⟩) ∧ Below W.heap.size W w') := fun W h => by
    refine (Tryd.strconv_Itoa host hh.1 hh.2 W h.2).mono ?_
    rintro e w1 ⟨rfl, k, os, hw⟩
    exact ⟨rfl, by subst hw; exact Lib.below_grow _ _ (Nat.le_refl _) _ _⟩
  have HWi' : Hid (∀ W : World, Tabs W → Calls Tryd.prog 24 #[.string ⟨(Lib.itoa host).toArray⟩, .int .i64 id] W fun e w' => e = .returned (.int .u64 (withV (Lib.itoa host) id : Nat)) ∧ Below W.heap.size W w') := fun W h => by
    have := with_any ⟨(Lib.itoa host).toArray⟩ id W (by show (Lib.itoa host).toArray.size ≤ _; rw [List.size_toArray]; omega) hi.1 hi.2 h.2
    simpa using this
  have hlt := withV_lt (Lib.itoa host) id
  have HBe' : Hid (∀ W : World, Calls Tryd.prog 23 #[.int .u64 (withV (Lib.itoa host) id : Nat), .int .i64 ((knownC c).f2 + 1)] W fun e w' => e = .returned (.int .i64 (belowV (withV (Lib.itoa host) id) ((knownC c).f2 + 1))) ∧ Below W.heap.size W w') := fun W => by
    refine (below_any _ _ W hlt (by omega) (by omega)).mono ?_
    rintro e w1 ⟨rfl, rfl⟩
    exact ⟨rfl, Below.refl _ _⟩
  obtain ⟨b4, b5⟩ := belowV_bounds (withV (Lib.itoa host) id) ((knownC c).f2 + 1) (by omega)
  obtain ⟨R, hR⟩ : ∃ R, waitV (knownC c) host id = R := ⟨_, rfl⟩
  rw [hR]
  unfold waitV at hR
  have hC0 : (knownC c).arr[0]? = some (.int .i64 (knownC c).f0) := rfl
  have hC2 : (knownC c).arr[2]? = some (.int .i64 (knownC c).f2) := rfl
  have HC0' : Hid _ := hC0
  have HC2' : Hid _ := hC2
  clear hC0 hC2 hlt hS0
  generalize (knownC c).f0 = n0 at HC0' hR b0 b1
  generalize (knownC c).f2 = n2 at HC2' hR b2 b3 b4 b5 HBe'
  generalize (knownC c).arr = ds at HK HJ HOS HOd HC0' HC2'
  generalize c.arr = cs at HK HI HOS ⊢
  generalize withV (Lib.itoa host) id = H at HWi' HBe' hR b4 b5
  generalize (⟨(Lib.itoa host).toArray⟩ : ByteArray) = S at HIt' HWi'
  generalize belowV H (n2 + 1) = B at HBe' hR b4 b5
  have HA2 : Hid (IntKind.i64.wrap (n2 + 1) = n2 + 1) := wrap_in (by omega) (by omega)
  have HA3 : Hid (IntKind.i64.wrap (n0 + B) = R) := (wrap_in (by omega) (by omega)).trans hR
  clear hR b0 b1 b2 b3 b4 b5 hh hi
  go_enter Tryd.func13, Tryd.ntmps13
  go_upto_region 1 with fail
  generalize hW0 : w.alloc _ = W0
  have HC0 : Hid (CellsAt W0 w.heap.size cs) := by show CellsAt _ _ _; rw [← hW0]; exact heap_alloc_new w _
  have HB0 : Hid (Below w.heap.size w W0) := by show Below _ _ _; rw [← hW0]; exact (Below.refl _ _).alloc (Nat.le_refl _) _
  have HT0 : Hid (Tabs W0) := HT.out.below HB0.out
  clear hW0
  go_wp2_with (first | (refine wpList_load_row rfl 23 (.tmp 3) rfl w.heap.size rfl 23 _ (0, 0) _ HC0.out Tryd.underlying23 rfl HI.out ?_) | fail)
  refine (HK.out _ HT0.out.1).mono ?_
  rintro e w1 ⟨rfl, hb⟩
  have HC1 : Hid (CellsAt w1 w.heap.size cs) := HC0.out.below hb
  have HB1 : Hid (Below w.heap.size w w1) := HB0.out.trans (hb.mono HB0.out.size)
  clear hb HC0 HB0 HT0 HK
  go_upto_region 2 with (first | (refine wpList_store_row rfl 23 (.tmp 3) (.tmp 8) rfl w.heap.size ds rfl rfl 23 _ HC1.out HJ.out HOS.out HOd.out ?_; generalize hW2 : World.setRow _ _ _ = W2; have HC2 : Hid (CellsAt W2 w.heap.size ds) := (by show CellsAt _ _ _; rw [← hW2]; exact setRow_heap _ _ _ _ _ _ HC1.out); have HB0 : Hid (Below w.heap.size w W2) := (by show Below _ _ _; rw [← hW2]; exact below_setRow HB1.out (Nat.le_refl _) _); have HT2 : Hid (Tabs W2) := HT.out.below HB0.out; clear hW2) | fail)
  have H0 : ∀ W, Below W2.heap.size W2 W → W.cell? ⟨w.heap.size, 0, none⟩ = some (.int .i64 n0) := fun W h => (HC2.out.below h).cell.trans HC0'.out
  have H2 : ∀ W, Below W2.heap.size W2 W → W.cell? ⟨w.heap.size, 2, none⟩ = some (.int .i64 n2) := fun W h => (HC2.out.below h).cell.trans HC2'.out
  have HIt : ∀ W, Below W2.heap.size W2 W → Calls Tryd.prog 25 #[.int .i64 host] W fun e w' => e = .returned (.string S) ∧ Below W.heap.size W w' := fun W h => HIt'.out W (HT2.out.below h)
  have HWi : ∀ W, Below W2.heap.size W2 W → Calls Tryd.prog 24 #[.string S, .int .i64 id] W fun e w' => e = .returned (.int .u64 (H : Nat)) ∧ Below W.heap.size W w' := fun W h => HWi'.out W (HT2.out.below h)
  have HBe := HBe'.out
  clear HIt' HWi' HBe' HT
  refine wp_region_mp ([eqP (.pointer (some ⟨w.heap.size, 0, none⟩)), eqP (.int .i64 n0), eqP (.int .i64 host), eqP (.string S), eqP (.int .i64 id), eqP (.int .u64 (H : Nat)), eqP (.pointer (some ⟨w.heap.size, 2, none⟩)), eqP (.int .i64 n2), eqP (.int .i64 (n2 + 1)), eqP (.int .i64 B), eqP (.int .i64 R), eqP (.int .i64 R)]) (by kernel_rfl) (by kernel_rfl) ?_ ?_
  · simp only [stepsAll3]
    refine ⟨fun a W hF hE hd => ?_, fun a W hF hE hd => ?_, fun a W hF hE hd => ?_, fun a W hF hE hd => ?_, fun a W hF hE hd => ?_, fun a W hF hE hd => ?_, fun a W hF hE hd => ?_, fun a W hF hE hd => ?_, fun a W hF hE hd => ?_, fun a W hF hE hd => ?_, fun a W hF hE hd => ?_, fun a W hF hE hd => ?_, trivial⟩
    all_goals unfold StepAt
    · have t3 : a.tmps.getD 3 undef = .pointer (some ⟨w.heap.size, 0, none⟩) := hF.at 3 (by kernel_rfl)
      rw [Array.getD_eq_getD_getElem?] at t3
      refine .inl ⟨rfl, ?_⟩
      go_simp
      exact ⟨Below.refl _ _, rfl⟩
    · have t9 : a.tmps.getD 9 undef = .pointer (some ⟨w.heap.size, 0, none⟩) := hd { on := 0, ground := .data } (by simp) rfl
      rw [Array.getD_eq_getD_getElem?] at t9
      refine .inl ⟨rfl, ?_⟩
      have c0 : W.cell? ⟨w.heap.size, 0, none⟩ = some (.int .i64 n0) := H0 W hE
      go_simp
      exact ⟨Below.refl _ _, rfl⟩
    · have t1 : a.tmps.getD 1 undef = .int .i64 host := hF.at 1 (by kernel_rfl)
      rw [Array.getD_eq_getD_getElem?] at t1
      refine .inl ⟨rfl, ?_⟩
      go_simp
      exact ⟨Below.refl _ _, rfl⟩
    · have t11 : a.tmps.getD 11 undef = .int .i64 host := hd { on := 2, ground := .data } (by simp) rfl
      rw [Array.getD_eq_getD_getElem?] at t11
      refine .inl ⟨rfl, ?_⟩
      go_simp
      exact (HIt W hE).mono fun e w2 h => ⟨_, h.1, h.2, rfl⟩
    · have t2 : a.tmps.getD 2 undef = .int .i64 id := hF.at 2 (by kernel_rfl)
      rw [Array.getD_eq_getD_getElem?] at t2
      refine .inl ⟨rfl, ?_⟩
      go_simp
      exact ⟨Below.refl _ _, rfl⟩
    · have t12 : a.tmps.getD 12 undef = .string S := hd { on := 3, ground := .data } (by simp) rfl
      rw [Array.getD_eq_getD_getElem?] at t12
      have t13 : a.tmps.getD 13 undef = .int .i64 id := hd { on := 4, ground := .data } (by simp) rfl
      rw [Array.getD_eq_getD_getElem?] at t13
      refine .inl ⟨rfl, ?_⟩
      go_simp
      exact (HWi W hE).mono fun e w2 h => ⟨_, h.1, h.2, rfl⟩
    · have t3 : a.tmps.getD 3 undef = .pointer (some ⟨w.heap.size, 0, none⟩) := hF.at 3 (by kernel_rfl)
      rw [Array.getD_eq_getD_getElem?] at t3
      refine .inl ⟨rfl, ?_⟩
      go_simp
      exact ⟨Below.refl _ _, rfl⟩
    · have t15 : a.tmps.getD 15 undef = .pointer (some ⟨w.heap.size, 2, none⟩) := hd { on := 6, ground := .data } (by simp) rfl
      rw [Array.getD_eq_getD_getElem?] at t15
      refine .inl ⟨rfl, ?_⟩
      have c2 : W.cell? ⟨w.heap.size, 2, none⟩ = some (.int .i64 n2) := H2 W hE
      go_simp
      exact ⟨Below.refl _ _, rfl⟩
    · have t16 : a.tmps.getD 16 undef = .int .i64 n2 := hd { on := 7, ground := .data } (by simp) rfl
      rw [Array.getD_eq_getD_getElem?] at t16
      refine .inl ⟨rfl, ?_⟩
      have e2 := HA2.out
      go_simp
      exact ⟨Below.refl _ _, rfl⟩
    · have t14 : a.tmps.getD 14 undef = .int .u64 (H : Nat) := hd { on := 5, ground := .data } (by simp) rfl
      rw [Array.getD_eq_getD_getElem?] at t14
      have t17 : a.tmps.getD 17 undef = .int .i64 (n2 + 1) := hd { on := 8, ground := .data } (by simp) rfl
      rw [Array.getD_eq_getD_getElem?] at t17
      refine .inl ⟨rfl, ?_⟩
      go_simp
      exact (HBe W).mono fun e w2 h => ⟨_, h.1, h.2, rfl⟩
    · have t10 : a.tmps.getD 10 undef = .int .i64 n0 := hd { on := 1, ground := .data } (by simp) rfl
      rw [Array.getD_eq_getD_getElem?] at t10
      have t18 : a.tmps.getD 18 undef = .int .i64 B := hd { on := 9, ground := .data } (by simp) rfl
      rw [Array.getD_eq_getD_getElem?] at t18
      refine .inl ⟨rfl, ?_⟩
      have e2 := HA3.out
      go_simp
      exact ⟨Below.refl _ _, rfl⟩
    · have t19 : a.tmps.getD 19 undef = .int .i64 R := hd { on := 10, ground := .data } (by simp) rfl
      rw [Array.getD_eq_getD_getElem?] at t19
      refine .inl ⟨rfl, ?_⟩
      go_simp
      exact ⟨Below.refl _ _, rfl⟩
  · intro vs W hE hV
    have h11 : vs 11 = .int .i64 R := hV 11 (by decide)
    have HBf : Hid (Below w.heap.size w W) := HB0.out.trans (hE.mono HB0.out.size)
    clear hV hE
    simp only [putsV, dstsV, List.foldl, h11, Act.put, List.setIfInBounds_toArray, List.set_cons_succ, List.set_cons_zero]
    clear h11
    generalize vs 0 = y0
    generalize vs 1 = y1
    generalize vs 2 = y2
    generalize vs 3 = y3
    generalize vs 4 = y4
    generalize vs 5 = y5
    generalize vs 6 = y6
    generalize vs 7 = y7
    generalize vs 8 = y8
    generalize vs 9 = y9
    generalize vs 10 = y10
    refine ‹∀ (a : Act) (w : World), Code.wp Tryd.prog Code.ret _ a w → _› _ _ ?_
    go_wp2
    go_ret
    exact ⟨rfl, HBf.out⟩

end Go.Proofs.YtejjilnanmomcaaDoor

/-
  EjectLonger, for every configuration and numbers: each time it is out longer, till so many times; each sweep in which it is not, it is forgiven one. No condition on the call.
-/
import Derived.Test.YtomhmndpjkfppaaDoorEjectAwake
import Derived.Test.YtomhmndpjkfppaaDoorRefMayC
import Derived.Test.YtomhmndpjkfppaaDoorUMod
namespace Go.Proofs.YtomhmndpjkfppaaDoor
open Go.ChangeShapes Go.WideShapes Go.ChangeAt Go.RowKit
open Go.ChangeMaps (open_string shut_string)

theorem bne_self (x : Int) : (x != x) = false := by simp
/-- How often it was out behind k times; what is left of it behind j sweeps. -/
def tmE (k : Nat) : Int := if (10 : Int) < (k : Int) then 10 else (k : Int)
def lfE (n j : Nat) : Int := if 0 < tmE n - (j : Int) then tmE n - (j : Int) else 0
theorem tmE_bd (k : Nat) : 0 ≤ tmE k ∧ tmE k ≤ 10 := by unfold tmE; split <;> omega
theorem more_tm (k : Nat) : moreE (tmE k) = tmE (k + 1) := by
  have h := tmE_bd k
  unfold moreE
  rw [timesE_self h]
  unfold tmE
  split <;> split <;> split <;> omega
theorem lf_bd (n j : Nat) : 0 ≤ lfE n j ∧ lfE n j ≤ 10 := by have := tmE_bd n; unfold lfE; split <;> omega
theorem lf_start (n : Nat) : lfE n 0 = tmE n := by have := tmE_bd n; unfold lfE; split <;> omega
theorem lf_end (n : Nat) : lfE n n = 0 := by unfold lfE tmE; split <;> split at * <;> omega
theorem lf_next (n j : Nat) : (if lfE n j - 1 < 0 then 0 else lfE n j - 1) = lfE n (j + 1) := by unfold lfE; split <;> split <;> split at * <;> omega

set_option maxRecDepth 100000 in
set_option maxHeartbeats 16000000 in
theorem walk_EjectLonger (c : Cfg) (hz : c.zone.size ≤ 9223372036854775807) (n : Int) (_ : -9223372036854775808 ≤ n ∧ n ≤ 9223372036854775807) (o : Int) (_ : -9223372036854775808 ≤ o ∧ o ≤ 9223372036854775807) (w : World) (htab : TabC w) :
    Calls Tryd.prog 4 #[.agg c.arr, .int .i64 n, .int .i64 o] w fun e w' => e = .returned (.bool true) ∧ Below w.heap.size w w' := by
  have HMayC : Hid (∀ W : World, Calls Tryd.prog 7 #[.agg c.arr] W fun e w' => e = .returned (.bool (mayC c)) ∧ Below W.heap.size W w') := fun W => rMay_any c W hz
  have HT : Hid (TabC w) := htab
  have HI : Hid ((Tryd.prog.info? 23).map (·.size) = some c.arr.size) := arr_inf c
  clear htab
  by_cases h1 : mayC c = true
  rotate_left
  · have h1 := Bool.eq_false_iff.2 h1
    rw [h1] at HMayC
    clear h1 hz
    generalize c.arr = cs at *
    go_enter Tryd.func4, Tryd.ntmps4
    go_upto_region 1 with fail
    generalize hW0 : w.alloc _ = W0
    have HC0 : Hid (HasBox W0 w.heap.size 23 cs) := by show HasBox _ _ _ _; rw [← hW0]; exact hasBox_new w _ _
    have HB0 : Hid (Below w.heap.size w W0) := by show Below _ _ _; rw [← hW0]; exact (Below.refl _ _).alloc (Nat.le_refl _) _
    clear hW0
    go_wp2_with (first | (refine wpList_load_bx rfl 23 (.tmp 3) rfl w.heap.size rfl 23 _ _ HC0.out Tryd.underlying23 rfl HI.out ?_) | fail)
    refine (HMayC.out _).mono ?_
    rintro e w1 ⟨rfl, hb⟩
    have HB1 : Hid (Below w.heap.size w w1) := HB0.out.trans (hb.mono HB0.out.size)
    clear hb HB0 HC0 HMayC
    go_wp2_with fail
    refine (awake14_any _ (HT.out.below HB1.out)).mono ?_
    rintro e w2 ⟨rfl, hb⟩
    have HB2 : Hid (Below w.heap.size w w2) := HB1.out.trans (hb.mono HB1.out.size)
    clear hb
    go_wp2
    go_ret
    exact ⟨rfl, HB2.out⟩
  rw [h1] at HMayC
  obtain ⟨M, hM1, hM2⟩ := u_modl n 15 (by omega)
  obtain ⟨O, hO1, hO2⟩ := u_modl o 1000000 (by omega)
  have hM2 : (IntKind.u64.wrap n).tmod 15 = (M : Int) := hM2
  have hO2 : (IntKind.u64.wrap o).tmod 1000000 = (O : Int) := hO2
  have hM3 : IntKind.i64.wrap (M : Int) = (M : Int) := wrap_in (by omega) (by omega)
  have hO3 : IntKind.i64.wrap (O : Int) = (O : Int) := wrap_in (by omega) (by omega)
  have b13 := may_num13 h1
  have HML : Hid (M < 15) := hM1
  have HOL : Hid (O < 1000000) := hO1
  have HFb : Hid (1 ≤ c.f13 ∧ c.f13 ≤ 10000) := b13
  have HOut : Hid (∀ (k : Nat) (X : Int), 0 ≤ X ∧ X ≤ 4000000 → ∀ W : World, TabC W → Calls Tryd.prog 11 #[.agg c.arr, .agg #[.bool false, .int .i64 0, .int .i64 0, .int .i64 (tmE k)], .int .i64 X] W fun e w' => e = .returned (.agg #[.bool true, .int .i64 X, .int .i64 (X + c.f13 * tmE (k + 1)), .int .i64 (tmE (k + 1))]) ∧ Below W.heap.size W w') := fun k X hX W h => by
    have t0 := tmE_bd k
    have t1 := tmE_bd (k + 1)
    have t2 : 0 ≤ c.f13 * tmE (k + 1) := Int.mul_nonneg (by omega) t1.1
    have t3 : c.f13 * tmE (k + 1) ≤ 10000 * 10 := Int.mul_le_mul b13.2 t1.2 t1.1 (by omega)
    have := eOut_any c ⟨false, 0, 0, tmE k⟩ X W h hz (by unfold inOg; simp only; omega) (by omega)
    rw [known_self h1] at this
    have e : outE c ⟨false, 0, 0, tmE k⟩ X = ⟨true, X, X + c.f13 * tmE (k + 1), tmE (k + 1)⟩ := by
      unfold outE
      simp only
      rw [more_tm, timeE_self (by omega), if_neg (by omega)]
    rwa [e] at this
  have HFade : Hid (∀ (X U : Int) (k : Nat), 0 ≤ X ∧ X ≤ 5000000 → 0 ≤ U ∧ U ≤ 5000000 → ∀ W : World, Calls Tryd.prog 12 #[.agg #[.bool true, .int .i64 X, .int .i64 U, .int .i64 (tmE k)]] W fun e w' => e = .returned (.agg #[.bool true, .int .i64 X, .int .i64 U, .int .i64 (tmE k)]) ∧ Below W.heap.size W w') := fun X U k hX hU W => by
    have t0 := tmE_bd k
    have := eFade_any ⟨true, X, U, tmE k⟩ W (by unfold inOg; simp only; omega)
    have e : fadeE ⟨true, X, U, tmE k⟩ = ⟨true, X, U, tmE k⟩ := by
      unfold fadeE
      simp only
      rw [timesE_self t0]
      simp
    rwa [e] at this
  have HBack : Hid (∀ (X U : Int) (k : Nat), 0 ≤ X ∧ X ≤ 5000000 → 0 ≤ U ∧ U ≤ 5000000 → ∀ W : World, Calls Tryd.prog 13 #[.agg #[.bool true, .int .i64 X, .int .i64 U, .int .i64 (tmE k)]] W fun e w' => e = .returned (.agg #[.bool false, .int .i64 0, .int .i64 0, .int .i64 (tmE k)]) ∧ Below W.heap.size W w') := fun X U k hX hU W => by
    have t0 := tmE_bd k
    have := eBack_any ⟨true, X, U, tmE k⟩ W (by unfold inOg; simp only; omega)
    have e : backE ⟨true, X, U, tmE k⟩ = ⟨false, 0, 0, tmE k⟩ := by
      unfold backE
      simp only
      rw [timesE_self t0]
    rwa [e] at this
  have HLess : Hid (∀ j : Nat, ∀ W : World, Calls Tryd.prog 12 #[.agg #[.bool false, .int .i64 0, .int .i64 0, .int .i64 (lfE M j)]] W fun e w' => e = .returned (.agg #[.bool false, .int .i64 0, .int .i64 0, .int .i64 (lfE M (j + 1))]) ∧ Below W.heap.size W w') := fun j W => by
    have t0 := lf_bd M j
    have := eFade_any ⟨false, 0, 0, lfE M j⟩ W (by unfold inOg; simp only; omega)
    have e : fadeE ⟨false, 0, 0, lfE M j⟩ = ⟨false, 0, 0, lfE M (j + 1)⟩ := by
      unfold fadeE
      simp only
      rw [timesE_self t0, lf_next]
      simp
    rwa [e] at this
  have HZ13 : Hid (c.arr[13]? = some (.int .i64 c.f13)) := rfl
  clear h1 hz b13 hM1 hO1
  generalize c.f13 = f at *
  generalize c.arr = cs at *
  go_enter Tryd.func4, Tryd.ntmps4
  go_upto_region 1 with fail
  generalize hW0 : w.alloc _ = W0
  have HC0 : Hid (HasBox W0 w.heap.size 23 cs) := by show HasBox _ _ _ _; rw [← hW0]; exact hasBox_new w _ _
  have HB0 : Hid (Below w.heap.size w W0) := by show Below _ _ _; rw [← hW0]; exact (Below.refl _ _).alloc (Nat.le_refl _) _
  clear hW0
  go_wp2_with (first | (refine wpList_load_bx rfl 23 (.tmp 3) rfl w.heap.size rfl 23 _ _ HC0.out Tryd.underlying23 rfl HI.out ?_) | fail)
  refine (HMayC.out _).mono ?_
  rintro e w1 ⟨rfl, hb⟩
  have HC1 : Hid (HasBox w1 w.heap.size 23 cs) := HC0.out.below hb
  have HB1 : Hid (Below w.heap.size w w1) := HB0.out.trans (hb.mono HB0.out.size)
  have HA1 : Hid (w.heap.size < w1.heap.size) := HC1.out.lt
  clear hb HB0 HC0 HMayC
  go_upto_region 5 with fail
  generalize hW2 : World.alloc _ _ = W2
  have HC2 : Hid (HasBox W2 w.heap.size 23 cs) := by show HasBox _ _ _ _; rw [← hW2]; exact HC1.out.alloc _
  have HX2 : Hid (HasBox W2 w1.heap.size 32 #[.bool false, .int .i64 0, .int .i64 0, .int .i64 (tmE 0)]) := by show HasBox _ _ _ _; rw [← hW2]; exact hasBox_new w1 _ _
  have HB2 : Hid (Below w.heap.size w W2) := by show Below _ _ _; rw [← hW2]; exact HB1.out.alloc HB1.out.size _
  have HLa : Hid (w.heap.size < w1.heap.size) := HA1.out
  clear hW2 HC1 HB1 hM2 hM3 hO2 hO3
  generalize w1.heap.size = a at *
  go_wp2
  go_loopw [2, 25] (fun x i wr => ∃ (k : Nat) (X : Int), k ≤ M ∧ i = .int .i64 k ∧ x = .int .i64 X ∧ (0 ≤ X ∧ X ≤ 1000000 + (k : Int) * 100000) ∧ HasBox wr w.heap.size 23 cs ∧ HasBox wr a 32 #[.bool false, .int .i64 0, .int .i64 0, .int .i64 (tmE k)] ∧ Below w.heap.size w wr) (fun _ i _ => M - (intOf i).toNat)
  case atStart => exact ⟨0, (O : Int), Nat.zero_le _, rfl, rfl, by have := HOL.out; omega, HC2.out, HX2.out, HB2.out⟩
  case round =>
    obtain ⟨k, X, hk, rfl, rfl, hX, hc, hx, hb⟩ := hrel
    have HCr : Hid (HasBox wr w.heap.size 23 cs) := hc
    have HXr : Hid (HasBox wr a 32 #[.bool false, .int .i64 0, .int .i64 0, .int .i64 (tmE k)]) := hx
    have HB : Hid (Below w.heap.size w wr) := hb
    clear hc hx hb HC2 HX2 HB2
    have hml := HML.out
    by_cases hlt : k < M
    · have n1 : (k : Int) < (M : Int) := by omega
      have HO1 : Hid _ := HOut.out k X (by omega)
      obtain ⟨t1, t2⟩ := tmE_bd (k + 1)
      have t3 : 0 ≤ f * tmE (k + 1) := Int.mul_nonneg (by have := HFb.out; omega) t1
      have t4 : f * tmE (k + 1) ≤ 10000 * 10 := Int.mul_le_mul HFb.out.2 t2 t1 (by omega)
      obtain ⟨D, hD⟩ : ∃ D, f * tmE (k + 1) = D := ⟨_, rfl⟩
      rw [hD] at t3 t4 HO1
      obtain ⟨U, hU⟩ : ∃ U, X + D = U := ⟨_, rfl⟩
      rw [hU] at HO1
      have HFa1 : Hid _ := HFade.out X U (k + 1) (by omega) (by omega)
      have HBa1 : Hid _ := HBack.out X U (k + 1) (by omega) (by omega)
      have hmin : (if (10 : Int) < (k : Int) + 1 then 10 else (k : Int) + 1) = tmE (k + 1) := by unfold tmE; rw [Int.natCast_add]; rfl
      have HD1 : Hid (IntKind.i64.wrap (U - X) = D) := by show _ = _; rw [← hU]; rw [wrap_in (by omega) (by omega)]; omega
      have HD2 : Hid (IntKind.i64.wrap (f * tmE (k + 1)) = D) := (wrap_in (by omega) (by omega)).trans hD
      have HUb : Hid (0 ≤ U ∧ U ≤ 1000000 + ((k + 1 : Nat) : Int) * 100000) := by show _ ∧ _; omega
      obtain ⟨k1, hk1⟩ : ∃ x, (k : Int) + 1 = x := ⟨_, rfl⟩
      have HK1 : Hid (IntKind.i64.wrap ((k : Int) + 1) = k1) := (wrap_in (by omega) (by omega)).trans hk1
      rw [hk1] at hmin
      obtain ⟨m, hm⟩ : ∃ m, tmE (k + 1) = m := ⟨_, rfl⟩
      rw [hm] at hmin HD2 HO1 HFa1 HBa1
      have HMin : Hid ((if (10 : Int) < k1 then 10 else k1) = m) := hmin
      have HTm : Hid (tmE (k + 1) = m) := hm
      have HHk : Hid ((k : Int) + 1 = k1) := hk1
      clear hmin hm hk1 hU hD t1 t2 t3 t4 hX
      go_wp2_with (first | (refine wpList_load_bx rfl 23 (.tmp 3) rfl w.heap.size rfl 23 _ _ HCr.out Tryd.underlying23 rfl HI.out ?_) | (refine wpList_load_bx rfl 32 (.tmp 7) rfl a rfl 32 _ _ HXr.out Tryd.underlying32 rfl infoOuting ?_) | fail)
      refine (HO1.out _ (HT.out.below HB.out)).mono ?_
      rintro e w5 ⟨rfl, hb⟩
      have HC5 : Hid (HasBox w5 w.heap.size 23 cs) := HCr.out.below hb
      have HX5 : Hid (HasBox w5 a 32 #[.bool false, .int .i64 0, .int .i64 0, .int .i64 (tmE k)]) := HXr.out.below hb
      have HB5 : Hid (Below w.heap.size w w5) := HB.out.trans (hb.mono HB.out.size)
      clear hb HCr HXr HB HO1
      go_upto_region 9 with fail
      generalize hW6 : World.alloc _ _ = W6
      have HC6 : Hid (HasBox W6 w.heap.size 23 cs) := by show HasBox _ _ _ _; rw [← hW6]; exact HC5.out.alloc _
      have HX6 : Hid (HasBox W6 a 32 #[.bool false, .int .i64 0, .int .i64 0, .int .i64 (tmE k)]) := by show HasBox _ _ _ _; rw [← hW6]; exact HX5.out.alloc _
      have HP6 : Hid (HasBox W6 w5.heap.size 32 #[.bool true, .int .i64 X, .int .i64 U, .int .i64 m]) := by show HasBox _ _ _ _; rw [← hW6]; exact hasBox_new w5 _ _
      have HB6 : Hid (Below w.heap.size w W6) := by show Below _ _ _; rw [← hW6]; exact HB5.out.alloc HB5.out.size _
      have HNe : Hid (a < w5.heap.size) := HX5.out.lt
      clear hW6 HC5 HX5 HB5
      generalize w5.heap.size = b at *
      have HC : ∀ W, Below W6.heap.size W6 W → HasBox W w.heap.size 23 cs := fun W h => HC6.out.below h
      have HP : ∀ W, Below W6.heap.size W6 W → HasBox W b 32 #[.bool true, .int .i64 X, .int .i64 U, .int .i64 m] := fun W h => HP6.out.below h
      have HFa := HFa1.out
      refine wp_region_mp ([eqP (.pointer (some ⟨b, 0, none⟩)), eqP (.bool true), eqP (.bool false), eqP (.bool false), eqP (.pointer (some ⟨b, 1, none⟩)), eqP (.int .i64 X), eqP (.int .i64 X), eqP (.bool false), eqP (.bool false), eqP (.bool false), eqP (.pointer (some ⟨b, 3, none⟩)), eqP (.int .i64 m), eqP (.int .i64 k), eqP (.int .i64 k1), eqP (.int .i64 m), eqP (.bool false), eqP (.bool false), eqP (.bool false), eqP (.pointer (some ⟨b, 2, none⟩)), eqP (.int .i64 U), eqP (.int .i64 X), eqP (.int .i64 D), eqP (.pointer (some ⟨w.heap.size, 13, none⟩)), eqP (.int .i64 f), eqP (.int .i64 k), eqP (.int .i64 k1), eqP (.int .i64 m), eqP (.int .i64 D), eqP (.bool false), eqP (.bool false), eqP (.bool false), eqP (.agg #[.bool true, .int .i64 X, .int .i64 U, .int .i64 m]), eqP (.agg #[.bool true, .int .i64 X, .int .i64 U, .int .i64 m]), eqP (.agg #[.bool true, .int .i64 X, .int .i64 U, .int .i64 m]), eqP (.bool false), eqP (.bool false)]) (by kernel_rfl) (by kernel_rfl) ?_ ?_
      · simp only [stepsAll3]
        refine ⟨fun a W hF hE hd => ?_, fun a W hF hE hd => ?_, fun a W hF hE hd => ?_, fun a W hF hE hd => ?_, fun a W hF hE hd => ?_, fun a W hF hE hd => ?_, fun a W hF hE hd => ?_, fun a W hF hE hd => ?_, fun a W hF hE hd => ?_, fun a W hF hE hd => ?_, fun a W hF hE hd => ?_, fun a W hF hE hd => ?_, fun a W hF hE hd => ?_, fun a W hF hE hd => ?_, fun a W hF hE hd => ?_, fun a W hF hE hd => ?_, fun a W hF hE hd => ?_, fun a W hF hE hd => ?_, fun a W hF hE hd => ?_, fun a W hF hE hd => ?_, fun a W hF hE hd => ?_, fun a W hF hE hd => ?_, fun a W hF hE hd => ?_, fun a W hF hE hd => ?_, fun a W hF hE hd => ?_, fun a W hF hE hd => ?_, fun a W hF hE hd => ?_, fun a W hF hE hd => ?_, fun a W hF hE hd => ?_, fun a W hF hE hd => ?_, fun a W hF hE hd => ?_, fun a W hF hE hd => ?_, fun a W hF hE hd => ?_, fun a W hF hE hd => ?_, fun a W hF hE hd => ?_, fun a W hF hE hd => ?_, trivial⟩
        all_goals unfold StepAt
        · have t9 : a.tmps.getD 9 undef = .pointer (some ⟨b, 0, none⟩) := hF.at 9 (by kernel_rfl)
          rw [Array.getD_eq_getD_getElem?] at t9
          refine .inl ⟨rfl, ?_⟩
          go_simp
          exact ⟨Below.refl _ _, rfl⟩
        · have t32 : a.tmps.getD 32 undef = .pointer (some ⟨b, 0, none⟩) := hd { on := 0, ground := .data } (by simp) rfl
          rw [Array.getD_eq_getD_getElem?] at t32
          refine .inl ⟨rfl, ?_⟩
          have q0 : W.cell? ⟨b, 0, none⟩ = some (.bool true) := (HP W hE).cell 0
          go_simp
          exact ⟨Below.refl _ _, rfl⟩
        · have t33 : a.tmps.getD 33 undef = .bool true := hd { on := 1, ground := .data } (by simp) rfl
          rw [Array.getD_eq_getD_getElem?] at t33
          refine .inl ⟨rfl, ?_⟩
          go_simp
          exact ⟨Below.refl _ _, rfl⟩
        · have t34 : a.tmps.getD 34 undef = .bool false := hd { on := 2, ground := .data } (by simp) rfl
          rw [Array.getD_eq_getD_getElem?] at t34
          refine .inl ⟨rfl, ?_⟩
          go_simp
          exact ⟨Below.refl _ _, rfl⟩
        · have t9 : a.tmps.getD 9 undef = .pointer (some ⟨b, 0, none⟩) := hF.at 9 (by kernel_rfl)
          rw [Array.getD_eq_getD_getElem?] at t9
          have g35 : a.eval (.tmp 35) = .bool false := hd { on := 3, ground := .guard } (by simp) rfl
          refine .inl ⟨(by simp only [Region.wanted]; rw [yielded_of (d := 35) (by rfl) g35]; rfl), ?_⟩
          clear g35
          go_simp
          exact ⟨Below.refl _ _, rfl⟩
        · have t36 : a.tmps.getD 36 undef = .pointer (some ⟨b, 1, none⟩) := hd { on := 4, ground := .data } (by simp) rfl
          rw [Array.getD_eq_getD_getElem?] at t36
          have g35 : a.eval (.tmp 35) = .bool false := hd { on := 3, ground := .guard } (by simp) rfl
          refine .inl ⟨(by simp only [Region.wanted]; rw [yielded_of (d := 35) (by rfl) g35]; rfl), ?_⟩
          clear g35
          have q1 : W.cell? ⟨b, 1, none⟩ = some (.int .i64 X) := (HP W hE).cell 1
          go_simp
          exact ⟨Below.refl _ _, rfl⟩
        · have t2 : a.tmps.getD 2 undef = .int .i64 X := hF.at 2 (by kernel_rfl)
          rw [Array.getD_eq_getD_getElem?] at t2
          have g35 : a.eval (.tmp 35) = .bool false := hd { on := 3, ground := .guard } (by simp) rfl
          refine .inl ⟨(by simp only [Region.wanted]; rw [yielded_of (d := 35) (by rfl) g35]; rfl), ?_⟩
          clear g35
          go_simp
          exact ⟨Below.refl _ _, rfl⟩
        · have t37 : a.tmps.getD 37 undef = .int .i64 X := hd { on := 5, ground := .data } (by simp) rfl
          rw [Array.getD_eq_getD_getElem?] at t37
          have t38 : a.tmps.getD 38 undef = .int .i64 X := hd { on := 6, ground := .data } (by simp) rfl
          rw [Array.getD_eq_getD_getElem?] at t38
          have g35 : a.eval (.tmp 35) = .bool false := hd { on := 3, ground := .guard } (by simp) rfl
          refine .inl ⟨(by simp only [Region.wanted]; rw [yielded_of (d := 35) (by rfl) g35]; rfl), ?_⟩
          clear g35
          have e := bne_self X
          go_simp
          exact ⟨Below.refl _ _, rfl⟩
        · have t35 : a.tmps.getD 35 undef = .bool false := hd { on := 3, ground := .data } (by simp) rfl
          rw [Array.getD_eq_getD_getElem?] at t35
          have t39 : a.tmps.getD 39 undef = .bool false := hd { on := 7, ground := .data } (by simp) rfl
          rw [Array.getD_eq_getD_getElem?] at t39
          refine .inl ⟨rfl, ?_⟩
          go_simp
          exact ⟨Below.refl _ _, rfl⟩
        · have t40 : a.tmps.getD 40 undef = .bool false := hd { on := 8, ground := .data } (by simp) rfl
          rw [Array.getD_eq_getD_getElem?] at t40
          refine .inl ⟨rfl, ?_⟩
          go_simp
          exact ⟨Below.refl _ _, rfl⟩
        · have t9 : a.tmps.getD 9 undef = .pointer (some ⟨b, 0, none⟩) := hF.at 9 (by kernel_rfl)
          rw [Array.getD_eq_getD_getElem?] at t9
          have g41 : a.eval (.tmp 41) = .bool false := hd { on := 9, ground := .guard } (by simp) rfl
          refine .inl ⟨(by simp only [Region.wanted]; rw [yielded_of (d := 41) (by rfl) g41]; rfl), ?_⟩
          clear g41
          go_simp
          exact ⟨Below.refl _ _, rfl⟩
        · have t42 : a.tmps.getD 42 undef = .pointer (some ⟨b, 3, none⟩) := hd { on := 10, ground := .data } (by simp) rfl
          rw [Array.getD_eq_getD_getElem?] at t42
          have g41 : a.eval (.tmp 41) = .bool false := hd { on := 9, ground := .guard } (by simp) rfl
          refine .inl ⟨(by simp only [Region.wanted]; rw [yielded_of (d := 41) (by rfl) g41]; rfl), ?_⟩
          clear g41
          have q3 : W.cell? ⟨b, 3, none⟩ = some (.int .i64 m) := (HP W hE).cell 3
          go_simp
          exact ⟨Below.refl _ _, rfl⟩
        · have t8 : a.tmps.getD 8 undef = .int .i64 k := hF.at 8 (by kernel_rfl)
          rw [Array.getD_eq_getD_getElem?] at t8
          have g41 : a.eval (.tmp 41) = .bool false := hd { on := 9, ground := .guard } (by simp) rfl
          refine .inl ⟨(by simp only [Region.wanted]; rw [yielded_of (d := 41) (by rfl) g41]; rfl), ?_⟩
          clear g41
          go_simp
          exact ⟨Below.refl _ _, rfl⟩
        · have t44 : a.tmps.getD 44 undef = .int .i64 k := hd { on := 12, ground := .data } (by simp) rfl
          rw [Array.getD_eq_getD_getElem?] at t44
          have g41 : a.eval (.tmp 41) = .bool false := hd { on := 9, ground := .guard } (by simp) rfl
          refine .inl ⟨(by simp only [Region.wanted]; rw [yielded_of (d := 41) (by rfl) g41]; rfl), ?_⟩
          clear g41
          have e := HK1.out
          go_simp
          exact ⟨Below.refl _ _, rfl⟩
        · have t45 : a.tmps.getD 45 undef = .int .i64 k1 := hd { on := 13, ground := .data } (by simp) rfl
          rw [Array.getD_eq_getD_getElem?] at t45
          have g41 : a.eval (.tmp 41) = .bool false := hd { on := 9, ground := .guard } (by simp) rfl
          refine .inl ⟨(by simp only [Region.wanted]; rw [yielded_of (d := 41) (by rfl) g41]; rfl), ?_⟩
          clear g41
          have e := HMin.out
          go_simp
          exact ⟨Below.refl _ _, rfl⟩
        · have t43 : a.tmps.getD 43 undef = .int .i64 m := hd { on := 11, ground := .data } (by simp) rfl
          rw [Array.getD_eq_getD_getElem?] at t43
          have t46 : a.tmps.getD 46 undef = .int .i64 m := hd { on := 14, ground := .data } (by simp) rfl
          rw [Array.getD_eq_getD_getElem?] at t46
          have g41 : a.eval (.tmp 41) = .bool false := hd { on := 9, ground := .guard } (by simp) rfl
          refine .inl ⟨(by simp only [Region.wanted]; rw [yielded_of (d := 41) (by rfl) g41]; rfl), ?_⟩
          clear g41
          have e := bne_self m
          go_simp
          exact ⟨Below.refl _ _, rfl⟩
        · have t41 : a.tmps.getD 41 undef = .bool false := hd { on := 9, ground := .data } (by simp) rfl
          rw [Array.getD_eq_getD_getElem?] at t41
          have t47 : a.tmps.getD 47 undef = .bool false := hd { on := 15, ground := .data } (by simp) rfl
          rw [Array.getD_eq_getD_getElem?] at t47
          refine .inl ⟨rfl, ?_⟩
          go_simp
          exact ⟨Below.refl _ _, rfl⟩
        · have t48 : a.tmps.getD 48 undef = .bool false := hd { on := 16, ground := .data } (by simp) rfl
          rw [Array.getD_eq_getD_getElem?] at t48
          refine .inl ⟨rfl, ?_⟩
          go_simp
          exact ⟨Below.refl _ _, rfl⟩
        · have t9 : a.tmps.getD 9 undef = .pointer (some ⟨b, 0, none⟩) := hF.at 9 (by kernel_rfl)
          rw [Array.getD_eq_getD_getElem?] at t9
          have g49 : a.eval (.tmp 49) = .bool false := hd { on := 17, ground := .guard } (by simp) rfl
          refine .inl ⟨(by simp only [Region.wanted]; rw [yielded_of (d := 49) (by rfl) g49]; rfl), ?_⟩
          clear g49
          go_simp
          exact ⟨Below.refl _ _, rfl⟩
        · have t50 : a.tmps.getD 50 undef = .pointer (some ⟨b, 2, none⟩) := hd { on := 18, ground := .data } (by simp) rfl
          rw [Array.getD_eq_getD_getElem?] at t50
          have g49 : a.eval (.tmp 49) = .bool false := hd { on := 17, ground := .guard } (by simp) rfl
          refine .inl ⟨(by simp only [Region.wanted]; rw [yielded_of (d := 49) (by rfl) g49]; rfl), ?_⟩
          clear g49
          have q2 : W.cell? ⟨b, 2, none⟩ = some (.int .i64 U) := (HP W hE).cell 2
          go_simp
          exact ⟨Below.refl _ _, rfl⟩
        · have t2 : a.tmps.getD 2 undef = .int .i64 X := hF.at 2 (by kernel_rfl)
          rw [Array.getD_eq_getD_getElem?] at t2
          have g49 : a.eval (.tmp 49) = .bool false := hd { on := 17, ground := .guard } (by simp) rfl
          refine .inl ⟨(by simp only [Region.wanted]; rw [yielded_of (d := 49) (by rfl) g49]; rfl), ?_⟩
          clear g49
          go_simp
          exact ⟨Below.refl _ _, rfl⟩
        · have t51 : a.tmps.getD 51 undef = .int .i64 U := hd { on := 19, ground := .data } (by simp) rfl
          rw [Array.getD_eq_getD_getElem?] at t51
          have t52 : a.tmps.getD 52 undef = .int .i64 X := hd { on := 20, ground := .data } (by simp) rfl
          rw [Array.getD_eq_getD_getElem?] at t52
          have g49 : a.eval (.tmp 49) = .bool false := hd { on := 17, ground := .guard } (by simp) rfl
          refine .inl ⟨(by simp only [Region.wanted]; rw [yielded_of (d := 49) (by rfl) g49]; rfl), ?_⟩
          clear g49
          have e := HD1.out
          go_simp
          exact ⟨Below.refl _ _, rfl⟩
        · have t3 : a.tmps.getD 3 undef = .pointer (some ⟨w.heap.size, 0, none⟩) := hF.at 3 (by kernel_rfl)
          rw [Array.getD_eq_getD_getElem?] at t3
          have g49 : a.eval (.tmp 49) = .bool false := hd { on := 17, ground := .guard } (by simp) rfl
          refine .inl ⟨(by simp only [Region.wanted]; rw [yielded_of (d := 49) (by rfl) g49]; rfl), ?_⟩
          clear g49
          go_simp
          exact ⟨Below.refl _ _, rfl⟩
        · have t54 : a.tmps.getD 54 undef = .pointer (some ⟨w.heap.size, 13, none⟩) := hd { on := 22, ground := .data } (by simp) rfl
          rw [Array.getD_eq_getD_getElem?] at t54
          have g49 : a.eval (.tmp 49) = .bool false := hd { on := 17, ground := .guard } (by simp) rfl
          refine .inl ⟨(by simp only [Region.wanted]; rw [yielded_of (d := 49) (by rfl) g49]; rfl), ?_⟩
          clear g49
          have q13 : W.cell? ⟨w.heap.size, 13, none⟩ = some (.int .i64 f) := (HC W hE).cell 13 |>.trans HZ13.out
          go_simp
          exact ⟨Below.refl _ _, rfl⟩
        · have t8 : a.tmps.getD 8 undef = .int .i64 k := hF.at 8 (by kernel_rfl)
          rw [Array.getD_eq_getD_getElem?] at t8
          have g49 : a.eval (.tmp 49) = .bool false := hd { on := 17, ground := .guard } (by simp) rfl
          refine .inl ⟨(by simp only [Region.wanted]; rw [yielded_of (d := 49) (by rfl) g49]; rfl), ?_⟩
          clear g49
          go_simp
          exact ⟨Below.refl _ _, rfl⟩
        · have t56 : a.tmps.getD 56 undef = .int .i64 k := hd { on := 24, ground := .data } (by simp) rfl
          rw [Array.getD_eq_getD_getElem?] at t56
          have g49 : a.eval (.tmp 49) = .bool false := hd { on := 17, ground := .guard } (by simp) rfl
          refine .inl ⟨(by simp only [Region.wanted]; rw [yielded_of (d := 49) (by rfl) g49]; rfl), ?_⟩
          clear g49
          have e := HK1.out
          go_simp
          exact ⟨Below.refl _ _, rfl⟩
        · have t57 : a.tmps.getD 57 undef = .int .i64 k1 := hd { on := 25, ground := .data } (by simp) rfl
          rw [Array.getD_eq_getD_getElem?] at t57
          have g49 : a.eval (.tmp 49) = .bool false := hd { on := 17, ground := .guard } (by simp) rfl
          refine .inl ⟨(by simp only [Region.wanted]; rw [yielded_of (d := 49) (by rfl) g49]; rfl), ?_⟩
          clear g49
          have e := HMin.out
          go_simp
          exact ⟨Below.refl _ _, rfl⟩
        · have t55 : a.tmps.getD 55 undef = .int .i64 f := hd { on := 23, ground := .data } (by simp) rfl
          rw [Array.getD_eq_getD_getElem?] at t55
          have t58 : a.tmps.getD 58 undef = .int .i64 m := hd { on := 26, ground := .data } (by simp) rfl
          rw [Array.getD_eq_getD_getElem?] at t58
          have g49 : a.eval (.tmp 49) = .bool false := hd { on := 17, ground := .guard } (by simp) rfl
          refine .inl ⟨(by simp only [Region.wanted]; rw [yielded_of (d := 49) (by rfl) g49]; rfl), ?_⟩
          clear g49
          have e := HD2.out
          go_simp
          exact ⟨Below.refl _ _, rfl⟩
        · have t53 : a.tmps.getD 53 undef = .int .i64 D := hd { on := 21, ground := .data } (by simp) rfl
          rw [Array.getD_eq_getD_getElem?] at t53
          have t59 : a.tmps.getD 59 undef = .int .i64 D := hd { on := 27, ground := .data } (by simp) rfl
          rw [Array.getD_eq_getD_getElem?] at t59
          have g49 : a.eval (.tmp 49) = .bool false := hd { on := 17, ground := .guard } (by simp) rfl
          refine .inl ⟨(by simp only [Region.wanted]; rw [yielded_of (d := 49) (by rfl) g49]; rfl), ?_⟩
          clear g49
          have e := bne_self D
          go_simp
          exact ⟨Below.refl _ _, rfl⟩
        · have t49 : a.tmps.getD 49 undef = .bool false := hd { on := 17, ground := .data } (by simp) rfl
          rw [Array.getD_eq_getD_getElem?] at t49
          have t60 : a.tmps.getD 60 undef = .bool false := hd { on := 28, ground := .data } (by simp) rfl
          rw [Array.getD_eq_getD_getElem?] at t60
          refine .inl ⟨rfl, ?_⟩
          go_simp
          exact ⟨Below.refl _ _, rfl⟩
        · have t61 : a.tmps.getD 61 undef = .bool false := hd { on := 29, ground := .data } (by simp) rfl
          rw [Array.getD_eq_getD_getElem?] at t61
          refine .inl ⟨rfl, ?_⟩
          go_simp
          exact ⟨Below.refl _ _, rfl⟩
        · have t9 : a.tmps.getD 9 undef = .pointer (some ⟨b, 0, none⟩) := hF.at 9 (by kernel_rfl)
          rw [Array.getD_eq_getD_getElem?] at t9
          have g62 : a.eval (.tmp 62) = .bool false := hd { on := 30, ground := .guard } (by simp) rfl
          refine .inl ⟨(by simp only [Region.wanted]; rw [yielded_of (d := 62) (by rfl) g62]; rfl), ?_⟩
          clear g62
          rw [run_oload _ _ 32 (.tmp 9) rfl b (by simpa [Act.eval] using t9) 32 (#[.bool true, .int .i64 X, .int .i64 U, .int .i64 m]) (0, 0) _ (HP W hE) Tryd.underlying32 rfl infoOuting]
          exact ⟨Below.refl _ _, rfl⟩
        · have t63 : a.tmps.getD 63 undef = .agg #[.bool true, .int .i64 X, .int .i64 U, .int .i64 m] := hd { on := 31, ground := .data } (by simp) rfl
          rw [Array.getD_eq_getD_getElem?] at t63
          have g62 : a.eval (.tmp 62) = .bool false := hd { on := 30, ground := .guard } (by simp) rfl
          refine .inl ⟨(by simp only [Region.wanted]; rw [yielded_of (d := 62) (by rfl) g62]; rfl), ?_⟩
          clear g62
          go_simp
          exact (HFa W).mono fun e w2 h => ⟨_, h.1, h.2, rfl⟩
        · have t9 : a.tmps.getD 9 undef = .pointer (some ⟨b, 0, none⟩) := hF.at 9 (by kernel_rfl)
          rw [Array.getD_eq_getD_getElem?] at t9
          have g62 : a.eval (.tmp 62) = .bool false := hd { on := 30, ground := .guard } (by simp) rfl
          refine .inl ⟨(by simp only [Region.wanted]; rw [yielded_of (d := 62) (by rfl) g62]; rfl), ?_⟩
          clear g62
          rw [run_oload _ _ 32 (.tmp 9) rfl b (by simpa [Act.eval] using t9) 32 (#[.bool true, .int .i64 X, .int .i64 U, .int .i64 m]) (0, 0) _ (HP W hE) Tryd.underlying32 rfl infoOuting]
          exact ⟨Below.refl _ _, rfl⟩
        · have t64 : a.tmps.getD 64 undef = .agg #[.bool true, .int .i64 X, .int .i64 U, .int .i64 m] := hd { on := 32, ground := .data } (by simp) rfl
          rw [Array.getD_eq_getD_getElem?] at t64
          have t65 : a.tmps.getD 65 undef = .agg #[.bool true, .int .i64 X, .int .i64 U, .int .i64 m] := hd { on := 33, ground := .data } (by simp) rfl
          rw [Array.getD_eq_getD_getElem?] at t65
          have g62 : a.eval (.tmp 62) = .bool false := hd { on := 30, ground := .guard } (by simp) rfl
          refine .inl ⟨(by simp only [Region.wanted]; rw [yielded_of (d := 62) (by rfl) g62]; rfl), ?_⟩
          clear g62
          have hgd := guard_outing
          have hq : (binOp .neq 32 (.agg #[.bool true, .int .i64 X, .int .i64 U, .int .i64 m]) (.agg #[.bool true, .int .i64 X, .int .i64 U, .int .i64 m])).run Tryd.prog W = .ok (.bool false) W := run_diffO ⟨true, X, U, m⟩ W
          go_simp
          exact ⟨Below.refl _ _, rfl⟩
        · have t62 : a.tmps.getD 62 undef = .bool false := hd { on := 30, ground := .data } (by simp) rfl
          rw [Array.getD_eq_getD_getElem?] at t62
          have t66 : a.tmps.getD 66 undef = .bool false := hd { on := 34, ground := .data } (by simp) rfl
          rw [Array.getD_eq_getD_getElem?] at t66
          refine .inl ⟨rfl, ?_⟩
          go_simp
          exact ⟨Below.refl _ _, rfl⟩
      · intro vs W hE hV
        have h35 : vs 35 = .bool false := hV 35 (by decide)
        have HWW : Hid (Below W6.heap.size W6 W) := hE
        have HBf : Hid (Below w.heap.size w W) := HB6.out.trans (hE.mono HB6.out.size)
        clear hV hE
        simp only [putsV, dstsV, List.foldl, h35, Act.put, List.setIfInBounds_toArray, List.set_cons_succ, List.set_cons_zero]
        clear h35
        generalize vs 0 = y0
        generalize vs 1 = y1
        generalize vs 2 = y2
        generalize vs 3 = y3
        generalize vs 4 = y4
        generalize vs 5 = y5
        generalize vs 6 = y6
        generalize vs 7 = y7
        generalize vs 8 = y8
        generalize vs 9 = y9
        generalize vs 10 = y10
        generalize vs 11 = y11
        generalize vs 12 = y12
        generalize vs 13 = y13
        generalize vs 14 = y14
        generalize vs 15 = y15
        generalize vs 16 = y16
        generalize vs 17 = y17
        generalize vs 18 = y18
        generalize vs 19 = y19
        generalize vs 20 = y20
        generalize vs 21 = y21
        generalize vs 22 = y22
        generalize vs 23 = y23
        generalize vs 24 = y24
        generalize vs 25 = y25
        generalize vs 26 = y26
        generalize vs 27 = y27
        generalize vs 28 = y28
        generalize vs 29 = y29
        generalize vs 30 = y30
        generalize vs 31 = y31
        generalize vs 32 = y32
        generalize vs 33 = y33
        generalize vs 34 = y34
        refine ‹∀ (a : Act) (w : World), Code.wp Tryd.prog (Code.cond _ _ _) _ a w → _› _ _ ?_
        have HCw : Hid (HasBox W w.heap.size 23 cs) := HC W HWW.out
        have HXw : Hid (HasBox W a 32 #[.bool false, .int .i64 0, .int .i64 0, .int .i64 (tmE k)]) := HX6.out.below HWW.out
        have HPw : Hid (HasBox W b 32 #[.bool true, .int .i64 X, .int .i64 U, .int .i64 m]) := HP W HWW.out
        clear HC HP HFa HC6 HX6 HP6 HB6 HWW
        have qU : W.cell? ⟨b, 2, none⟩ = some (.int .i64 U) := HPw.out.cell 2
        go_wp2_with (first | (refine wpList_load_bx rfl 32 (.tmp 9) rfl b rfl 32 _ _ HPw.out Tryd.underlying32 rfl infoOuting ?_) | fail)
        refine (HBa1.out _).mono ?_
        rintro e z ⟨rfl, hb⟩
        have HCz : Hid (HasBox z w.heap.size 23 cs) := HCw.out.below hb
        have HXz : Hid (HasBox z a 32 #[.bool false, .int .i64 0, .int .i64 0, .int .i64 (tmE k)]) := HXw.out.below hb
        have HBz : Hid (Below w.heap.size w z) := HBf.out.trans (hb.mono HBf.out.size)
        clear hb qU HCw HXw HPw HBf HBa1
        go_wp2_with (first | (refine wpList_store_row rfl 32 (.tmp 7) (.tmp 71) rfl a (#[.bool false, .int .i64 0, .int .i64 0, .int .i64 m] : Array Value) rfl rfl 32 _ HXz.out infoOuting rfl (ogcells_one ⟨false, 0, 0, m⟩) ?_; generalize hW8 : World.setRow _ _ _ = W8; have HX8 : Hid (HasBox W8 a 32 #[.bool false, .int .i64 0, .int .i64 0, .int .i64 m]) := (by show HasBox _ _ _ _; rw [← hW8]; exact HXz.out.row); have HC8 : Hid (HasBox W8 w.heap.size 23 cs) := (by show HasBox _ _ _ _; rw [← hW8]; exact HCz.out.rowOther (Nat.ne_of_lt HLa.out)); have HB8 : Hid (Below w.heap.size w W8) := (by show Below _ _ _; rw [← hW8]; exact below_setRow HBz.out (Nat.le_of_lt HLa.out) _); clear hW8) | fail)
        go_roundw
        case rel => exact ⟨k + 1, U, by omega, by go_num, rfl, HUb.out, HC8.out, by rw [HTm.out]; exact HX8.out, HB8.out⟩
        case measure => simp [intOf]; omega
    · obtain rfl : k = M := by omega
      have HX0 : Hid (HasBox wr a 32 #[.bool false, .int .i64 0, .int .i64 0, .int .i64 (lfE k 0)]) := by show HasBox _ _ _ _; rw [lf_start]; exact HXr.out
      have HBm : Hid (Below w.heap.size w wr) := HB.out
      clear HCr HXr HB HOut HFade HBack HFb HZ13 HI hX hk
      go_wp2
      go_loopw [74] (fun i wq => ∃ j : Nat, j ≤ k ∧ i = .int .i64 j ∧ HasBox wq a 32 #[.bool false, .int .i64 0, .int .i64 0, .int .i64 (lfE k j)] ∧ Below w.heap.size w wq) (fun i _ => k - (intOf i).toNat)
      case atStart => exact ⟨0, Nat.zero_le _, rfl, HX0.out, HBm.out⟩
      case round =>
        obtain ⟨j, hj, rfl, hx, hb⟩ := hrel
        have HXj : Hid (HasBox wr a 32 #[.bool false, .int .i64 0, .int .i64 0, .int .i64 (lfE k j)]) := hx
        have HBj : Hid (Below w.heap.size w wr) := hb
        clear hx hb HX0 HBm
        by_cases hlt : j < k
        · have n1 : (j : Int) < (k : Int) := by omega
          have HLj : Hid _ := HLess.out j
          obtain ⟨t1, t2⟩ := tmE_bd k
          have s1 : (if (10 : Int) < (k : Int) then 10 else (k : Int)) = tmE k := rfl
          obtain ⟨y, hy⟩ : ∃ y, tmE k - (j : Int) = y := ⟨_, rfl⟩
          obtain ⟨x, hx⟩ : ∃ x, y - 1 = x := ⟨_, rfl⟩
          have s4 : (if 0 < x then x else 0) = lfE k (j + 1) := by rw [← hx, ← hy]; unfold lfE; rw [Int.natCast_add, Int.sub_sub]; rfl
          have s2 : IntKind.i64.wrap (tmE k - (j : Int)) = y := by rw [hy]; exact wrap_in (by omega) (by omega)
          have s3 : IntKind.i64.wrap (y - 1) = x := by rw [hx]; exact wrap_in (by omega) (by omega)
          generalize tmE k = T at *
          obtain ⟨L1, hL1⟩ : ∃ x, lfE k (j + 1) = x := ⟨_, rfl⟩
          rw [hL1] at s4 HLj
          have HL1 : Hid (lfE k (j + 1) = L1) := hL1
          have s5 := bne_self L1
          clear t1 t2 hy hx hL1
          go_wp2_with (first | (refine wpList_load_bx rfl 32 (.tmp 7) rfl a rfl 32 _ _ HXj.out Tryd.underlying32 rfl infoOuting ?_) | fail)
          refine (HLj.out _).mono ?_
          rintro e z ⟨rfl, hb⟩
          have HXz : Hid (HasBox z a 32 #[.bool false, .int .i64 0, .int .i64 0, .int .i64 (lfE k j)]) := HXj.out.below hb
          have HBz : Hid (Below w.heap.size w z) := HBj.out.trans (hb.mono HBj.out.size)
          clear hb HXj HBj HLj
          go_wp2_with (first | (refine wpList_store_row rfl 32 (.tmp 7) (.tmp 78) rfl a (#[.bool false, .int .i64 0, .int .i64 0, .int .i64 L1] : Array Value) rfl rfl 32 _ HXz.out infoOuting rfl (ogcells_one ⟨false, 0, 0, L1⟩) ?_; generalize hW8 : World.setRow _ _ _ = W8; have HX8 : Hid (HasBox W8 a 32 #[.bool false, .int .i64 0, .int .i64 0, .int .i64 L1]) := (by show HasBox _ _ _ _; rw [← hW8]; exact HXz.out.row); have HB8 : Hid (Below w.heap.size w W8) := (by show Below _ _ _; rw [← hW8]; exact below_setRow HBz.out (Nat.le_of_lt HLa.out) _); clear hW8; have q0 : W8.cell? ⟨a, 0, none⟩ = some (.bool false) := HX8.out.cell 0; have q3 : W8.cell? ⟨a, 3, none⟩ = some (.int .i64 L1) := HX8.out.cell 3) | fail)
          go_roundw
          case rel => exact ⟨j + 1, by omega, by go_num, by rw [HL1.out]; exact HX8.out, HB8.out⟩
          case measure => simp [intOf]; omega
        · obtain rfl : j = k := by omega
          have q3 : wr.cell? ⟨a, 3, none⟩ = some (.int .i64 0) := by
            have h := HXj.out.cell 3
            rw [lf_end] at h
            exact h
          clear HXj
          go_wp2_with fail
          refine (awake14_any _ (HT.out.below HBj.out)).mono ?_
          rintro e z ⟨rfl, hb⟩
          have HBz : Hid (Below w.heap.size w z) := HBj.out.trans (hb.mono HBj.out.size)
          clear hb q3
          go_wp2
          go_ret
          exact ⟨rfl, HBz.out⟩

theorem reads_EjectLonger (os : Os) {H : Type} (enc : TypeId × Value → H) : ∃ places, DataW.whole enc Tryd.prog ((laidWorld os).forCall (fun _ _ => 0) ⟨#[], #[.agg #[.int .i64 0, .int .i64 0, .int .i64 0, .int .i64 0, .int .i64 0, .int .i64 0, .int .i64 0, .int .i64 0, .int .i64 0, .int .i64 0, .int .i64 0, .int .i64 0, .int .i64 0, .int .i64 0, .int .i64 0, .bool false, .int .i64 0, .int .i64 0, .int .i64 0, .int .i64 0, .int .i64 0, .string ByteArray.empty, .bool false], .int .i64 0, .int .i64 0], []⟩).memory Tryd.f4.params.toList Rows.ejectLongerSpec.vars false (#[.agg #[.int .i64 0, .int .i64 0, .int .i64 0, .int .i64 0, .int .i64 0, .int .i64 0, .int .i64 0, .int .i64 0, .int .i64 0, .int .i64 0, .int .i64 0, .int .i64 0, .int .i64 0, .int .i64 0, .int .i64 0, .bool false, .int .i64 0, .int .i64 0, .int .i64 0, .int .i64 0, .int .i64 0, .string ByteArray.empty, .bool false], .int .i64 0, .int .i64 0] : Array Value).toList 8 = some ([.agg [.lit (.int .i64 0), .lit (.int .i64 0), .lit (.int .i64 0), .lit (.int .i64 0), .lit (.int .i64 0), .lit (.int .i64 0), .lit (.int .i64 0), .lit (.int .i64 0), .lit (.int .i64 0), .lit (.int .i64 0), .lit (.int .i64 0), .lit (.int .i64 0), .lit (.int .i64 0), .lit (.int .i64 0), .lit (.int .i64 0), .lit (.bool false), .lit (.int .i64 0), .lit (.int .i64 0), .lit (.int .i64 0), .lit (.int .i64 0), .lit (.int .i64 0), .lit (.string []), .lit (.bool false)], .lit (.int .i64 0), .lit (.int .i64 0)], [], places) :=
  ⟨[], by kernel_rfl⟩

set_option maxRecDepth 100000 in
theorem lifted_EjectLonger (os : Os) (started : os.Started) (H : Type) (enc : TypeId × Value → H) (F : Stop.Interp) :
    ReturnsInHanded {} Tryd.checked os 4 .any ((OpenSpec.ofChange Rows.ejectLongerSpec).preRow enc Tryd.prog Tryd.f4 Rows.ejectLongerRow.domain false Rows.ejectLongerRow.laid) (((OpenSpec.ofChange Rows.ejectLongerSpec).at F).post enc Tryd.prog Tryd.f4 false true false false) := by
  obtain ⟨places, hx⟩ := reads_EjectLonger os enc
  refine returnsInHanded_of_row (C := Tryd.checked) (s := OpenSpec.ofChange Rows.ejectLongerSpec) own started (by kernel_rfl) Tryd.func4
    (witness_row_at (enc := enc) (C := Tryd.checked) false (laidWorld os) #[.agg #[.int .i64 0, .int .i64 0, .int .i64 0, .int .i64 0, .int .i64 0, .int .i64 0, .int .i64 0, .int .i64 0, .int .i64 0, .int .i64 0, .int .i64 0, .int .i64 0, .int .i64 0, .int .i64 0, .int .i64 0, .bool false, .int .i64 0, .int .i64 0, .int .i64 0, .int .i64 0, .int .i64 0, .string ByteArray.empty, .bool false], .int .i64 0, .int .i64 0] rfl (by kernel_rfl) (by kernel_rfl) (by kernel_rfl)
      (OpenSpec.preRow_of_cond 8 hx (by kernel_rfl) (fun k hk => by cases hk) (by kernel_rfl) (laid_met os _))) ?_
  intro W base args ds gs before hval0 hW _ _ hsz0 hL _ _
  have htab := table hL
  have hval : ∀ (j : Nat) t v, Tryd.f4.params[j]? = some t → args[j]? = some v → Value.okWide Tryd.prog W .any base t v := hval0
  have hW' := hW
  obtain ⟨p, q, hA0, hV, rfl, hfz, hnd⟩ := hW
  have hA : DataW.TrodAll enc Tryd.prog W 0 (fun _ => true) true Tryd.f4.params.toList args.toList ds p := hA0
  rw [Tryd.params4] at hA hval
  obtain ⟨v0, vs0, d0, ds0, p0, q0, hargs, rfl, rfl, h0, r0⟩ := trodAll_cons hA
  obtain ⟨v1, vs1, d1, ds1, p1, q1, rfl, rfl, rfl, h1, r1⟩ := trodAll_cons r0
  obtain ⟨v2, vs2, d2, ds2, p2, q2, rfl, rfl, rfl, h2, r2⟩ := trodAll_cons r1
  obtain ⟨rfl, rfl, rfl⟩ := trodAll_nil r2
  obtain rfl : args = #[v0, v1, v2] := by cases args; simp_all
  obtain ⟨rfl, rfl⟩ := trodVars_none hV
  have k0 := h0
  have lt0 : ∀ x ∈ p0, x.block < W.heap.size := by obtain ⟨m, hm⟩ := k0; exact DataW.trod_lt m _ _ _ hm
  obtain ⟨z0, rfl, w0⟩ := open_cfg (hval 0 23 v0 rfl rfl) h0
  obtain ⟨a1, rfl, rfl, rfl, w1⟩ := open_int Tryd.underlying3 (hval 1 3 v1 rfl rfl) h1
  obtain ⟨a2, rfl, rfl, rfl, w2⟩ := open_int Tryd.underlying3 (hval 2 3 v2 rfl rfl) h2
  clear hA0 hval0
  refine (walk_EjectLonger z0 w0 a1 (bounds_i64 w1) a2 (bounds_i64 w2) W htab).mono fun e W' ⟨he, bel⟩ => ?_
  subst he
  exact ⟨_, rfl, _, _, _, [], _, [], hW', trodAll_mk1 (shut_bool Tryd.underlying4 _), (trodAll_cons_mk (Below.trod laidOut (by kernel_rfl) (of_decide_eq_true (by kernel_rfl)) k0 bel lt0) (trodAll_cons_mk (shut_int Tryd.underlying3 w1) (trodAll_cons_mk (shut_int Tryd.underlying3 w2) trodAll_mk0))), rfl, bel.frame _, fun h => by cases h⟩

theorem said_EjectLonger : Rows.EjectLongerSaid :=
  OpenClaim.holds_of_cond 4 Tryd.f4 rfl rfl rfl rfl rfl rfl rfl ⟨rfl, rfl, rfl, rfl, rfl⟩ rfl rfl rfl rfl rfl (by kernel_rfl) Tryd.func4 (by kernel_rfl)
    (of_decide_eq_true (by kernel_rfl)) (by unfold Func.isWrapper; first | (rw [if_pos (by decide +kernel)]; kernel_rfl) | (rw [if_neg (by decide +kernel)]; exact ⟨rfl, rfl⟩))
    (fun os started H enc _ F => by rw [OpenClaim.pre_eq_preRow]; exact lifted_EjectLonger os started H enc F)

theorem plain_EjectLonger (f : FuncId) (fn : Func) (hf : Tryd.pinned.checked.prog.funcNamed Rows.ejectLongerRow.func = some f) (hfn : Tryd.pinned.checked.prog.funcs[f]? = some fn) :
    false = Tryd.pinned.checked.prog.looks [] ∧ ∀ (j : Nat) t, fn.params[j]? = some t → Tryd.pinned.checked.prog.wantsStandIn t = false := by
  obtain rfl : f = 4 := Option.some.inj ((show Tryd.prog.funcNamed Rows.ejectLongerRow.func = some 4 by kernel_rfl).symm.trans hf) |>.symm
  obtain rfl : fn = Tryd.f4 := (Option.some.inj (Tryd.func4.symm.trans hfn)).symm
  refine ⟨by kernel_rfl, fun j t ht => ?_⟩
  rw [Tryd.params4] at ht
  have hm := Array.mem_of_getElem? ht
  simp only [List.mem_toArray, List.mem_cons, List.not_mem_nil, or_false] at hm
  rcases hm with rfl | rfl | rfl
  · exact (show Tryd.prog.wantsStandIn 23 = false by kernel_rfl)
  · exact (show Tryd.prog.wantsStandIn 3 = false by kernel_rfl)
  · exact (show Tryd.prog.wantsStandIn 3 = false by kernel_rfl)

/-- The statement. -/
theorem ejectLonger_holds : Rows.EjectLongerCardSaid :=
  Claim7.holds_tied_plain_at .later [] _ _ _ _ said_EjectLonger (fun _ h => by cases h) (by kernel_rfl) (fun _ h => by cases h) ejectLonger_row_tie rfl ⟨rfl, rfl⟩ (by kernel_rfl) rfl plain_EjectLonger (by kernel_rfl)
#print axioms ejectLonger_holds

end Go.Proofs.YtomhmndpjkfppaaDoor

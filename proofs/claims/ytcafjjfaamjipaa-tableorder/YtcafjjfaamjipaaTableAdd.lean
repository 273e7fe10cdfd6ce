/-
  Contracts of package table: Add.
-/
import Derived.Test.YtcafjjfaamjipaaTableMath
import Derived.Test.YtcafjjfaamjipaaTableInsert
import Derived.Deep.CutRange
namespace Go.Proofs.Ytcafjjfaamjipaa
open Go.RowKit

def keysP (ks : List (Int × Int)) : MP := ⟨fun v w => IsKeys w v ks, fun h hb => h.below hb⟩
def copiedP (base : Nat) (hs : List HostT) : MP := ⟨fun v w => ∃ g vs, v = .slice (some ⟨g, 0, none⟩) hs.length hs.length ∧ OwnHosts w base 25 48 (.slice (some ⟨g, 0, none⟩) hs.length hs.length) vs hs, fun ⟨g, vs, h1, h2⟩ hb => ⟨g, vs, h1, h2.below hb⟩⟩
def copyP (base : Nat) (h : HostT) : MP := ⟨fun v w => ∃ uo uc, v = hval h (.slice uo h.tags.length uc) ∧ w.ownsRow base 48 2 (.slice uo h.tags.length uc) h.tags.length (pairCells h.tags), fun ⟨uo, uc, h1, h2⟩ hb => ⟨uo, uc, h1, own_below h2 hb⟩⟩
def rowP (base : Nat) (h : HostT) : MP := ⟨fun v w => ∃ xb uo uc, v = .slice (some ⟨xb, 0, none⟩) 1 1 ∧ IsRow 6 w (.slice (some ⟨xb, 0, none⟩) 1 1) 1 (hcells h (.slice uo h.tags.length uc)).toList ∧ w.ownsRow base 48 2 (.slice uo h.tags.length uc) h.tags.length (pairCells h.tags), fun ⟨xb, uo, uc, h1, h2, h3⟩ hb => ⟨xb, uo, uc, h1, h2.below hb, own_below h3 hb⟩⟩
def outP (base : Nat) (hs : List HostT) : MP := ⟨fun v w => ∃ vs, OwnHosts w base 25 48 v vs hs, fun ⟨vs, h1⟩ hb => ⟨vs, h1.below hb⟩⟩

set_option maxRecDepth 100000 in
set_option maxHeartbeats 8000000 in
theorem tadd_any (hs : List HostT) (h : HostT) (mv v : Value) (us : List Value) (w : World) (hv : IsHosts w v us hs) (oh : okHost h) (hm : IsPairs w mv h.tags) :
    Calls Try.prog 11 #[v, hval h mv] w fun e w' => Listed w (addR hs h) e w' ∧ Below w.heap.size w w' := by
  obtain ⟨ao, cap, rfl⟩ := hv.shaped
  obtain ⟨mo, mc, rfl⟩ := hm.shaped
  have hlen := hv.len
  have HV : Hid (IsHosts w (.slice ao hs.length cap) us hs) := hv
  have HM0 : Hid (IsPairs w (.slice mo h.tags.length mc) h.tags) := hm
  have KM := fun W q => tmay_any hs (.slice ao hs.length cap) us W q
  have KH := fun W q => may_any h (.slice mo h.tags.length mc) W oh q
  clear hv hm
  obtain ⟨R, hR⟩ : ∃ R, addR hs h = R := ⟨_, rfl⟩
  rw [hR]
  have HR : Hid (addR hs h = R) := hR
  clear hR
  go_enter Try.func11, Try.ntmps11
  go_wp2_with fail
  refine (KM _ (HV.out.below ((Below.refl _ _).alloc (Nat.le_refl _) _))).mono ?_
  rintro e w1 ⟨rfl, hb⟩
  have HX1 : Hid (HasBox w1 w.heap.size 25 (hcells h (.slice mo h.tags.length mc))) := (hasBox_new w _ _).below hb
  have HB1 : Hid (Below w.heap.size w w1) := ((Below.refl _ _).alloc (Nat.le_refl _) _).trans (hb.mono (by simp))
  clear hb KM
  cases hm : mayTab hs with
  | false =>
    have HF : Hid (R = ([], 1)) := by show R = _; rw [← HR.out]; unfold addR; rw [hm]; rfl
    go_wp2
    go_ret2
    exact ⟨by rw [HF.out]; exact listed_no (by decide), HB1.out⟩
  | true =>
    have h64 : hs.length ≤ 64 := mayTab_le hm
    have HMay : Hid (∀ i, i < hs.length → mayHost (hs.getD i noHost) = true) := mayTab_at hm
    have HMb : Hid (mayTab hs = true) := hm
    have HRi : Hid (RisesH hs) := mayTab_rises hm
    clear hm
    go_wp2_with (first | (refine wpList_load_box rfl 25 (.tmp 3) rfl (w.heap.size) rfl 25 _ _ HX1.out Try.underlying25 rfl sizeHost ?_) | fail)
    refine (KH _ (HM0.out.below HB1.out)).mono ?_
    rintro e w2 ⟨rfl, hb⟩
    have HX2 : Hid (HasBox w2 w.heap.size 25 (hcells h (.slice mo h.tags.length mc))) := HX1.out.below hb
    have HB2 : Hid (Below w.heap.size w w2) := HB1.out.trans (hb.mono HB1.out.size)
    clear hb KH HX1 HB1
    cases hmh : mayHost h with
    | false =>
      have HF : Hid (R = ([], 1)) := by show R = _; rw [← HR.out]; unfold addR; rw [HMb.out, hmh]; rfl
      go_wp2
      go_ret2
      exact ⟨by rw [HF.out]; exact listed_no (by decide), HB2.out⟩
    | true =>
      have h6h : h.tags.length ≤ 6 := mayHost_tags hmh
      have HMh : Hid (mayHost h = true) := hmh
      clear hmh
      have HVb : ∀ W, Below w2.heap.size w2 W → IsHosts W (.slice ao hs.length cap) us hs := fun W q => HV.out.below (HB2.out.trans (q.mono HB2.out.size))
      have HXb : ∀ W, Below w2.heap.size w2 W → HasBox W w.heap.size 25 (hcells h (.slice mo h.tags.length mc)) := fun W q => HX2.out.below q
      have hkl : (keysH hs).length ≤ 1000000 := by simp [keysH]; omega
      have KK := fun W q => keys_any hs (.slice ao hs.length cap) us W q (fun i hi => may_key (HMay.out i hi)) (by omega)
      have KF := fun v W q => find_any (keysH hs) (keyH h) v W q (rises_keys HRi.out) hkl
      unfold kval at KF
      rw [key_in] at KF
      obtain ⟨FV, hFV⟩ : ∃ FV, findV (keysH hs) (keyH h) = FV := ⟨_, rfl⟩
      have HFV : Hid (findV (keysH hs) (keyH h) = FV) := hFV
      have HFl : Hid (FV ≤ hs.length) := by show FV ≤ _; rw [← hFV]; exact Nat.le_trans (findV_le _ _) (by simp [keysH])
      rw [hFV] at KF
      clear hFV
      by_cases hf : 0 ≤ findH hs h.id
      · have HF : Hid (R = ([], 3)) := by show R = _; rw [← HR.out]; unfold addR; rw [HMb.out, HMh.out, Bool.and_self, if_pos rfl, if_pos hf]
        rw [decide_eq_true hf] at KF
        go_upto_region 3 with fail
        refine wp_region_mp ([eqP (.slice ao hs.length cap), keysP (keysH hs), eqP (hval h (.slice mo h.tags.length mc)), eqP (.agg #[.int .i64 h.id, .int .i64 0]), eqP (.tuple #[.int .i64 (FV : Nat), .bool true]), eqP (.tuple #[.int .i64 (FV : Nat), .bool true]), eqP (.int .i64 (FV : Nat)), eqP (.bool true), eqP (.int .i64 (FV : Nat)), eqP (.bool true)]) (by kernel_rfl) (by kernel_rfl) ?_ ?_
        · go_light
          simp only [stepsAll3]
          refine ⟨fun a W hF hE hd => ?_, fun a W hF hE hd => ?_, fun a W hF hE hd => ?_, fun a W hF hE hd => ?_, fun a W hF hE hd => ?_, fun a W hF hE hd => ?_, fun a W hF hE hd => ?_, fun a W hF hE hd => ?_, fun a W hF hE hd => ?_, fun a W hF hE hd => ?_, trivial⟩
          all_goals unfold StepAt
          · have t0 : a.tmps.getD 0 undef = .slice ao hs.length cap := hF.at 0 (by kernel_rfl)
            rw [Array.getD_eq_getD_getElem?] at t0
            refine .inl ⟨rfl, ?_⟩
            go_simp
            exact ⟨Below.refl _ _, rfl⟩
          · have t17 : a.tmps.getD 17 undef = .slice ao hs.length cap := hd { on := 0, ground := .data } (by simp) rfl
            rw [Array.getD_eq_getD_getElem?] at t17
            refine .inl ⟨rfl, ?_⟩
            go_simp
            exact (KK W (HVb W hE)).mono fun e w2 ⟨kv, h1, h2, h3⟩ => ⟨_, h1, h3, h2⟩
          · have t3 : a.tmps.getD 3 undef = .pointer (some ⟨w.heap.size, 0, none⟩) := hF.at 3 (by kernel_rfl)
            rw [Array.getD_eq_getD_getElem?] at t3
            refine .inl ⟨rfl, ?_⟩
            rw [run_obox _ _ 25 (.tmp 3) rfl (w.heap.size) (by simpa [Act.eval] using t3) 25 (hcells h (.slice mo h.tags.length mc)) _ (HXb W hE) Try.underlying25 rfl sizeHost]
            exact ⟨Below.refl _ _, rfl⟩
          · have t19 : a.tmps.getD 19 undef = hval h (.slice mo h.tags.length mc) := hd { on := 2, ground := .data } (by simp) rfl
            rw [Array.getD_eq_getD_getElem?] at t19
            refine .inl ⟨rfl, ?_⟩
            go_simp
            exact (key_any h (.slice mo h.tags.length mc) W).mono fun e w2 h => ⟨_, h.1, h.2, rfl⟩
          · obtain ⟨v18, t18, p18⟩ : ∃ v, a.tmps.getD 18 undef = v ∧ IsKeys W v (keysH hs) := ⟨_, rfl, hd { on := 1, ground := .data } (by simp) rfl⟩
            rw [Array.getD_eq_getD_getElem?] at t18
            have t20 : a.tmps.getD 20 undef = .agg #[.int .i64 h.id, .int .i64 0] := hd { on := 3, ground := .data } (by simp) rfl
            rw [Array.getD_eq_getD_getElem?] at t20
            refine .inl ⟨rfl, ?_⟩
            go_simp
            exact (KF _ W p18).mono fun e w2 h => ⟨_, h.1, h.2, rfl⟩
          · have t21 : a.tmps.getD 21 undef = .tuple #[.int .i64 (FV : Nat), .bool true] := hd { on := 4, ground := .data } (by simp) rfl
            rw [Array.getD_eq_getD_getElem?] at t21
            refine .inl ⟨rfl, ?_⟩
            go_simp
            exact ⟨Below.refl _ _, rfl⟩
          · have t16 : a.tmps.getD 16 undef = .tuple #[.int .i64 (FV : Nat), .bool true] := hd { on := 5, ground := .data } (by simp) rfl
            rw [Array.getD_eq_getD_getElem?] at t16
            refine .inl ⟨rfl, ?_⟩
            go_simp
            exact ⟨Below.refl _ _, rfl⟩
          · have t16 : a.tmps.getD 16 undef = .tuple #[.int .i64 (FV : Nat), .bool true] := hd { on := 5, ground := .data } (by simp) rfl
            rw [Array.getD_eq_getD_getElem?] at t16
            refine .inl ⟨rfl, ?_⟩
            go_simp
            exact ⟨Below.refl _ _, rfl⟩
          · have t22 : a.tmps.getD 22 undef = .int .i64 (FV : Nat) := hd { on := 6, ground := .data } (by simp) rfl
            rw [Array.getD_eq_getD_getElem?] at t22
            refine .inl ⟨rfl, ?_⟩
            go_simp
            exact ⟨Below.refl _ _, rfl⟩
          · have t23 : a.tmps.getD 23 undef = .bool true := hd { on := 7, ground := .data } (by simp) rfl
            rw [Array.getD_eq_getD_getElem?] at t23
            refine .inl ⟨rfl, ?_⟩
            go_simp
            exact ⟨Below.refl _ _, rfl⟩
        · intro vs W hE hV
          have h8 : vs 8 = .int .i64 (FV : Nat) := hV 8 (by decide)
          have h9 : vs 9 = .bool true := hV 9 (by decide)
          have HWE : Hid (Below w2.heap.size w2 W) := hE
          have HBf : Hid (Below w.heap.size w W) := HB2.out.trans (hE.mono HB2.out.size)
          clear hV hE
          simp only [putsV, dstsV, List.foldl, h8, h9, Act.put, List.setIfInBounds_toArray, List.set_cons_succ, List.set_cons_zero]
          clear h8 h9
          generalize vs 0 = y0
          generalize vs 1 = y1
          generalize vs 2 = y2
          generalize vs 3 = y3
          generalize vs 4 = y4
          generalize vs 5 = y5
          generalize vs 6 = y6
          generalize vs 7 = y7
          refine ‹∀ (a : Act) (w : World), Code.wp Try.prog (Code.seq _ _) _ a w → _› _ _ ?_
          go_wp2
          go_ret2
          exact ⟨by rw [HF.out]; exact listed_no (by decide), HBf.out⟩
      · rw [decide_eq_false hf] at KF
        go_upto_region 3 with fail
        refine wp_region_mp ([eqP (.slice ao hs.length cap), keysP (keysH hs), eqP (hval h (.slice mo h.tags.length mc)), eqP (.agg #[.int .i64 h.id, .int .i64 0]), eqP (.tuple #[.int .i64 (FV : Nat), .bool false]), eqP (.tuple #[.int .i64 (FV : Nat), .bool false]), eqP (.int .i64 (FV : Nat)), eqP (.bool false), eqP (.int .i64 (FV : Nat)), eqP (.bool false)]) (by kernel_rfl) (by kernel_rfl) ?_ ?_
        · go_light
          simp only [stepsAll3]
          refine ⟨fun a W hF hE hd => ?_, fun a W hF hE hd => ?_, fun a W hF hE hd => ?_, fun a W hF hE hd => ?_, fun a W hF hE hd => ?_, fun a W hF hE hd => ?_, fun a W hF hE hd => ?_, fun a W hF hE hd => ?_, fun a W hF hE hd => ?_, fun a W hF hE hd => ?_, trivial⟩
          all_goals unfold StepAt
          · have t0 : a.tmps.getD 0 undef = .slice ao hs.length cap := hF.at 0 (by kernel_rfl)
            rw [Array.getD_eq_getD_getElem?] at t0
            refine .inl ⟨rfl, ?_⟩
            go_simp
            exact ⟨Below.refl _ _, rfl⟩
          · have t17 : a.tmps.getD 17 undef = .slice ao hs.length cap := hd { on := 0, ground := .data } (by simp) rfl
            rw [Array.getD_eq_getD_getElem?] at t17
            refine .inl ⟨rfl, ?_⟩
            go_simp
            exact (KK W (HVb W hE)).mono fun e w2 ⟨kv, h1, h2, h3⟩ => ⟨_, h1, h3, h2⟩
          · have t3 : a.tmps.getD 3 undef = .pointer (some ⟨w.heap.size, 0, none⟩) := hF.at 3 (by kernel_rfl)
            rw [Array.getD_eq_getD_getElem?] at t3
            refine .inl ⟨rfl, ?_⟩
            rw [run_obox _ _ 25 (.tmp 3) rfl (w.heap.size) (by simpa [Act.eval] using t3) 25 (hcells h (.slice mo h.tags.length mc)) _ (HXb W hE) Try.underlying25 rfl sizeHost]
            exact ⟨Below.refl _ _, rfl⟩
          · have t19 : a.tmps.getD 19 undef = hval h (.slice mo h.tags.length mc) := hd { on := 2, ground := .data } (by simp) rfl
            rw [Array.getD_eq_getD_getElem?] at t19
            refine .inl ⟨rfl, ?_⟩
            go_simp
            exact (key_any h (.slice mo h.tags.length mc) W).mono fun e w2 h => ⟨_, h.1, h.2, rfl⟩
          · obtain ⟨v18, t18, p18⟩ : ∃ v, a.tmps.getD 18 undef = v ∧ IsKeys W v (keysH hs) := ⟨_, rfl, hd { on := 1, ground := .data } (by simp) rfl⟩
            rw [Array.getD_eq_getD_getElem?] at t18
            have t20 : a.tmps.getD 20 undef = .agg #[.int .i64 h.id, .int .i64 0] := hd { on := 3, ground := .data } (by simp) rfl
            rw [Array.getD_eq_getD_getElem?] at t20
            refine .inl ⟨rfl, ?_⟩
            go_simp
            exact (KF _ W p18).mono fun e w2 h => ⟨_, h.1, h.2, rfl⟩
          · have t21 : a.tmps.getD 21 undef = .tuple #[.int .i64 (FV : Nat), .bool false] := hd { on := 4, ground := .data } (by simp) rfl
            rw [Array.getD_eq_getD_getElem?] at t21
            refine .inl ⟨rfl, ?_⟩
            go_simp
            exact ⟨Below.refl _ _, rfl⟩
          · have t16 : a.tmps.getD 16 undef = .tuple #[.int .i64 (FV : Nat), .bool false] := hd { on := 5, ground := .data } (by simp) rfl
            rw [Array.getD_eq_getD_getElem?] at t16
            refine .inl ⟨rfl, ?_⟩
            go_simp
            exact ⟨Below.refl _ _, rfl⟩
          · have t16 : a.tmps.getD 16 undef = .tuple #[.int .i64 (FV : Nat), .bool false] := hd { on := 5, ground := .data } (by simp) rfl
            rw [Array.getD_eq_getD_getElem?] at t16
            refine .inl ⟨rfl, ?_⟩
            go_simp
            exact ⟨Below.refl _ _, rfl⟩
          · have t22 : a.tmps.getD 22 undef = .int .i64 (FV : Nat) := hd { on := 6, ground := .data } (by simp) rfl
            rw [Array.getD_eq_getD_getElem?] at t22
            refine .inl ⟨rfl, ?_⟩
            go_simp
            exact ⟨Below.refl _ _, rfl⟩
          · have t23 : a.tmps.getD 23 undef = .bool false := hd { on := 7, ground := .data } (by simp) rfl
            rw [Array.getD_eq_getD_getElem?] at t23
            refine .inl ⟨rfl, ?_⟩
            go_simp
            exact ⟨Below.refl _ _, rfl⟩
        · intro vs W hE hV
          have h8 : vs 8 = .int .i64 (FV : Nat) := hV 8 (by decide)
          have h9 : vs 9 = .bool false := hV 9 (by decide)
          have HWE : Hid (Below w2.heap.size w2 W) := hE
          have HBf : Hid (Below w.heap.size w W) := HB2.out.trans (hE.mono HB2.out.size)
          clear hV hE
          simp only [putsV, dstsV, List.foldl, h8, h9, Act.put, List.setIfInBounds_toArray, List.set_cons_succ, List.set_cons_zero]
          clear h8 h9
          generalize vs 0 = y0
          generalize vs 1 = y1
          generalize vs 2 = y2
          generalize vs 3 = y3
          generalize vs 4 = y4
          generalize vs 5 = y5
          generalize vs 6 = y6
          generalize vs 7 = y7
          refine ‹∀ (a : Act) (w : World), Code.wp Try.prog (Code.seq _ _) _ a w → _› _ _ ?_
          have HB3 : Hid (Below w.heap.size w W) := HBf.out
          clear HBf
          rename_i w3
          by_cases hful : hs.length = 64
          · have HF : Hid (R = ([], 6)) := by show R = _; rw [← HR.out]; unfold addR; rw [HMb.out, HMh.out, Bool.and_self, if_pos rfl, if_neg (by omega), if_pos (by omega)]
            have hfb : ((hs.length : Int) == 64) = true := by rw [beq_iff_eq]; omega
            go_wp2
            go_ret2
            exact ⟨by rw [HF.out]; exact listed_no (by decide), HB3.out⟩
          · have HF : Hid (R = (hs.take FV ++ h :: hs.drop FV, 0)) := by
              show R = _
              rw [← HR.out]; unfold addR
              rw [HMb.out, HMh.out, Bool.and_self, if_pos rfl, if_neg (by omega), if_neg (by omega), moreH_at HRi.out (findH_neg.1 (by omega)), HFV.out]
            have hfb : ((hs.length : Int) == 64) = false := by rw [beq_eq_false_iff_ne]; omega
            have HVb : ∀ W', Below W.heap.size W W' → IsHosts W' (.slice ao hs.length cap) us hs := fun W' q => HV.out.below (HB3.out.trans (q.mono HB3.out.size))
            have HXb : ∀ W', Below W.heap.size W W' → HasBox W' w.heap.size 25 (hcells h (.slice mo h.tags.length mc)) := fun W' q => HX2.out.below (HWE.out.trans (q.mono HWE.out.size))
            have HMb' : ∀ W', Below W.heap.size W W' → IsPairs W' (.slice mo h.tags.length mc) h.tags := fun W' q => HM0.out.below (HB3.out.trans (q.mono HB3.out.size))
            have HBa : ∀ W', Below W.heap.size W W' → Below w.heap.size w W' := fun W' q => HB3.out.trans (q.mono HB3.out.size)
            have KC := fun W' q => copied_any hs (.slice ao hs.length cap) us W' q (fun i hi => mayHost_tags (HMay.out i hi)) h64
            clear hfb
            go_upto_region 8 with fail
            refine wp_region_mp ([eqP (.slice ao hs.length cap), copiedP w.heap.size hs, eqP (.int .i64 (FV : Nat)), eqP (hval h (.slice mo h.tags.length mc)), copyP w.heap.size h, rowP w.heap.size h, outP w.heap.size (hs.take FV ++ h :: hs.drop FV), outP w.heap.size (hs.take FV ++ h :: hs.drop FV), eqP (.int .i64 0)]) (by kernel_rfl) (by kernel_rfl) ?_ ?_
            · go_light
              simp only [stepsAll3]
              refine ⟨fun a W hF hE hd => ?_, fun a W hF hE hd => ?_, fun a W hF hE hd => ?_, fun a W hF hE hd => ?_, fun a W hF hE hd => ?_, fun a W hF hE hd => ?_, fun a W hF hE hd => ?_, fun a W hF hE hd => ?_, fun a W hF hE hd => ?_, trivial⟩
              all_goals unfold StepAt
              · have t0 : a.tmps.getD 0 undef = .slice ao hs.length cap := hF.at 0 (by kernel_rfl)
                rw [Array.getD_eq_getD_getElem?] at t0
                refine .inl ⟨rfl, ?_⟩
                go_simp
                exact ⟨Below.refl _ _, rfl⟩
              · have t28 : a.tmps.getD 28 undef = .slice ao hs.length cap := hd { on := 0, ground := .data } (by simp) rfl
                rw [Array.getD_eq_getD_getElem?] at t28
                refine .inl ⟨rfl, ?_⟩
                go_simp
                exact (KC W (HVb W hE)).mono fun e w2 ⟨vs, h1, h2, h3⟩ => ⟨_, h1, h3, _, vs, rfl, h2.from (HBa W hE).size⟩
              · have t6 : a.tmps.getD 6 undef = .int .i64 (FV : Nat) := hF.at 6 (by kernel_rfl)
                rw [Array.getD_eq_getD_getElem?] at t6
                refine .inl ⟨rfl, ?_⟩
                go_simp
                exact ⟨Below.refl _ _, rfl⟩
              · have t3 : a.tmps.getD 3 undef = .pointer (some ⟨w.heap.size, 0, none⟩) := hF.at 3 (by kernel_rfl)
                rw [Array.getD_eq_getD_getElem?] at t3
                refine .inl ⟨rfl, ?_⟩
                rw [run_obox _ _ 25 (.tmp 3) rfl (w.heap.size) (by simpa [Act.eval] using t3) 25 (hcells h (.slice mo h.tags.length mc)) _ (HXb W hE) Try.underlying25 rfl sizeHost]
                exact ⟨Below.refl _ _, rfl⟩
              · have t31 : a.tmps.getD 31 undef = hval h (.slice mo h.tags.length mc) := hd { on := 3, ground := .data } (by simp) rfl
                rw [Array.getD_eq_getD_getElem?] at t31
                refine .inl ⟨rfl, ?_⟩
                go_simp
                exact (copy_any h (.slice mo h.tags.length mc) W (HMb' W hE) (by show _ ≤ 4398046510976; omega)).mono fun e w2 ⟨u, h1, h2, h3⟩ => by
                  obtain ⟨uo, uc, rfl⟩ := (isRow_own h2).shaped
                  exact ⟨_, h1, h3, uo, uc, rfl, own_from h2 (HBa W hE).size⟩
              · obtain ⟨uo32, uc32, t32, p32⟩ : ∃ uo uc, a.tmps.getD 32 undef = hval h (.slice uo h.tags.length uc) ∧ W.ownsRow w.heap.size 48 2 (.slice uo h.tags.length uc) h.tags.length (pairCells h.tags) := hd { on := 4, ground := .data } (by simp) rfl
                rw [Array.getD_eq_getD_getElem?] at t32
                refine .inl ⟨rfl, ?_⟩
                go_simp
                exact ⟨(Below.refl _ _).alloc (Nat.le_refl _) _, _, _, _, rfl, host_row W h _ _ _ rfl, p32.alloc _⟩
              · obtain ⟨g29, vs29, t29, p29⟩ : ∃ g vs, a.tmps.getD 29 undef = .slice (some ⟨g, 0, none⟩) hs.length hs.length ∧ OwnHosts W w.heap.size 25 48 (.slice (some ⟨g, 0, none⟩) hs.length hs.length) vs hs := hd { on := 1, ground := .data } (by simp) rfl
                rw [Array.getD_eq_getD_getElem?] at t29
                have t30 : a.tmps.getD 30 undef = .int .i64 (FV : Nat) := hd { on := 2, ground := .data } (by simp) rfl
                rw [Array.getD_eq_getD_getElem?] at t30
                obtain ⟨xb33, uo33, uc33, t33, p33, o33⟩ : ∃ xb uo uc, a.tmps.getD 33 undef = .slice (some ⟨xb, 0, none⟩) 1 1 ∧ IsRow 6 W (.slice (some ⟨xb, 0, none⟩) 1 1) 1 (hcells h (.slice uo h.tags.length uc)).toList ∧ W.ownsRow w.heap.size 48 2 (.slice uo h.tags.length uc) h.tags.length (pairCells h.tags) := hd { on := 5, ground := .data } (by simp) rfl
                rw [Array.getD_eq_getD_getElem?] at t33
                refine .inl ⟨rfl, ?_⟩
                go_simp
                exact (insert_any hs vs29 FV g29 w.heap.size xb33 h uo33 h.tags.length uc33 W p29 HFl.out h64 (HBa W hE).size p33 o33).mono fun e w2 ⟨v, vs, h1, h2, h3⟩ => ⟨_, h1, h3, vs, h2⟩
              · obtain ⟨v34, vs34, t34, p34⟩ : ∃ v vs, a.tmps.getD 34 undef = v ∧ OwnHosts W w.heap.size 25 48 v vs (hs.take FV ++ h :: hs.drop FV) := by
                  obtain ⟨vs, q⟩ : ∃ vs, OwnHosts W w.heap.size 25 48 (a.tmps.getD 34 undef) vs (hs.take FV ++ h :: hs.drop FV) := hd { on := 6, ground := .data } (by simp) rfl
                  exact ⟨_, vs, rfl, q⟩
                rw [Array.getD_eq_getD_getElem?] at t34
                refine .inl ⟨rfl, ?_⟩
                go_simp
                exact ⟨Below.refl _ _, vs34, p34⟩
              · refine .inl ⟨rfl, ?_⟩
                go_simp
                exact ⟨Below.refl _ _, rfl⟩
            · intro vs W hE hV
              have h8 : vs 8 = .int .i64 0 := hV 8 (by decide)
              obtain ⟨vs7, h7⟩ : ∃ vs7, OwnHosts W w.heap.size 25 48 (vs 7) vs7 (hs.take FV ++ h :: hs.drop FV) := hV 7 (by decide)
              have HBf : Hid (Below w.heap.size w W) := HB3.out.trans (hE.mono HB3.out.size)
              clear hV hE
              simp only [putsV, dstsV, List.foldl, h8, Act.put, List.setIfInBounds_toArray, List.set_cons_succ, List.set_cons_zero]
              clear h8
              generalize vs 0 = y0
              generalize vs 1 = y1
              generalize vs 2 = y2
              generalize vs 3 = y3
              generalize vs 4 = y4
              generalize vs 5 = y5
              generalize vs 6 = y6
              generalize vs 7 = y7 at h7 ⊢
              have H7 : Hid (OwnHosts W w.heap.size 25 48 y7 vs7 (hs.take FV ++ h :: hs.drop FV)) := h7
              clear h7
              refine ‹∀ (a : Act) (w : World), Code.wp Try.prog Code.ret _ a w → _› _ _ ?_
              go_wp2
              go_ret2
              refine ⟨?_, HBf.out⟩
              rw [HF.out]
              exact listed_yes H7.out

end Go.Proofs.Ytcafjjfaamjipaa

/-
  SpreadOrder, for every configuration, row of hosts and number: who is bad is told by rate, then by Id, each once; of those alone that have enough; a greater factor tells no more. No condition on the call.
-/
import Derived.Test.YtjknflpclniiiaaDoorSpreadAwake
import Derived.Test.YtjknflpclniiiaaDoorSpreadCount
import Derived.Test.YtjknflpclniiiaaDoorRefBucket
import Derived.Test.YtjknflpclniiiaaDoorRefMayC
import Derived.Test.YtjknflpclniiiaaDoorUMod
import Derived.Test.YtjknflpclniiiaaDoorCfgFrame
namespace Go.Proofs.YtjknflpclniiiaaDoor
open Go.ChangeShapes Go.WideShapes Go.ChangeAt Go.RowKit
open Go.ChangeMaps (open_string shut_string)

/-- Where the row has an Id, as far as one has looked: -1 where it hasn't. -/
def atQ (q j : Nat) : Int := if q < j then q else -1
theorem atQ_zero (q : Nat) : atQ q 0 = -1 := if_neg (by omega)
theorem atQ_same (q : Nat) : atQ q (q + 1) = q := if_pos (by omega)
theorem atQ_other {q j : Nat} (h : j ≠ q) : atQ q (j + 1) = atQ q j := by
  unfold atQ
  by_cases h1 : q < j
  · rw [if_pos h1, if_pos (by omega)]
  · rw [if_neg h1, if_neg (by omega)]
theorem atQ_all {q n : Nat} (h : q < n) : atQ q n = q := if_pos h
/-- The host that was told last. -/
def lastQ (L : List Rd) (Q : Nat → Nat) : Nat → Rd
  | 0 => ⟨-1, ⟨0, 0⟩⟩
  | i + 1 => L.getD (Q i) noRd

set_option maxRecDepth 100000 in
set_option maxHeartbeats 8000000 in
theorem walk_SpreadOrder (c : Cfg) (hz : c.zone.size ≤ 9223372036854775807) (L : List Rd) (lv : Value) (t : Int) (_ : -9223372036854775808 ≤ t ∧ t ≤ 9223372036854775807) (w : World) (htab : TabC w) (hl : IsRd w lv L) :
    Calls Tryd.prog 5 #[.agg c.arr, lv, .int .i64 t] w fun e w' => e = .returned (.bool true) ∧ Below w.heap.size w w' := by
  have HMayC : Hid (∀ W : World, Calls Tryd.prog 14 #[.agg c.arr] W fun e w' => e = .returned (.bool (mayC c)) ∧ Below W.heap.size W w') := fun W => rMay_any c W hz
  obtain ⟨ao, cap, rfl⟩ := hl.shaped
  have HL : Hid (IsRd w (.slice ao L.length cap) L) := hl
  have HT : Hid (TabC w) := htab
  have HI : Hid ((Tryd.prog.info? 24).map (·.size) = some c.arr.size) := arr_inf c
  have hmax := hl.row.2.1.1
  unfold maxLen at hmax
  clear htab hl
  by_cases h1 : mayC c = true
  rotate_left
  · have h1 := Bool.eq_false_iff.2 h1
    rw [h1] at HMayC
    clear h1 HL hz
    generalize c.arr = cs at *
    go_enter Tryd.func5, Tryd.ntmps5
    go_upto_region 1 with fail
    generalize hW0 : w.alloc _ = W0
    have HC0 : Hid (HasBox W0 w.heap.size 24 cs) := by show HasBox _ _ _ _; rw [← hW0]; exact hasBox_new w _ _
    have HB0 : Hid (Below w.heap.size w W0) := by show Below _ _ _; rw [← hW0]; exact (Below.refl _ _).alloc (Nat.le_refl _) _
    clear hW0
    go_wp2_with (first | (refine wpList_load_bx rfl 24 (.tmp 3) rfl w.heap.size rfl 24 _ _ HC0.out Tryd.underlying24 rfl HI.out ?_) | fail)
    refine (HMayC.out _).mono ?_
    rintro e w1 ⟨rfl, hb⟩
    have HC1 : Hid (HasBox w1 w.heap.size 24 cs) := HC0.out.below hb
    have HB1 : Hid (Below w.heap.size w w1) := HB0.out.trans (hb.mono HB0.out.size)
    clear hb HB0 HC0 HMayC
    go_wp2_with fail
    refine (awake13_any _ (HT.out.below HB1.out)).mono ?_
    rintro e w2 ⟨rfl, hb⟩
    have HB2 : Hid (Below w.heap.size w w2) := HB1.out.trans (hb.mono HB1.out.size)
    clear hb
    go_wp2
    go_ret
    exact ⟨rfl, HB2.out⟩
  rw [h1] at HMayC
  by_cases h3 : 64 < L.length
  · have h3' : (64 : Int) < (L.length : Int) := by omega
    clear h1 h3 HL hz
    generalize c.arr = cs at *
    go_enter Tryd.func5, Tryd.ntmps5
    go_upto_region 1 with fail
    generalize hW0 : w.alloc _ = W0
    have HC0 : Hid (HasBox W0 w.heap.size 24 cs) := by show HasBox _ _ _ _; rw [← hW0]; exact hasBox_new w _ _
    have HB0 : Hid (Below w.heap.size w W0) := by show Below _ _ _; rw [← hW0]; exact (Below.refl _ _).alloc (Nat.le_refl _) _
    clear hW0
    go_wp2_with (first | (refine wpList_load_bx rfl 24 (.tmp 3) rfl w.heap.size rfl 24 _ _ HC0.out Tryd.underlying24 rfl HI.out ?_) | fail)
    refine (HMayC.out _).mono ?_
    rintro e w1 ⟨rfl, hb⟩
    have HC1 : Hid (HasBox w1 w.heap.size 24 cs) := HC0.out.below hb
    have HB1 : Hid (Below w.heap.size w w1) := HB0.out.trans (hb.mono HB0.out.size)
    clear hb HB0 HC0 HMayC
    go_wp2_with fail
    refine (awake13_any _ (HT.out.below HB1.out)).mono ?_
    rintro e w2 ⟨rfl, hb⟩
    have HB2 : Hid (Below w.heap.size w w2) := HB1.out.trans (hb.mono HB1.out.size)
    clear hb
    go_wp2
    go_ret
    exact ⟨rfl, HB2.out⟩
  have h3' : ¬ (64 : Int) < (L.length : Int) := by omega
  have HLen : Hid (L.length ≤ 64) := by show _ ≤ _; omega
  obtain ⟨M0, hM0, hM1⟩ := u_modl t 1000 (by omega)
  have hM1 : (IntKind.u64.wrap t).tmod 1000 = (M0 : Int) := hM1
  have b11 := may_num11 h1
  have hM2 : IntKind.i64.wrap (M0 : Int) = (M0 : Int) := wrap_at (by omega) (by omega)
  have hM3 : IntKind.i64.wrap (c.f11 + (M0 : Int)) = c.f11 + (M0 : Int) := wrap_at (by omega) (by omega)
  obtain ⟨g11, hg11⟩ : ∃ g, (if c.f11 + (M0 : Int) < 10000 then c.f11 + (M0 : Int) else 10000) = g := ⟨_, rfl⟩
  have hge : c.f11 ≤ g11 := by rw [← hg11]; split <;> omega
  have HBad : Hid (∀ W : World, Below w.heap.size w W → Calls Tryd.prog 12 #[.agg c.arr, .slice ao L.length cap] W fun e w' => ∃ v', e = .returned v' ∧ IsInts w' v' (badL c L) ∧ Below W.heap.size W w') := fun W h => bad_any c L _ W (HT.out.below h) hz (HL.out.below h)
  have HBad2 : Hid (∀ W : World, Below w.heap.size w W → Calls Tryd.prog 12 #[.agg (c.arr.setIfInBounds 11 (.int .i64 g11)), .slice ao L.length cap] W fun e w' => ∃ v', e = .returned v' ∧ IsInts w' v' (badL { c with f11 := g11 } L) ∧ Below W.heap.size W w') := fun W h => bad_any { c with f11 := g11 } L _ W (HT.out.below h) hz (HL.out.below h)
  have HLess : Hid (c.f11 ≠ 0 → (badL { c with f11 := g11 } L).length ≤ (badL c L).length) := fun h => bad_less h1 h rfl rfl rfl hge
  have hwho : ∃ Q : Nat → Nat, (∀ i, i < (badL c L).length → Q i < L.length ∧ (L.getD (Q i) noRd).id = (badL c L).getD i 0 ∧ enoughK (L.getD (Q i) noRd).b c.f10 = true ∧ ∀ j, j < L.length → (L.getD j noRd).id = (badL c L).getD i 0 → j = Q i) ∧
      ∀ i, i + 1 < (badL c L).length → rateK (L.getD (Q i) noRd).b < rateK (L.getD (Q (i + 1)) noRd).b ∨ (rateK (L.getD (Q i) noRd).b = rateK (L.getD (Q (i + 1)) noRd).b ∧ (badL c L).getD i 0 < (badL c L).getD (i + 1) 0) := by
    by_cases h : badL c L = []
    · rw [h]; exact ⟨fun _ => 0, fun i hi => by simp at hi, fun i hi => by simp at hi⟩
    · exact bad_who h
  obtain ⟨Q, hQ1, hQ2⟩ := hwho
  have HQ1 : Hid _ := hQ1
  have HQ2 : Hid _ := hQ2
  have HO : Hid (c.arr.all (·.oneCell') = true) := arr_one c
  have HS23 : Hid ((23 : Nat) = c.arr.size) := (arr_size c).symm
  have HI2 : Hid ((Tryd.prog.info? 24).map (·.size) = some (c.arr.setIfInBounds 11 (.int .i64 g11)).size) := by show _ = _; rw [Array.size_setIfInBounds]; exact HI.out
  have HZ10 : Hid (c.arr[10]? = some (.int .i64 c.f10)) := rfl
  have HZ11 : Hid (c.arr[11]? = some (.int .i64 c.f11)) := rfl
  clear h1 h3 hz hQ1 hQ2 hge hM0 b11
  generalize badL { c with f11 := g11 } L = B2 at *
  generalize badL c L = BA at *
  generalize c.f10 = rq at *
  generalize c.f11 = fa at *
  generalize c.arr = cs at *
  have HM : Hid ((IntKind.u64.wrap t).tmod 1000 = (M0 : Int) ∧ IntKind.i64.wrap (M0 : Int) = (M0 : Int) ∧ IntKind.i64.wrap (fa + (M0 : Int)) = fa + (M0 : Int) ∧ (if fa + (M0 : Int) < 10000 then fa + (M0 : Int) else 10000) = g11) := ⟨hM1, hM2, hM3, hg11⟩
  clear hM1 hM2 hM3 hg11
  go_enter Tryd.func5, Tryd.ntmps5
  go_upto_region 1 with fail
  generalize hW0 : w.alloc _ = W0
  have HC0 : Hid (HasBox W0 w.heap.size 24 cs) := by show HasBox _ _ _ _; rw [← hW0]; exact hasBox_new w _ _
  have HB0 : Hid (Below w.heap.size w W0) := by show Below _ _ _; rw [← hW0]; exact (Below.refl _ _).alloc (Nat.le_refl _) _
  clear hW0
  go_wp2_with (first | (refine wpList_load_bx rfl 24 (.tmp 3) rfl w.heap.size rfl 24 _ _ HC0.out Tryd.underlying24 rfl HI.out ?_) | fail)
  refine (HMayC.out _).mono ?_
  rintro e w1 ⟨rfl, hb⟩
  have HC1 : Hid (HasBox w1 w.heap.size 24 cs) := HC0.out.below hb
  have HB1 : Hid (Below w.heap.size w w1) := HB0.out.trans (hb.mono HB0.out.size)
  clear hb HB0 HC0 HMayC
  go_wp2_with (first | (refine wpList_load_bx rfl 24 (.tmp 3) rfl w.heap.size rfl 24 _ _ HC1.out Tryd.underlying24 rfl HI.out ?_) | fail)
  refine (HBad.out _ HB1.out).mono ?_
  rintro e w2 ⟨v2, rfl, h2, hb2⟩
  obtain ⟨vo, vc, rfl⟩ := h2.shape
  have HA2 : Hid (IsInts w2 (.slice vo BA.length vc) BA) := h2
  have HB2 : Hid (Below w.heap.size w w2) := HB1.out.trans (hb2.mono HB1.out.size)
  have HC2 : Hid (HasBox w2 w.heap.size 24 cs) := HC1.out.below hb2
  have hbl1 := h2.2.1
  clear h2 hb2 HC1 HB1 h3' hmax HBad
  go_upto_region 5 with fail
  generalize hW3 : World.alloc _ _ = W3
  have HX3 : Hid (HasBox W3 w2.heap.size 39 (rcells (lastQ L Q 0))) := by show HasBox _ _ _ _; rw [← hW3]; exact hasBox_new w2 _ _
  have HB3 : Hid (Below w2.heap.size w2 W3) := by show Below _ _ _; rw [← hW3]; exact (Below.refl _ _).alloc (Nat.le_refl _) _
  clear hW3
  have HBl : Hid (BA.length ≤ 9223372036854775807) := hbl1
  go_wp2
  clear hbl1
  go_loopw [32] (fun i wr => ∃ k : Nat, k ≤ BA.length ∧ i = .int .i64 k ∧ HasBox wr w2.heap.size 39 (rcells (lastQ L Q k)) ∧ Below w2.heap.size w2 wr) (fun i _ => BA.length - (intOf i).toNat)
  case atStart => exact ⟨0, Nat.zero_le _, rfl, HX3.out, HB3.out⟩
  case round =>
    obtain ⟨k, hk, rfl, hx, hb⟩ := hrel
    have HX : Hid (HasBox wr w2.heap.size 39 (rcells (lastQ L Q k))) := hx
    have HB : Hid (Below w2.heap.size w2 wr) := hb
    clear hx hb HX3 HB3
    have hbl := HBl.out
    by_cases hlt : k < BA.length
    · obtain ⟨b, off, rfl, hbb, gb⟩ := (HA2.out.below HB.out).hit k hlt
      obtain ⟨q1, q2, q3, q4⟩ := HQ1.out k hlt
      have HQL : Hid (Q k < L.length) := q1
      have HQI : Hid ((L.getD (Q k) noRd).id = BA.getD k 0) := q2
      have HQE : Hid (enoughK (L.getD (Q k) noRd).b rq = true) := q3
      have HQU : Hid (∀ j, j < L.length → (L.getD j noRd).id = BA.getD k 0 → j = Q k) := q4
      have HQO : Hid (0 < k → rateK (lastQ L Q k).b < rateK (L.getD (Q k) noRd).b ∨ (rateK (lastQ L Q k).b = rateK (L.getD (Q k) noRd).b ∧ (lastQ L Q k).id < BA.getD k 0)) := fun h => by
        obtain ⟨m, rfl⟩ : ∃ m, k = m + 1 := ⟨k - 1, by omega⟩
        have h2 := HQ2.out m hlt
        have h3 := (HQ1.out m (by omega)).2.1
        rw [← h3] at h2
        exact h2
      have HNx : Hid (lastQ L Q (k + 1) = L.getD (Q k) noRd) := rfl
      clear q1 q2 q3 q4 HQ1 HQ2
      have HXl : Hid (HasBox wr w2.heap.size 39 (rcells (lastQ L Q k))) := HX.out
      generalize hid : BA.getD k 0 = id at *
      generalize hq : Q k = q at *
      generalize hla : lastQ L Q k = la at *
      obtain ⟨li, lo, lall⟩ := la
      have HEn : Hid (∀ W : World, Calls Tryd.prog 15 #[bval (L.getD q noRd).b, .int .i64 rq] W fun e w' => e = .returned (.bool true) ∧ Below W.heap.size W w') := fun W => by
        have := rkEnough_any (L.getD q noRd).b rq W
        rwa [HQE.out] at this
      have HR1 : Hid (∀ W : World, Calls Tryd.prog 16 #[bval ⟨lo, lall⟩] W fun e w' => e = .returned (.int .i64 (rateK ⟨lo, lall⟩)) ∧ Below W.heap.size W w') := rkRate_any _
      have HR2 : Hid (∀ W : World, Calls Tryd.prog 16 #[bval (L.getD q noRd).b] W fun e w' => e = .returned (.int .i64 (rateK (L.getD q noRd).b)) ∧ Below W.heap.size W w') := rkRate_any _
      have HLr : Hid (IsRd wr (.slice ao L.length cap) L) := (HL.out.below HB2.out).below HB.out
      have hlen := HLen.out
      have HK : Hid (k ≤ BA.length) := hk
      clear hq HQE HX
      obtain ⟨wo, hwo⟩ : ∃ x : World, x = wr := ⟨_, rfl⟩
      subst hwo
      go_wp2
      go_loopw [11, 39] (fun a i wi => ∃ j : Nat, j ≤ L.length ∧ i = .int .i64 j ∧ a = .int .i64 (atQ q j) ∧ Below wo.heap.size wo wi) (fun _ i _ => L.length - (intOf i).toNat)
      case atStart => exact ⟨0, Nat.zero_le _, rfl, by rw [atQ_zero], Below.refl _ _⟩
      case round =>
        obtain ⟨j, hj, rfl, rfl, hbi⟩ := hrel
        have HBi : Hid (Below wo.heap.size wo wr) := hbi
        clear hbi
        by_cases hjl : j < L.length
        · obtain ⟨b2, o2, rfl, hbl2, g0, g1, g2⟩ := (HLr.out.below HBi.out).at j hjl
          have HU : Hid ((L.getD j noRd).id = id → j = q) := HQU.out j hjl
          have HV : Hid (j = q → (L.getD j noRd).id = id) := fun h => by rw [h]; exact HQI.out
          generalize L.getD j noRd = z at *
          obtain ⟨zi, zo, za⟩ := z
          simp only at g0 g1 g2 HU HV
          by_cases e : zi = id
          · have e' : (zi == id) = true := by simp [e]
            have hjq : j = q := HU.out e
            have HA : Hid ((j : Int) = atQ q (j + 1)) := by show _ = _; rw [hjq, atQ_same]
            clear e HU HV hjq
            generalize ha2 : atQ q (j + 1) = a2 at *
            generalize atQ q j = a1 at *
            go_wp2
            go_roundw
            case rel => exact ⟨j + 1, by omega, by go_num, by rw [ha2, HA.out], HBi.out.alloc HBi.out.size _⟩
            case measure => simp [intOf]; omega
          · have e' : (zi == id) = false := by simp [e]
            have HA : Hid (atQ q j = atQ q (j + 1)) := (atQ_other fun h => e (HV.out h)).symm
            clear e HU HV
            generalize ha2 : atQ q (j + 1) = a2 at *
            generalize atQ q j = a1 at *
            go_wp2
            go_roundw
            case rel => exact ⟨j + 1, by omega, by go_num, by rw [ha2, HA.out], HBi.out.alloc HBi.out.size _⟩
            case measure => simp [intOf]; omega
        · obtain rfl : j = L.length := by omega
          rw [atQ_all HQL.out]
          have hql := HQL.out
          have HLi : Hid (IsRd wr (.slice ao L.length cap) L) := HLr.out.below HBi.out
          obtain ⟨b2, o2, rfl, hbl2, g0, g1, g2⟩ := HLi.out.at q hql
          have HXi : Hid (HasBox wr w2.heap.size 39 #[.int .i64 li, .int .i64 lo, .int .i64 lall]) := HXl.out.below HBi.out
          have HBw : Hid (Below w2.heap.size w2 wr) := HB.out.trans (HBi.out.mono HB.out.size)
          have HCi : Hid (HasBox wr w.heap.size 24 cs) := HC2.out.below HBw.out
          have HCq : Hid (∀ W, Below wr.heap.size wr W → W.cell? ⟨b2, o2 + q * 3, none⟩ = some (.int .i64 (L.getD q noRd).id) ∧ W.cell? ⟨b2, o2 + q * 3 + 1, none⟩ = some (.int .i64 (L.getD q noRd).b.ok) ∧ W.cell? ⟨b2, o2 + q * 3 + 2, none⟩ = some (.int .i64 (L.getD q noRd).b.all)) := fun W h => ⟨(h.cell (p := ⟨b2, o2 + q * 3, none⟩) hbl2).trans g0, (h.cell (p := ⟨b2, o2 + q * 3 + 1, none⟩) hbl2).trans g1, (h.cell (p := ⟨b2, o2 + q * 3 + 2, none⟩) hbl2).trans g2⟩
          clear HLr HXl HB HBi HQU g0 hjl HLi
          generalize L.getD q noRd = x at *
          obtain ⟨xi, ok, all⟩ := x
          obtain rfl : xi = id := HQI.out
          unfold bval bcells at HEn HR1 HR2
          simp only at HEn HR2 HCq g1 g2 HQO HNx HQI
          generalize hxid : xi = id at *
          have g10 : wr.cell? ⟨w.heap.size, 10, none⟩ = some (.int .i64 rq) := (HCi.out.cell 10).trans HZ10.out
          have HG10 : Hid (∀ W, Below wr.heap.size wr W → W.cell? ⟨w.heap.size, 10, none⟩ = some (.int .i64 rq)) := fun W h => ((HCi.out.below h).cell 10).trans HZ10.out
          have hbc : w.heap.size < wr.heap.size := HCi.out.lt
          have n1 : ¬ (q : Int) < 0 := by omega
          have n2 : (q : Int) < (L.length : Int) := by omega
          have n3 : (0 : Int) ≤ (q : Int) := by omega
          go_wp2
          go_region_held3 (fun W => W.cell? ⟨b2, o2 + q * 3 + 1, none⟩ = some (.int .i64 ok) ∧ W.cell? ⟨b2, o2 + q * 3 + 2, none⟩ = some (.int .i64 all) ∧ W.cell? ⟨w.heap.size, 10, none⟩ = some (.int .i64 rq)) (first | (exact ⟨(HCq.out _ H15.out).2.1, (HCq.out _ H15.out).2.2, HG10.out _ H15.out⟩) | go_keep) (first
            | ((go_at_call 15; refine (HEn.out _).mono ?_; rintro e w5 ⟨rfl, hb5⟩; have H15 : Hid (Below wr.heap.size wr w5) := (Below.refl _ _).drew.trans hb5; clear hb5)))
          have HX5 : Hid (HasBox w5 w2.heap.size 39 #[.int .i64 li, .int .i64 lo, .int .i64 lall]) := HXi.out.below H15.out
          have k1 := (HCq.out _ H15.out).2.1
          have k2 := (HCq.out _ H15.out).2.2
          have m1 : w5.cell? ⟨w2.heap.size, 1, none⟩ = some (.int .i64 lo) := HX5.out.cell 1
          have m2 : w5.cell? ⟨w2.heap.size, 2, none⟩ = some (.int .i64 lall) := HX5.out.cell 2
          have hbl5 : b2 < w5.heap.size := Nat.lt_of_lt_of_le hbl2 H15.out.size
          have hbx5 : w2.heap.size < w5.heap.size := HX5.out.lt
          clear g1 g2 g10 hbc
          go_wp2
          go_region_held3 (fun W => W.cell? ⟨b2, o2 + q * 3 + 1, none⟩ = some (.int .i64 ok) ∧ W.cell? ⟨b2, o2 + q * 3 + 2, none⟩ = some (.int .i64 all) ∧ W.cell? ⟨w2.heap.size, 1, none⟩ = some (.int .i64 lo) ∧ W.cell? ⟨w2.heap.size, 2, none⟩ = some (.int .i64 lall)) (first | (exact ⟨(HCq.out _ H17.out).2.1, (HCq.out _ H17.out).2.2, HX6.out.cell 1, HX6.out.cell 2⟩) | (exact ⟨(HCq.out _ H16.out).2.1, (HCq.out _ H16.out).2.2, HX7.out.cell 1, HX7.out.cell 2⟩) | go_keep) (first
            | ((have := H16; go_at_call 16; refine (HR2.out _).mono ?_; rintro e w6 ⟨rfl, hb6⟩; have H17 : Hid (Below wr.heap.size wr w6) := H16.out.trans (hb6.mono H16.out.size); have HX6 : Hid (HasBox w6 w2.heap.size 39 #[.int .i64 li, .int .i64 lo, .int .i64 lall]) := HX7.out.below hb6; clear hb6))
            | ((go_at_call 16; refine (HR1.out _).mono ?_; rintro e w7 ⟨rfl, hb7⟩; have H16 : Hid (Below wr.heap.size wr w7) := H15.out.trans (((Below.refl _ _).drew.trans hb7).mono H15.out.size); have HX7 : Hid (HasBox w7 w2.heap.size 39 #[.int .i64 li, .int .i64 lo, .int .i64 lall]) := HX5.out.below ((Below.refl _ _).drew.trans hb7); clear hb7)))
          have HB6 : Hid (Below w2.heap.size w2 w6) := HBw.out.trans (H17.out.mono HBw.out.size)
          have k0 := (HCq.out _ H17.out).1
          have k1 := (HCq.out _ H17.out).2.1
          have k2 := (HCq.out _ H17.out).2.2
          have m0 : w6.cell? ⟨w2.heap.size, 0, none⟩ = some (.int .i64 li) := HX6.out.cell 0
          have m1 : w6.cell? ⟨w2.heap.size, 1, none⟩ = some (.int .i64 lo) := HX6.out.cell 1
          have m2 : w6.cell? ⟨w2.heap.size, 2, none⟩ = some (.int .i64 lall) := HX6.out.cell 2
          have p0 : w6.frozen? ⟨w2.heap.size, 0, none⟩ = false := HX6.out.frozen 0
          have p1 : w6.frozen? ⟨w2.heap.size, 1, none⟩ = false := HX6.out.frozen 1
          have p2 : w6.frozen? ⟨w2.heap.size, 2, none⟩ = false := HX6.out.frozen 2
          have hbl6 : b2 < w6.heap.size := Nat.lt_of_lt_of_le hbl2 H17.out.size
          clear H15 H16 H17 HX7 HX5 HXi HBw HCi HG10 HCq hbl5 hbx5 HR1 HR2 HEn
          generalize rateK ⟨lo, lall⟩ = ra at *
          generalize rateK ⟨ok, all⟩ = rb at *
          by_cases hk0 : 0 < k
          · have hk1 : (0 : Int) < (k : Int) := by omega
            rcases HQO.out hk0 with h5 | ⟨h5, h6⟩
            · have e1 : ¬ rb < ra := by omega
              have e2 : (rb == ra) = false := by simp; omega
              clear h5 HQO
              go_wp2
              have HX7 : Hid (HasBox (((w6.setCell ⟨w2.heap.size, 0, none⟩ (.int .i64 id)).setCell ⟨w2.heap.size, 1, none⟩ (.int .i64 ok)).setCell ⟨w2.heap.size, 2, none⟩ (.int .i64 all)) w2.heap.size 39 #[.int .i64 id, .int .i64 ok, .int .i64 all]) := ((HX6.out.set 0 _).set 1 _).set 2 _
              have HB7 : Hid (Below w2.heap.size w2 (((w6.setCell ⟨w2.heap.size, 0, none⟩ (.int .i64 id)).setCell ⟨w2.heap.size, 1, none⟩ (.int .i64 ok)).setCell ⟨w2.heap.size, 2, none⟩ (.int .i64 all))) := ((HB6.out.setCell (Nat.le_refl _) _).setCell (Nat.le_refl _) _).setCell (Nat.le_refl _) _
              go_roundw
              case rel => exact ⟨k + 1, by omega, by go_num, by rw [HNx.out]; exact HX7.out, HB7.out⟩
              case measure => simp [intOf]; omega
            · have e1 : ¬ rb < ra := by omega
              have e2 : (rb == ra) = true := by simp [h5]
              have e3 : ¬ id ≤ li := by omega
              clear h5 h6 HQO
              go_wp2
              have HX7 : Hid (HasBox (((w6.setCell ⟨w2.heap.size, 0, none⟩ (.int .i64 id)).setCell ⟨w2.heap.size, 1, none⟩ (.int .i64 ok)).setCell ⟨w2.heap.size, 2, none⟩ (.int .i64 all)) w2.heap.size 39 #[.int .i64 id, .int .i64 ok, .int .i64 all]) := ((HX6.out.set 0 _).set 1 _).set 2 _
              have HB7 : Hid (Below w2.heap.size w2 (((w6.setCell ⟨w2.heap.size, 0, none⟩ (.int .i64 id)).setCell ⟨w2.heap.size, 1, none⟩ (.int .i64 ok)).setCell ⟨w2.heap.size, 2, none⟩ (.int .i64 all))) := ((HB6.out.setCell (Nat.le_refl _) _).setCell (Nat.le_refl _) _).setCell (Nat.le_refl _) _
              go_roundw
              case rel => exact ⟨k + 1, by omega, by go_num, by rw [HNx.out]; exact HX7.out, HB7.out⟩
              case measure => simp [intOf]; omega
          · have hk1 : ¬ (0 : Int) < (k : Int) := by omega
            clear HQO
            go_wp2
            have HX7 : Hid (HasBox (((w6.setCell ⟨w2.heap.size, 0, none⟩ (.int .i64 id)).setCell ⟨w2.heap.size, 1, none⟩ (.int .i64 ok)).setCell ⟨w2.heap.size, 2, none⟩ (.int .i64 all)) w2.heap.size 39 #[.int .i64 id, .int .i64 ok, .int .i64 all]) := ((HX6.out.set 0 _).set 1 _).set 2 _
            have HB7 : Hid (Below w2.heap.size w2 (((w6.setCell ⟨w2.heap.size, 0, none⟩ (.int .i64 id)).setCell ⟨w2.heap.size, 1, none⟩ (.int .i64 ok)).setCell ⟨w2.heap.size, 2, none⟩ (.int .i64 all))) := ((HB6.out.setCell (Nat.le_refl _) _).setCell (Nat.le_refl _) _).setCell (Nat.le_refl _) _
            go_roundw
            case rel => exact ⟨k + 1, by omega, by go_num, by rw [HNx.out]; exact HX7.out, HB7.out⟩
            case measure => simp [intOf]; omega
    · obtain rfl : k = BA.length := by omega
      have HC3 : Hid (HasBox wr w.heap.size 24 cs) := HC2.out.below HB.out
      have HB4 : Hid (Below w.heap.size w wr) := HB2.out.trans (HB.out.mono HB2.out.size)
      have HLe : Hid (w.heap.size < wr.heap.size) := HC3.out.lt
      clear HX HB HQ1 HQ2 HC2 HB2
      go_upto_region 23 with (first | (refine wpList_load_bx rfl 24 (.tmp 3) rfl w.heap.size rfl 24 _ _ HC3.out Tryd.underlying24 rfl HI.out ?_) | (refine wpList_store_row rfl 24 (.tmp 16) (.tmp 95) rfl wr.heap.size cs rfl rfl 24 _ (heap_alloc_new wr _) HI.out HS23.out HO.out ?_; generalize hW5 : World.setRow _ _ _ = W5) | fail)
      have HC5 : Hid (HasBox W5 w.heap.size 24 cs) := by show HasBox _ _ _ _; rw [← hW5]; exact (HC3.out.alloc _).rowOther (by have := HLe.out; omega)
      have HD5 : Hid (HasBox W5 wr.heap.size 24 cs) := by show HasBox _ _ _ _; rw [← hW5]; exact setRow_heap _ _ _ _ _ _ (heap_alloc_new wr _)
      have HB5 : Hid (Below w.heap.size w W5) := by show Below _ _ _; rw [← hW5]; exact below_setRow (HB4.out.alloc HB4.out.size _) HB4.out.size _
      clear hW5 HC3 HB4
      generalize wr.heap.size = db at HD5 HLe ⊢
      obtain ⟨y1, y2, y3, y4⟩ := HM.out
      have x1 : W5.cell? ⟨w.heap.size, 11, none⟩ = some (.int .i64 fa) := (HC5.out.cell 11).trans HZ11.out
      have x2 : W5.cell? ⟨db, 11, none⟩ = some (.int .i64 fa) := (HD5.out.cell 11).trans HZ11.out
      have x3 : W5.frozen? ⟨db, 11, none⟩ = false := HD5.out.frozen 11
      go_upto_region 24 with fail
      generalize hW6 : World.setCell _ _ _ = W6
      have HC6 : Hid (HasBox W6 w.heap.size 24 cs) := by show HasBox _ _ _ _; rw [← hW6]; exact HC5.out.setOther _ (by have := HLe.out; show w.heap.size ≠ db; omega) _
      have HD6 : Hid (HasBox W6 db 24 (cs.setIfInBounds 11 (.int .i64 g11))) := by show HasBox _ _ _ _; rw [← hW6]; exact HD5.out.set 11 _
      have HB6 : Hid (Below w.heap.size w W6) := by show Below _ _ _; rw [← hW6]; exact HB5.out.setCell (by have := HLe.out; show w.heap.size ≤ db; omega) _
      clear hW6 HC5 HD5 HB5 x1 x2 x3 y1 y2 y3 y4 HM
      have x1 : W6.cell? ⟨w.heap.size, 11, none⟩ = some (.int .i64 fa) := (HC6.out.cell 11).trans HZ11.out
      by_cases hf0 : fa = 0
      · have e0 : (fa == 0) = true := by simp [hf0]
        clear hf0 HLess HBad2
        go_wp2_with fail
        refine (awake13_any _ (HT.out.below HB6.out)).mono ?_
        rintro e w7 ⟨rfl, hb⟩
        have HB7 : Hid (Below w.heap.size w w7) := HB6.out.trans (hb.mono HB6.out.size)
        clear hb
        go_wp2
        go_ret
        exact ⟨rfl, HB7.out⟩
      · have e0 : (fa == 0) = false := by simp [hf0]
        have hless := HLess.out hf0
        clear hf0 HLess
        go_wp2_with (first | (refine wpList_load_bx rfl 24 (.tmp 16) rfl db rfl 24 _ _ HD6.out Tryd.underlying24 rfl HI2.out ?_) | fail)
        refine (HBad2.out _ HB6.out).mono ?_
        rintro e w7 ⟨v7, rfl, h7, hb⟩
        obtain ⟨no, nc, rfl⟩ := h7.shape
        have HB7 : Hid (Below w.heap.size w w7) := HB6.out.trans (hb.mono HB6.out.size)
        have hle : (B2.length : Int) ≤ (BA.length : Int) := by omega
        clear hb h7 hless
        go_wp2_with fail
        refine (awake13_any _ (HT.out.below HB7.out)).mono ?_
        rintro e w8 ⟨rfl, hb⟩
        have HB8 : Hid (Below w.heap.size w w8) := HB7.out.trans (hb.mono HB7.out.size)
        clear hb
        go_wp2
        go_ret
        exact ⟨rfl, HB8.out⟩

theorem reads_SpreadOrder (os : Os) {H : Type} (enc : TypeId × Value → H) : ∃ places, DataW.whole enc Tryd.prog ((laidWorld os).forCall (fun _ _ => 0) ⟨#[], #[.agg #[.int .i64 0, .int .i64 0, .int .i64 0, .int .i64 0, .int .i64 0, .int .i64 0, .int .i64 0, .int .i64 0, .int .i64 0, .int .i64 0, .int .i64 0, .int .i64 0, .int .i64 0, .int .i64 0, .int .i64 0, .bool false, .int .i64 0, .int .i64 0, .int .i64 0, .int .i64 0, .int .i64 0, .string ByteArray.empty, .bool false], .slice none 0 0, .int .i64 0], []⟩).memory Tryd.f5.params.toList Rows.spreadOrderSpec.vars false (#[.agg #[.int .i64 0, .int .i64 0, .int .i64 0, .int .i64 0, .int .i64 0, .int .i64 0, .int .i64 0, .int .i64 0, .int .i64 0, .int .i64 0, .int .i64 0, .int .i64 0, .int .i64 0, .int .i64 0, .int .i64 0, .bool false, .int .i64 0, .int .i64 0, .int .i64 0, .int .i64 0, .int .i64 0, .string ByteArray.empty, .bool false], .slice none 0 0, .int .i64 0] : Array Value).toList 8 = some ([.agg [.lit (.int .i64 0), .lit (.int .i64 0), .lit (.int .i64 0), .lit (.int .i64 0), .lit (.int .i64 0), .lit (.int .i64 0), .lit (.int .i64 0), .lit (.int .i64 0), .lit (.int .i64 0), .lit (.int .i64 0), .lit (.int .i64 0), .lit (.int .i64 0), .lit (.int .i64 0), .lit (.int .i64 0), .lit (.int .i64 0), .lit (.bool false), .lit (.int .i64 0), .lit (.int .i64 0), .lit (.int .i64 0), .lit (.int .i64 0), .lit (.int .i64 0), .lit (.string []), .lit (.bool false)], .nil, .lit (.int .i64 0)], [], places) :=
  ⟨[], by kernel_rfl⟩

set_option maxRecDepth 100000 in
theorem lifted_SpreadOrder (os : Os) (started : os.Started) (H : Type) (enc : TypeId × Value → H) (F : Stop.Interp) :
    ReturnsInHanded {} Tryd.checked os 5 .any ((OpenSpec.ofChange Rows.spreadOrderSpec).preRow enc Tryd.prog Tryd.f5 Rows.spreadOrderRow.domain false Rows.spreadOrderRow.laid) (((OpenSpec.ofChange Rows.spreadOrderSpec).at F).post enc Tryd.prog Tryd.f5 false true false false) := by
  obtain ⟨places, hx⟩ := reads_SpreadOrder os enc
  refine returnsInHanded_of_row (C := Tryd.checked) (s := OpenSpec.ofChange Rows.spreadOrderSpec) own started (by kernel_rfl) Tryd.func5
    (witness_row_at (enc := enc) (C := Tryd.checked) false (laidWorld os) #[.agg #[.int .i64 0, .int .i64 0, .int .i64 0, .int .i64 0, .int .i64 0, .int .i64 0, .int .i64 0, .int .i64 0, .int .i64 0, .int .i64 0, .int .i64 0, .int .i64 0, .int .i64 0, .int .i64 0, .int .i64 0, .bool false, .int .i64 0, .int .i64 0, .int .i64 0, .int .i64 0, .int .i64 0, .string ByteArray.empty, .bool false], .slice none 0 0, .int .i64 0] rfl (by kernel_rfl) (by kernel_rfl) (by kernel_rfl)
      (OpenSpec.preRow_of_cond 8 hx (by kernel_rfl) (fun k hk => by cases hk) (by kernel_rfl) (laid_met os _))) ?_
  intro W base args ds gs before hval0 hW _ _ hsz0 hL _ _
  have htab := table hL
  have hval : ∀ (j : Nat) t v, Tryd.f5.params[j]? = some t → args[j]? = some v → Value.okWide Tryd.prog W .any base t v := hval0
  have hW' := hW
  obtain ⟨p, q, hA0, hV, rfl, hfz, hnd⟩ := hW
  have hA : DataW.TrodAll enc Tryd.prog W 0 (fun _ => true) true Tryd.f5.params.toList args.toList ds p := hA0
  rw [Tryd.params5] at hA hval
  obtain ⟨v0, vs0, d0, ds0, p0, q0, hargs, rfl, rfl, h0, r0⟩ := trodAll_cons hA
  obtain ⟨v1, vs1, d1, ds1, p1, q1, rfl, rfl, rfl, h1, r1⟩ := trodAll_cons r0
  obtain ⟨v2, vs2, d2, ds2, p2, q2, rfl, rfl, rfl, h2, r2⟩ := trodAll_cons r1
  obtain ⟨rfl, rfl, rfl⟩ := trodAll_nil r2
  obtain rfl : args = #[v0, v1, v2] := by cases args; simp_all
  obtain ⟨rfl, rfl⟩ := trodVars_none hV
  have k0 := h0
  have lt0 : ∀ x ∈ p0, x.block < W.heap.size := by obtain ⟨m, hm⟩ := k0; exact DataW.trod_lt m _ _ _ hm
  obtain ⟨z0, rfl, w0⟩ := open_cfg (hval 0 24 v0 rfl rfl) h0
  have k1 := h1
  have lt1 : ∀ x ∈ p1, x.block < W.heap.size := by obtain ⟨m, hm⟩ := k1; exact DataW.trod_lt m _ _ _ hm
  obtain ⟨z1, w1⟩ := open_rated (hval 1 25 v1 rfl rfl) h1
  obtain ⟨a2, rfl, rfl, rfl, w2⟩ := open_int Tryd.underlying3 (hval 2 3 v2 rfl rfl) h2
  clear hA0 hval0
  refine (walk_SpreadOrder z0 w0 z1 v1 a2 (bounds_i64 w2) W htab w1).mono fun e W' ⟨he, bel⟩ => ?_
  subst he
  exact ⟨_, rfl, _, _, _, [], _, [], hW', trodAll_mk1 (shut_bool Tryd.underlying4 _), (trodAll_cons_mk (Below.trod laidOut (by kernel_rfl) (of_decide_eq_true (by kernel_rfl)) k0 bel lt0) (trodAll_cons_mk (Below.trod laidOut (by kernel_rfl) (of_decide_eq_true (by kernel_rfl)) k1 bel lt1) (trodAll_cons_mk (shut_int Tryd.underlying3 w2) trodAll_mk0))), rfl, bel.frame _, fun h => by cases h⟩

theorem said_SpreadOrder : Rows.SpreadOrderSaid :=
  OpenClaim.holds_of_cond 5 Tryd.f5 rfl rfl rfl rfl rfl rfl rfl ⟨rfl, rfl, rfl, rfl, rfl⟩ rfl rfl rfl rfl rfl (by kernel_rfl) Tryd.func5 (by kernel_rfl)
    (of_decide_eq_true (by kernel_rfl)) (by unfold Func.isWrapper; first | (rw [if_pos (by decide +kernel)]; kernel_rfl) | (rw [if_neg (by decide +kernel)]; exact ⟨rfl, rfl⟩))
    (fun os started H enc _ F => by rw [OpenClaim.pre_eq_preRow]; exact lifted_SpreadOrder os started H enc F)

theorem plain_SpreadOrder (f : FuncId) (fn : Func) (hf : Tryd.pinned.checked.prog.funcNamed Rows.spreadOrderRow.func = some f) (hfn : Tryd.pinned.checked.prog.funcs[f]? = some fn) :
    false = Tryd.pinned.checked.prog.looks [] ∧ ∀ (j : Nat) t, fn.params[j]? = some t → Tryd.pinned.checked.prog.wantsStandIn t = false := by
  obtain rfl : f = 5 := Option.some.inj ((show Tryd.prog.funcNamed Rows.spreadOrderRow.func = some 5 by kernel_rfl).symm.trans hf) |>.symm
  obtain rfl : fn = Tryd.f5 := (Option.some.inj (Tryd.func5.symm.trans hfn)).symm
  refine ⟨by kernel_rfl, fun j t ht => ?_⟩
  rw [Tryd.params5] at ht
  have hm := Array.mem_of_getElem? ht
  simp only [List.mem_toArray, List.mem_cons, List.not_mem_nil, or_false] at hm
  rcases hm with rfl | rfl | rfl
  · exact (show Tryd.prog.wantsStandIn 24 = false by kernel_rfl)
  · exact (show Tryd.prog.wantsStandIn 25 = false by kernel_rfl)
  · exact (show Tryd.prog.wantsStandIn 3 = false by kernel_rfl)

/-- The statement. -/
theorem spreadOrder_holds : Rows.SpreadOrderCardSaid :=
  Claim7.holds_tied_plain_at .later [] _ _ _ _ said_SpreadOrder (fun _ h => by cases h) (by kernel_rfl) (fun _ h => by cases h) spreadOrder_row_tie rfl ⟨rfl, rfl⟩ (by kernel_rfl) rfl plain_SpreadOrder (by kernel_rfl)
#print axioms spreadOrder_holds

end Go.Proofs.YtjknflpclniiiaaDoor

/-
  SpreadEnough, for every configuration and row of hosts: with fewer hosts of enough requests than must be, nobody is told for the spread; for failing by so many percent, all that do are. No condition on the call.
-/
import Derived.Test.YtjknflpclniiiaaDoorSpreadAwake
import Derived.Test.YtjknflpclniiiaaDoorSpreadCount
import Derived.Test.YtjknflpclniiiaaDoorRefBucket
import Derived.Test.YtjknflpclniiiaaDoorRefMayC
import Derived.Test.YtjknflpclniiiaaDoorCfgFrame
namespace Go.Proofs.YtjknflpclniiiaaDoor
open Go.ChangeShapes Go.WideShapes Go.ChangeAt Go.RowKit
open Go.ChangeMaps (open_string shut_string)

theorem rated_good {L : List Rd} (hl : L.length ≤ 64) (hb : ∀ i, i < L.length → mayBk (L.getD i noRd).b = true) (hd : ∀ i, i < L.length → ∀ j, j < i → (L.getD i noRd).id ≠ (L.getD j noRd).id) : mayRd L = true := by
  refine (mayRd_iff L).2 ⟨hl, fun x hx => ?_, ?_⟩
  · obtain ⟨i, hi, rfl⟩ := mem_getD hx noRd
    exact hb i hi
  · unfold List.Nodup
    rw [List.pairwise_map, List.pairwise_iff_getElem]
    intro j i hj hi hij h
    have e1 : L.getD i noRd = L[i] := by simp [hi]
    have e2 : L.getD j noRd = L[j] := by simp [hj]
    have := hd i hi j hij
    rw [e1, e2] at this
    exact this h.symm
theorem taken {α : Type} (l : List α) (d : α) {k j : Nat} (h : j < k) : (l.take k).getD j d = l.getD j d := by
  rw [List.getD_eq_getElem?_getD, List.getD_eq_getElem?_getD, List.getElem?_take, if_pos h]

set_option maxRecDepth 100000 in
set_option maxHeartbeats 8000000 in
theorem walk_SpreadEnough (c : Cfg) (hz : c.zone.size ≤ 9223372036854775807) (L : List Rd) (lv : Value) (w : World) (htab : TabC w) (hl : IsRd w lv L) :
    Calls Tryd.prog 6 #[.agg c.arr, lv] w fun e w' => e = .returned (.bool true) ∧ Below w.heap.size w w' := by
  have HMayC : Hid (∀ W : World, Calls Tryd.prog 14 #[.agg c.arr] W fun e w' => e = .returned (.bool (mayC c)) ∧ Below W.heap.size W w') := fun W => rMay_any c W hz
  obtain ⟨ao, cap, rfl⟩ := hl.shaped
  have HL : Hid (IsRd w (.slice ao L.length cap) L) := hl
  have HT : Hid (TabC w) := htab
  have HI : Hid ((Tryd.prog.info? 24).map (·.size) = some c.arr.size) := arr_inf c
  have hmax := hl.row.2.1.1
  unfold maxLen at hmax
  clear htab hl
  by_cases h1 : mayC c = true
  rotate_left
  · have h1 := Bool.eq_false_iff.2 h1
    rw [h1] at HMayC
    clear h1 HL hz
    generalize c.arr = cs at *
    go_enter Tryd.func6, Tryd.ntmps6
    go_upto_region 1 with fail
    generalize hW0 : w.alloc _ = W0
    have HC0 : Hid (HasBox W0 w.heap.size 24 cs) := by show HasBox _ _ _ _; rw [← hW0]; exact hasBox_new w _ _
    have HB0 : Hid (Below w.heap.size w W0) := by show Below _ _ _; rw [← hW0]; exact (Below.refl _ _).alloc (Nat.le_refl _) _
    clear hW0
    go_wp2_with (first | (refine wpList_load_bx rfl 24 (.tmp 2) rfl w.heap.size rfl 24 _ _ HC0.out Tryd.underlying24 rfl HI.out ?_) | fail)
    refine (HMayC.out _).mono ?_
    rintro e w1 ⟨rfl, hb⟩
    have HC1 : Hid (HasBox w1 w.heap.size 24 cs) := HC0.out.below hb
    have HB1 : Hid (Below w.heap.size w w1) := HB0.out.trans (hb.mono HB0.out.size)
    clear hb HB0 HC0 HMayC
    go_wp2_with fail
    refine (awake13_any _ (HT.out.below HB1.out)).mono ?_
    rintro e w2 ⟨rfl, hb⟩
    have HB2 : Hid (Below w.heap.size w w2) := HB1.out.trans (hb.mono HB1.out.size)
    clear hb
    go_wp2
    go_ret
    exact ⟨rfl, HB2.out⟩
  rw [h1] at HMayC
  by_cases h3 : 64 < L.length
  · have h3' : (64 : Int) < (L.length : Int) := by omega
    clear h1 h3 HL hz
    generalize c.arr = cs at *
    go_enter Tryd.func6, Tryd.ntmps6
    go_upto_region 1 with fail
    generalize hW0 : w.alloc _ = W0
    have HC0 : Hid (HasBox W0 w.heap.size 24 cs) := by show HasBox _ _ _ _; rw [← hW0]; exact hasBox_new w _ _
    have HB0 : Hid (Below w.heap.size w W0) := by show Below _ _ _; rw [← hW0]; exact (Below.refl _ _).alloc (Nat.le_refl _) _
    clear hW0
    go_wp2_with (first | (refine wpList_load_bx rfl 24 (.tmp 2) rfl w.heap.size rfl 24 _ _ HC0.out Tryd.underlying24 rfl HI.out ?_) | fail)
    refine (HMayC.out _).mono ?_
    rintro e w1 ⟨rfl, hb⟩
    have HC1 : Hid (HasBox w1 w.heap.size 24 cs) := HC0.out.below hb
    have HB1 : Hid (Below w.heap.size w w1) := HB0.out.trans (hb.mono HB0.out.size)
    clear hb HB0 HC0 HMayC
    go_wp2_with fail
    refine (awake13_any _ (HT.out.below HB1.out)).mono ?_
    rintro e w2 ⟨rfl, hb⟩
    have HB2 : Hid (Below w.heap.size w w2) := HB1.out.trans (hb.mono HB1.out.size)
    clear hb
    go_wp2
    go_ret
    exact ⟨rfl, HB2.out⟩
  have h3' : ¬ (64 : Int) < (L.length : Int) := by omega
  have HLen : Hid (L.length ≤ 64) := by show _ ≤ _; omega
  have HNo : Hid (∀ k, k < L.length → mayBk (L.getD k noRd).b = false → badL c L = []) := fun k hk h => bad_nobody k hk h
  have HCnt : Hid ((∀ i, i < L.length → mayBk (L.getD i noRd).b = true) → (∀ i, i < L.length → ∀ j, j < i → (L.getD i noRd).id ≠ (L.getD j noRd).id) → (enL L c.f10).countP (fun x => failK x.b c.f12) ≤ (badL c L).length ∧ (badL c L).length ≤ (enL L c.f10).length ∧ ((c.f9 ≤ ((enL L c.f10).length : Int) ∧ 0 < c.f11) ∨ (badL c L).length = (enL L c.f10).countP fun x => failK x.b c.f12)) := fun h4 h5 => bad_count h1 (rated_good (by omega) h4 h5)
  have HBad : Hid (∀ W : World, Below w.heap.size w W → Calls Tryd.prog 12 #[.agg c.arr, .slice ao L.length cap] W fun e w' => ∃ v', e = .returned v' ∧ IsInts w' v' (badL c L) ∧ Below W.heap.size W w') := fun W h => bad_any c L _ W (HT.out.below h) hz (HL.out.below h)
  have HP : Hid (c.f12 ≤ 9223372036854775807) := by have := may_num12 h1; show _ ≤ _; omega
  have HZ9 : Hid (c.arr[9]? = some (.int .i64 c.f9)) := rfl
  have HZ10 : Hid (c.arr[10]? = some (.int .i64 c.f10)) := rfl
  have HZ11 : Hid (c.arr[11]? = some (.int .i64 c.f11)) := rfl
  have HZ12 : Hid (c.arr[12]? = some (.int .i64 c.f12)) := rfl
  clear h1 h3 hz
  generalize badL c L = BA at *
  generalize c.f10 = rq at *
  generalize c.f9 = hs at *
  generalize c.f11 = fa at *
  generalize c.f12 = p at *
  generalize c.arr = cs at *
  go_enter Tryd.func6, Tryd.ntmps6
  go_upto_region 1 with fail
  generalize hW0 : w.alloc _ = W0
  have HC0 : Hid (HasBox W0 w.heap.size 24 cs) := by show HasBox _ _ _ _; rw [← hW0]; exact hasBox_new w _ _
  have HB0 : Hid (Below w.heap.size w W0) := by show Below _ _ _; rw [← hW0]; exact (Below.refl _ _).alloc (Nat.le_refl _) _
  clear hW0
  go_wp2_with (first | (refine wpList_load_bx rfl 24 (.tmp 2) rfl w.heap.size rfl 24 _ _ HC0.out Tryd.underlying24 rfl HI.out ?_) | fail)
  refine (HMayC.out _).mono ?_
  rintro e w1 ⟨rfl, hb⟩
  have HC1 : Hid (HasBox w1 w.heap.size 24 cs) := HC0.out.below hb
  have HB1 : Hid (Below w.heap.size w w1) := HB0.out.trans (hb.mono HB0.out.size)
  clear hb HB0 HC0 HMayC
  go_wp2
  clear h3' hmax
  go_loopw [25] (fun i wr => ∃ k : Nat, k ≤ L.length ∧ i = .int .i64 k ∧ (∀ i, i < k → mayBk (L.getD i noRd).b = true) ∧ (∀ i, i < k → ∀ j, j < i → (L.getD i noRd).id ≠ (L.getD j noRd).id) ∧ Below w1.heap.size w1 wr) (fun i _ => L.length - (intOf i).toNat)
  case atStart => exact ⟨0, Nat.zero_le _, rfl, by omega, by omega, Below.refl _ _⟩
  case round =>
    obtain ⟨k, hk, rfl, hs1, hs2, hb⟩ := hrel
    have HS1 : Hid (∀ i, i < k → mayBk (L.getD i noRd).b = true) := hs1
    have HS2 : Hid (∀ i, i < k → ∀ j, j < i → (L.getD i noRd).id ≠ (L.getD j noRd).id) := hs2
    have HB : Hid (Below w1.heap.size w1 wr) := hb
    clear hs1 hs2 hb
    have hlen := HLen.out
    have HLr : Hid (IsRd wr (.slice ao L.length cap) L) := (HL.out.below HB1.out).below HB.out
    by_cases hlt : k < L.length
    · obtain ⟨b, off, rfl, hbl, g0, g1, g2⟩ := HLr.out.at k hlt
      have HBb : Hid (mayBk (L.getD k noRd).b = false → BA = []) := HNo.out k hlt
      have HN1 : Hid (mayBk (L.getD k noRd).b = true → ∀ i, i < k + 1 → mayBk (L.getD i noRd).b = true) := fun h j hj => by
        by_cases e : j = k
        · subst e; exact h
        · exact HS1.out j (by omega)
      have HN2 : Hid ((∀ j, j < k → (L.getD k noRd).id ≠ (L.getD j noRd).id) → ∀ i, i < k + 1 → ∀ j, j < i → (L.getD i noRd).id ≠ (L.getD j noRd).id) := fun h i hi j hj => by
        by_cases e : i = k
        · subst e; exact h j hj
        · exact HS2.out i (by omega) j hj
      have HMay : Hid (∀ W : World, Calls Tryd.prog 17 #[bval (L.getD k noRd).b] W fun e w' => e = .returned (.bool (mayBk (L.getD k noRd).b)) ∧ Below W.heap.size W w') := rkMay_any _
      have hcap : L.length ≤ cap ∧ cap ≤ maxLen := HLr.out.row.2.1.2
      unfold maxLen at hcap
      clear HS1 HS2 HNo HCnt
      generalize hX : L.getD k noRd = x at *
      obtain ⟨id, ok, all⟩ := x
      unfold bval bcells at HMay
      simp only at HMay HBb HN1 HN2 g0 g1 g2
      go_upto_region 6 with fail
      generalize hW2 : wr.alloc _ = W2
      have HI2 : Hid (HasBox W2 wr.heap.size 39 #[.int .i64 id, .int .i64 ok, .int .i64 all]) := by show HasBox _ _ _ _; rw [← hW2]; exact hasBox_new wr _ _
      have HB2 : Hid (Below w1.heap.size w1 W2) := by show Below _ _ _; rw [← hW2]; exact HB.out.alloc HB.out.size _
      have HLt : Hid (IsRd W2 (.slice (some ⟨b, off, none⟩) k cap) (L.take k)) := by show IsRd _ _ _; rw [← hW2]; exact (HLr.out.take k (by omega)).below ((Below.refl _ _).alloc (Nat.le_refl _) _)
      clear hW2 HB HLr g0 g1 g2 hbl
      generalize wr.heap.size = tb at HI2 ⊢
      have hk1 : (k : Int) ≤ (cap : Int) := by omega
      have hk2 : (k : Int) ≤ (L.length : Int) := by omega
      go_wp2
      clear hk1 hk2 hcap
      go_loopw [34] (fun i wi => ∃ j : Nat, j ≤ k ∧ i = .int .i64 j ∧ (∀ m, m < j → id ≠ (L.getD m noRd).id) ∧ Below W2.heap.size W2 wi) (fun i _ => k - (intOf i).toNat)
      case atStart => exact ⟨0, Nat.zero_le _, rfl, by omega, Below.refl _ _⟩
      case round =>
        obtain ⟨j, hj, rfl, hd, hbi⟩ := hrel
        have HD : Hid (∀ m, m < j → id ≠ (L.getD m noRd).id) := hd
        have HBi : Hid (Below W2.heap.size W2 wr) := hbi
        have HI3 : Hid (HasBox wr tb 39 #[.int .i64 id, .int .i64 ok, .int .i64 all]) := HI2.out.below hbi
        have HBe : Hid (Below w.heap.size w wr) := HB1.out.trans ((HB2.out.trans (HBi.out.mono HB2.out.size)).mono HB1.out.size)
        clear hd hbi
        by_cases hjk : j < k
        · obtain ⟨b2, o2, e2, hbl2, q0, q1, q2⟩ := (HLt.out.below HBi.out).at j (by rw [List.length_take]; omega)
          simp only [Option.some.injEq, Addr.mk.injEq] at e2
          obtain ⟨rfl, rfl, _⟩ := e2
          rw [taken L noRd hjk] at q0 q1 q2
          have HDn : Hid (id ≠ (L.getD j noRd).id → ∀ m, m < j + 1 → id ≠ (L.getD m noRd).id) := fun h m hm => by
            by_cases e : m = j
            · subst e; exact h
            · exact HD.out m (by omega)
          generalize L.getD j noRd = z at *
          obtain ⟨zi, zo, za⟩ := z
          simp only at q0 q1 q2 HDn
          have c0 : wr.cell? ⟨tb, 0, none⟩ = some (.int .i64 id) := HI3.out.cell 0
          have htb : tb < wr.heap.size := HI3.out.lt
          by_cases e : id = zi
          · have e' : (id == zi) = true := by simp [e]
            clear e HDn
            go_wp2_with fail
            refine (awake13_any _ ((HT.out.below HBe.out).below ((Below.refl _ _).alloc (Nat.le_refl _) _))).mono ?_
            rintro e w9 ⟨rfl, hb9⟩
            have HB9 : Hid (Below w.heap.size w w9) := (HBe.out.alloc HBe.out.size _).trans (hb9.mono (by have := HBe.out.size; simp; omega))
            clear hb9 c0 q0 q1 q2
            go_wp2
            go_ret
            exact ⟨rfl, HB9.out⟩
          · have e' : (id == zi) = false := by simp [e]
            have HDn2 : Hid _ := HDn.out e
            clear e HDn
            go_wp2
            go_roundw
            case rel => exact ⟨j + 1, by omega, by go_num, HDn2.out, HBi.out.alloc HBi.out.size _⟩
            case measure => simp [intOf]; omega
        · obtain rfl : j = k := by omega
          have HN3 : Hid _ := HN2.out HD.out
          have HB3 : Hid (Below w1.heap.size w1 wr) := HB2.out.trans (HBi.out.mono HB2.out.size)
          clear HN2 HD HB2 HI2 HBi HLt
          have c1 : wr.cell? ⟨tb, 1, none⟩ = some (.int .i64 ok) := HI3.out.cell 1
          have c2 : wr.cell? ⟨tb, 2, none⟩ = some (.int .i64 all) := HI3.out.cell 2
          generalize mayBk ⟨ok, all⟩ = mb at *
          go_wp2_with fail
          refine (HMay.out _).mono ?_
          rintro e w4 ⟨rfl, hb4⟩
          have HB4 : Hid (Below w1.heap.size w1 w4) := HB3.out.trans (hb4.mono HB3.out.size)
          have HB5 : Hid (Below w.heap.size w w4) := HB1.out.trans (HB4.out.mono HB1.out.size)
          have HC4 : Hid (HasBox w4 w.heap.size 24 cs) := HC1.out.below HB4.out
          clear hb4 HB3 HI3 c1 c2 HMay HBe
          cases mb with
          | false =>
            have HE : Hid (BA = []) := HBb.out (by trivial)
            go_wp2_with (first | (refine wpList_load_bx rfl 24 (.tmp 2) rfl w.heap.size rfl 24 _ _ HC4.out Tryd.underlying24 rfl HI.out ?_) | fail)
            refine (HBad.out _ HB5.out).mono ?_
            rintro e w5 ⟨v5, rfl, h5, hb5⟩
            rw [HE.out] at h5
            obtain ⟨vo, vc, rfl⟩ := h5.shape
            have HB6 : Hid (Below w.heap.size w w5) := HB5.out.trans (hb5.mono HB5.out.size)
            clear h5 hb5
            go_wp2_with fail
            refine (awake13_any _ (HT.out.below HB6.out)).mono ?_
            rintro e w9 ⟨rfl, hb9⟩
            have HB9 : Hid (Below w.heap.size w w9) := HB6.out.trans (hb9.mono HB6.out.size)
            clear hb9
            go_wp2
            go_ret
            exact ⟨rfl, HB9.out⟩
          | true =>
            have HN4 : Hid _ := HN1.out (by trivial)
            clear HN1 HBb HC4 HB5
            go_wp2
            go_roundw
            case rel => exact ⟨j + 1, by omega, by go_num, HN4.out, HN3.out, HB4.out⟩
            case measure => simp [intOf]; omega
    · obtain rfl : k = L.length := by omega
      have HF : Hid _ := HCnt.out HS1.out HS2.out
      clear HCnt HNo HS1 HS2
      go_wp2
      go_loopw [9, 10, 60] (fun o r i wi => ∃ k : Nat, k ≤ L.length ∧ i = .int .i64 k ∧ o = .int .i64 (((enL (L.take k) rq).length : Nat) : Int) ∧ r = .int .i64 (((enL (L.take k) rq).countP (fun x => failK x.b p) : Nat) : Int) ∧ Below w1.heap.size w1 wi) (fun _ _ i _ => L.length - (intOf i).toNat)
      case atStart => exact ⟨0, Nat.zero_le _, rfl, rfl, rfl, HB.out⟩
      case round =>
        obtain ⟨k, hk, rfl, rfl, rfl, hb⟩ := hrel
        have HBr : Hid (Below w1.heap.size w1 wr) := hb
        clear hb HB HLr
        by_cases hkl : k < L.length
        · obtain ⟨b, off, rfl, hbl, g0, g1, g2⟩ := ((HL.out.below HB1.out).below HBr.out).at k hkl
          have HNx : Hid _ := enL_count L rq p k hkl
          have hel := enL_length (L.take k) rq
          have hel2 : (L.take k).length ≤ 64 := by rw [List.length_take]; omega
          have hfl : (enL (L.take k) rq).countP (fun x => failK x.b p) ≤ (enL (L.take k) rq).length := List.countP_le_length
          have HEn : Hid (∀ W : World, Calls Tryd.prog 15 #[bval (L.getD k noRd).b, .int .i64 rq] W fun e w' => e = .returned (.bool (enoughK (L.getD k noRd).b rq)) ∧ Below W.heap.size W w') := rkEnough_any _ rq
          have HFi : Hid (∀ W : World, Calls Tryd.prog 18 #[bval (L.getD k noRd).b, .int .i64 p] W fun e w' => e = .returned (.bool (failK (L.getD k noRd).b p)) ∧ Below W.heap.size W w') := rkFail_any _ p HP.out
          generalize hE2 : (enL (L.take (k + 1)) rq).length = e2 at *
          generalize hF2 : (enL (L.take (k + 1)) rq).countP (fun x => failK x.b p) = f2 at *
          generalize he1 : (enL (L.take k) rq).length = e1 at *
          generalize (enL (L.take k) rq).countP (fun x => failK x.b p) = f1 at *
          have hw1 : IntKind.i64.wrap ((e1 : Int) + 1) = (e1 : Int) + 1 := wrap_at (by omega) (by omega)
          have hw2 : IntKind.i64.wrap ((f1 : Int) + 1) = (f1 : Int) + 1 := wrap_at (by omega) (by omega)
          clear hel hel2 hfl he1
          generalize L.getD k noRd = x at *
          obtain ⟨id, ok, all⟩ := x
          have HE2 : Hid _ := hE2
          have HF2 : Hid _ := hF2
          clear hE2 hF2
          unfold bval bcells at HEn HFi
          simp only at HEn HFi HNx g0 g1 g2
          have g10 : wr.cell? ⟨w.heap.size, 10, none⟩ = some (.int .i64 rq) := ((HC1.out.below HBr.out).cell 10).trans HZ10.out
          have hLt : w.heap.size < wr.heap.size := (HC1.out.below HBr.out).lt
          generalize enoughK ⟨ok, all⟩ rq = en at *
          generalize failK ⟨ok, all⟩ p = fl at *
          go_wp2_with fail
          refine (HEn.out _).mono ?_
          rintro e w3 ⟨rfl, hb3⟩
          have HI3 : Hid (HasBox w3 wr.heap.size 39 #[.int .i64 id, .int .i64 ok, .int .i64 all]) := (hasBox_new wr _ _).below hb3
          have HB3 : Hid (Below w1.heap.size w1 w3) := HBr.out.trans (((Below.refl _ _).alloc (Nat.le_refl _) _).trans (hb3.mono (by simp)) |>.mono HBr.out.size)
          clear hb3 HEn HBr g0 g1 g2 hbl g10 hLt
          cases en with
          | false =>
            have n1 : e2 = e1 := by have := HNx.out.1; rwa [if_neg (by simp), Nat.add_zero] at this
            have n2 : f2 = f1 := by have := HNx.out.2; rwa [if_neg (by simp), Nat.add_zero] at this
            have N1 : Hid _ := n1
            have N2 : Hid _ := n2
            clear HNx n1 n2 hw1 hw2
            go_wp2
            go_roundw
            case rel => exact ⟨k + 1, by omega, by go_num, by rw [HE2.out, N1.out], by rw [HF2.out, N2.out], HB3.out⟩
            case measure => simp [intOf]; omega
          | true =>
            have n1 : e2 = e1 + 1 := by have := HNx.out.1; rwa [if_pos rfl] at this
            have N1 : Hid _ := n1
            have c1 : w3.cell? ⟨wr.heap.size, 1, none⟩ = some (.int .i64 ok) := HI3.out.cell 1
            have c2 : w3.cell? ⟨wr.heap.size, 2, none⟩ = some (.int .i64 all) := HI3.out.cell 2
            have g12 : w3.cell? ⟨w.heap.size, 12, none⟩ = some (.int .i64 p) := ((HC1.out.below HB3.out).cell 12).trans HZ12.out
            clear n1
            go_wp2_with fail
            refine (HFi.out _).mono ?_
            rintro e w4 ⟨rfl, hb4⟩
            have HB4 : Hid (Below w1.heap.size w1 w4) := HB3.out.trans (hb4.mono HB3.out.size)
            clear hb4 HFi HB3 HI3 c1 c2 g12
            cases fl with
            | false =>
              have n2 : f2 = f1 := by have := HNx.out.2; rwa [if_neg (by simp), Nat.add_zero] at this
              have N2 : Hid _ := n2
              clear HNx n2
              go_wp2
              go_roundw
              case rel => exact ⟨k + 1, by omega, by go_num, by rw [HE2.out, N1.out]; go_num, by rw [HF2.out, N2.out], HB4.out⟩
              case measure => simp [intOf]; omega
            | true =>
              have n2 : f2 = f1 + 1 := by have := HNx.out.2; rwa [if_pos (by simp)] at this
              have N2 : Hid _ := n2
              clear HNx n2
              go_wp2
              go_roundw
              case rel => exact ⟨k + 1, by omega, by go_num, by rw [HE2.out, N1.out]; go_num, by rw [HF2.out, N2.out]; go_num, HB4.out⟩
              case measure => simp [intOf]; omega
        · obtain rfl : k = L.length := by omega
          rw [List.take_of_length_le (Nat.le_refl _)]
          have hel := enL_length L rq
          generalize (enL L rq).countP (fun x => failK x.b p) = f1 at *
          generalize (enL L rq).length = e1 at *
          have HC4 : Hid (HasBox wr w.heap.size 24 cs) := HC1.out.below HBr.out
          have HB4 : Hid (Below w.heap.size w wr) := HB1.out.trans (HBr.out.mono HB1.out.size)
          have HE1 : Hid (e1 ≤ 64) := by show _ ≤ _; omega
          clear HBr HC1 HB1 hel
          go_wp2_with (first | (refine wpList_load_bx rfl 24 (.tmp 2) rfl w.heap.size rfl 24 _ _ HC4.out Tryd.underlying24 rfl HI.out ?_) | fail)
          refine (HBad.out _ HB4.out).mono ?_
          rintro e w6 ⟨v6, rfl, h6, hb6⟩
          obtain ⟨vo, vc, rfl⟩ := h6.shape
          have HB6 : Hid (Below w.heap.size w w6) := HB4.out.trans (hb6.mono HB4.out.size)
          have HC6 : Hid (HasBox w6 w.heap.size 24 cs) := HC4.out.below hb6
          clear h6 hb6 HC4 HB4 HBad
          generalize BA.length = n at *
          obtain ⟨a1, a2, a3⟩ := HF.out
          have g9 : w6.cell? ⟨w.heap.size, 9, none⟩ = some (.int .i64 hs) := (HC6.out.cell 9).trans HZ9.out
          have g11 : w6.cell? ⟨w.heap.size, 11, none⟩ = some (.int .i64 fa) := (HC6.out.cell 11).trans HZ11.out
          have b1 : (f1 : Int) ≤ (n : Int) := by omega
          have b2 : (n : Int) ≤ (e1 : Int) := by omega
          clear HF
          by_cases d1 : hs ≤ (e1 : Int)
          · by_cases d2 : 0 < fa
            · clear a1 a2 a3
              go_wp2_with fail
              refine (awake13_any _ (HT.out.below HB6.out)).mono ?_
              rintro e w7 ⟨rfl, hb⟩
              have HB7 : Hid (Below w.heap.size w w7) := HB6.out.trans (hb.mono HB6.out.size)
              clear hb
              go_wp2
              go_ret
              exact ⟨rfl, HB7.out⟩
            · have b3 : n = f1 := by omega
              subst b3
              clear a1 a2 a3
              go_wp2_with fail
              refine (awake13_any _ (HT.out.below HB6.out)).mono ?_
              rintro e w7 ⟨rfl, hb⟩
              have HB7 : Hid (Below w.heap.size w w7) := HB6.out.trans (hb.mono HB6.out.size)
              clear hb
              go_wp2
              go_ret
              exact ⟨rfl, HB7.out⟩
          · have b3 : n = f1 := by omega
            subst b3
            clear a1 a2 a3
            go_wp2_with fail
            refine (awake13_any _ (HT.out.below HB6.out)).mono ?_
            rintro e w7 ⟨rfl, hb⟩
            have HB7 : Hid (Below w.heap.size w w7) := HB6.out.trans (hb.mono HB6.out.size)
            clear hb
            go_wp2
            go_ret
            exact ⟨rfl, HB7.out⟩

theorem reads_SpreadEnough (os : Os) {H : Type} (enc : TypeId × Value → H) : ∃ places, DataW.whole enc Tryd.prog ((laidWorld os).forCall (fun _ _ => 0) ⟨#[], #[.agg #[.int .i64 0, .int .i64 0, .int .i64 0, .int .i64 0, .int .i64 0, .int .i64 0, .int .i64 0, .int .i64 0, .int .i64 0, .int .i64 0, .int .i64 0, .int .i64 0, .int .i64 0, .int .i64 0, .int .i64 0, .bool false, .int .i64 0, .int .i64 0, .int .i64 0, .int .i64 0, .int .i64 0, .string ByteArray.empty, .bool false], .slice none 0 0], []⟩).memory Tryd.f6.params.toList Rows.spreadEnoughSpec.vars false (#[.agg #[.int .i64 0, .int .i64 0, .int .i64 0, .int .i64 0, .int .i64 0, .int .i64 0, .int .i64 0, .int .i64 0, .int .i64 0, .int .i64 0, .int .i64 0, .int .i64 0, .int .i64 0, .int .i64 0, .int .i64 0, .bool false, .int .i64 0, .int .i64 0, .int .i64 0, .int .i64 0, .int .i64 0, .string ByteArray.empty, .bool false], .slice none 0 0] : Array Value).toList 8 = some ([.agg [.lit (.int .i64 0), .lit (.int .i64 0), .lit (.int .i64 0), .lit (.int .i64 0), .lit (.int .i64 0), .lit (.int .i64 0), .lit (.int .i64 0), .lit (.int .i64 0), .lit (.int .i64 0), .lit (.int .i64 0), .lit (.int .i64 0), .lit (.int .i64 0), .lit (.int .i64 0), .lit (.int .i64 0), .lit (.int .i64 0), .lit (.bool false), .lit (.int .i64 0), .lit (.int .i64 0), .lit (.int .i64 0), .lit (.int .i64 0), .lit (.int .i64 0), .lit (.string []), .lit (.bool false)], .nil], [], places) :=
  ⟨[], by kernel_rfl⟩

set_option maxRecDepth 100000 in
theorem lifted_SpreadEnough (os : Os) (started : os.Started) (H : Type) (enc : TypeId × Value → H) (F : Stop.Interp) :
    ReturnsInHanded {} Tryd.checked os 6 .any ((OpenSpec.ofChange Rows.spreadEnoughSpec).preRow enc Tryd.prog Tryd.f6 Rows.spreadEnoughRow.domain false Rows.spreadEnoughRow.laid) (((OpenSpec.ofChange Rows.spreadEnoughSpec).at F).post enc Tryd.prog Tryd.f6 false true false false) := by
  obtain ⟨places, hx⟩ := reads_SpreadEnough os enc
  refine returnsInHanded_of_row (C := Tryd.checked) (s := OpenSpec.ofChange Rows.spreadEnoughSpec) own started (by kernel_rfl) Tryd.func6
    (witness_row_at (enc := enc) (C := Tryd.checked) false (laidWorld os) #[.agg #[.int .i64 0, .int .i64 0, .int .i64 0, .int .i64 0, .int .i64 0, .int .i64 0, .int .i64 0, .int .i64 0, .int .i64 0, .int .i64 0, .int .i64 0, .int .i64 0, .int .i64 0, .int .i64 0, .int .i64 0, .bool false, .int .i64 0, .int .i64 0, .int .i64 0, .int .i64 0, .int .i64 0, .string ByteArray.empty, .bool false], .slice none 0 0] rfl (by kernel_rfl) (by kernel_rfl) (by kernel_rfl)
      (OpenSpec.preRow_of_cond 8 hx (by kernel_rfl) (fun k hk => by cases hk) (by kernel_rfl) (laid_met os _))) ?_
  intro W base args ds gs before hval0 hW _ _ hsz0 hL _ _
  have htab := table hL
  have hval : ∀ (j : Nat) t v, Tryd.f6.params[j]? = some t → args[j]? = some v → Value.okWide Tryd.prog W .any base t v := hval0
  have hW' := hW
  obtain ⟨p, q, hA0, hV, rfl, hfz, hnd⟩ := hW
  have hA : DataW.TrodAll enc Tryd.prog W 0 (fun _ => true) true Tryd.f6.params.toList args.toList ds p := hA0
  rw [Tryd.params6] at hA hval
  obtain ⟨v0, vs0, d0, ds0, p0, q0, hargs, rfl, rfl, h0, r0⟩ := trodAll_cons hA
  obtain ⟨v1, vs1, d1, ds1, p1, q1, rfl, rfl, rfl, h1, r1⟩ := trodAll_cons r0
  obtain ⟨rfl, rfl, rfl⟩ := trodAll_nil r1
  obtain rfl : args = #[v0, v1] := by cases args; simp_all
  obtain ⟨rfl, rfl⟩ := trodVars_none hV
  have k0 := h0
  have lt0 : ∀ x ∈ p0, x.block < W.heap.size := by obtain ⟨m, hm⟩ := k0; exact DataW.trod_lt m _ _ _ hm
  obtain ⟨z0, rfl, w0⟩ := open_cfg (hval 0 24 v0 rfl rfl) h0
  have k1 := h1
  have lt1 : ∀ x ∈ p1, x.block < W.heap.size := by obtain ⟨m, hm⟩ := k1; exact DataW.trod_lt m _ _ _ hm
  obtain ⟨z1, w1⟩ := open_rated (hval 1 25 v1 rfl rfl) h1
  clear hA0 hval0
  refine (walk_SpreadEnough z0 w0 z1 v1 W htab w1).mono fun e W' ⟨he, bel⟩ => ?_
  subst he
  exact ⟨_, rfl, _, _, _, [], _, [], hW', trodAll_mk1 (shut_bool Tryd.underlying4 _), (trodAll_cons_mk (Below.trod laidOut (by kernel_rfl) (of_decide_eq_true (by kernel_rfl)) k0 bel lt0) (trodAll_cons_mk (Below.trod laidOut (by kernel_rfl) (of_decide_eq_true (by kernel_rfl)) k1 bel lt1) trodAll_mk0)), rfl, bel.frame _, fun h => by cases h⟩

theorem said_SpreadEnough : Rows.SpreadEnoughSaid :=
  OpenClaim.holds_of_cond 6 Tryd.f6 rfl rfl rfl rfl rfl rfl rfl ⟨rfl, rfl, rfl, rfl, rfl⟩ rfl rfl rfl rfl rfl (by kernel_rfl) Tryd.func6 (by kernel_rfl)
    (of_decide_eq_true (by kernel_rfl)) (by unfold Func.isWrapper; first | (rw [if_pos (by decide +kernel)]; kernel_rfl) | (rw [if_neg (by decide +kernel)]; exact ⟨rfl, rfl⟩))
    (fun os started H enc _ F => by rw [OpenClaim.pre_eq_preRow]; exact lifted_SpreadEnough os started H enc F)

theorem plain_SpreadEnough (f : FuncId) (fn : Func) (hf : Tryd.pinned.checked.prog.funcNamed Rows.spreadEnoughRow.func = some f) (hfn : Tryd.pinned.checked.prog.funcs[f]? = some fn) :
    false = Tryd.pinned.checked.prog.looks [] ∧ ∀ (j : Nat) t, fn.params[j]? = some t → Tryd.pinned.checked.prog.wantsStandIn t = false := by
  obtain rfl : f = 6 := Option.some.inj ((show Tryd.prog.funcNamed Rows.spreadEnoughRow.func = some 6 by kernel_rfl).symm.trans hf) |>.symm
  obtain rfl : fn = Tryd.f6 := (Option.some.inj (Tryd.func6.symm.trans hfn)).symm
  refine ⟨by kernel_rfl, fun j t ht => ?_⟩
  rw [Tryd.params6] at ht
  have hm := Array.mem_of_getElem? ht
  simp only [List.mem_toArray, List.mem_cons, List.not_mem_nil, or_false] at hm
  rcases hm with rfl | rfl
  · exact (show Tryd.prog.wantsStandIn 24 = false by kernel_rfl)
  · exact (show Tryd.prog.wantsStandIn 25 = false by kernel_rfl)

/-- The statement. -/
theorem spreadEnough_holds : Rows.SpreadEnoughCardSaid :=
  Claim7.holds_tied_plain_at .later [] _ _ _ _ said_SpreadEnough (fun _ h => by cases h) (by kernel_rfl) (fun _ h => by cases h) spreadEnough_row_tie rfl ⟨rfl, rfl⟩ (by kernel_rfl) rfl plain_SpreadEnough (by kernel_rfl)
#print axioms spreadEnough_holds

end Go.Proofs.YtjknflpclniiiaaDoor

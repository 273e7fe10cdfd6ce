/-
  The contract of the reference's Bad.
-/
import Derived.Test.YtjknflpclniiiaaDoorSpread4
import Derived.Test.YtjknflpclniiiaaDoorRefFar
import Derived.Test.YtjknflpclniiiaaDoorRefBucket
import Derived.Test.YtjknflpclniiiaaDoorRefSort
import Derived.Test.YtjknflpclniiiaaDoorRefMayC
namespace Go.Proofs.YtjknflpclniiiaaDoor
open Go.RowKit

theorem infoKeyR : (Tryd.prog.info? 61).map (fun i => (i.zero, i.size, i.bytes)) = some (some (.agg #[.int .i64 0, .int .i64 0]), 2, 16) := by kernel_rfl
theorem mayRd_twice {L : List Rd} (i j : Nat) (hij : j < i) (hi : i < L.length) (h : (L.getD i noRd).id = (L.getD j noRd).id) : mayRd L = false := by
  rw [Bool.eq_false_iff]
  intro h2
  have h3 := ((mayRd_iff L).1 h2).2.2
  unfold List.Nodup at h3
  rw [List.pairwise_map, List.pairwise_iff_getElem] at h3
  have := h3 j i (by omega) hi hij
  apply this
  have e1 : L.getD i noRd = L[i] := by simp [hi]
  have e2 : L.getD j noRd = L[j]'(by omega) := by simp [show j < L.length by omega]
  rw [← e1, ← e2, h]
theorem mayRd_good {L : List Rd} (hl : L.length ≤ 64) (hb : ∀ i, i < L.length → mayBk (L.getD i noRd).b = true) (hd : ∀ i, i < L.length → ∀ j, j < i → (L.getD i noRd).id ≠ (L.getD j noRd).id) : mayRd L = true := by
  refine (mayRd_iff L).2 ⟨hl, fun x hx => ?_, ?_⟩
  · obtain ⟨i, hi, rfl⟩ := mem_getD hx noRd
    exact hb i hi
  · unfold List.Nodup
    rw [List.pairwise_map, List.pairwise_iff_getElem]
    intro j i hj hi hij h
    have e1 : L.getD i noRd = L[i] := by simp [hi]
    have e2 : L.getD j noRd = L[j] := by simp [hj]
    have := hd i hi j hij
    rw [e1, e2] at this
    exact this h.symm
theorem take_getD {α : Type} (l : List α) (d : α) {k j : Nat} (h : j < k) : (l.take k).getD j d = l.getD j d := by
  rw [List.getD_eq_getElem?_getD, List.getD_eq_getElem?_getD, List.getElem?_take, if_pos h]

/-- What the call owns stands while another block grows. -/
theorem own_apart {w w' : World} {base e sz n : Nat} {v : Value} {cs : List Value} {o : Option Nat} (h : w.ownsRow base e sz v n cs) (hg : w.grownBy w' o) (hne : ∀ q, v.ownBlock = some q → o ≠ some q) : w'.ownsRow base e sz v n cs := by
  refine ⟨h.1, ?_⟩
  rcases h.2 with h | ⟨g, cap, cur, h1, h2, h3, h4⟩
  · exact .inl h
  · obtain ⟨_, _, _, _, h5⟩ := hg
    exact .inr ⟨g, cap, cur, h1, h2, (h5 g (Array.getElem?_eq_some_iff.1 h3).1 (fun e => hne g (by rw [h1]; rfl) e.symm)).trans h3, h4⟩

set_option maxRecDepth 100000 in
set_option maxHeartbeats 8000000 in
theorem rBad_any (c : Cfg) (L : List Rd) (v : Value) (w : World) (hz : c.zone.size ≤ 9223372036854775807) (hv : IsRd w v L) :
    Calls Tryd.prog 13 #[.agg c.arr, v] w fun e w' => ∃ v', e = .returned v' ∧ IsInts w' v' (badL c L) ∧ Below w.heap.size w w' := by
  have HMayC : Hid (∀ W : World, Calls Tryd.prog 14 #[.agg c.arr] W fun e w' => e = .returned (.bool (mayC c)) ∧ Below W.heap.size W w') := fun W => rMay_any c W hz
  obtain ⟨ao, cap, rfl⟩ := hv.shaped
  have HL : Hid (IsRd w (.slice ao L.length cap) L) := hv
  have HI : Hid ((Tryd.prog.info? 24).map (·.size) = some c.arr.size) := arr_inf c
  have hmax := hv.row.2.1.1
  unfold maxLen at hmax
  clear hz hv
  by_cases h1 : mayC c = true
  rotate_left
  · have h1 := Bool.eq_false_iff.2 h1
    rw [h1] at HMayC
    rw [badL_no (.inl h1)]
    clear h1 HL
    generalize c.arr = cs at *
    go_enter Tryd.func13, Tryd.ntmps13
    go_upto_region 1 with fail
    generalize hW0 : w.alloc _ = W0
    have HC0 : Hid (HasBox W0 w.heap.size 24 cs) := by show HasBox _ _ _ _; rw [← hW0]; exact hasBox_new w _ _
    have HB0 : Hid (Below w.heap.size w W0) := by show Below _ _ _; rw [← hW0]; exact (Below.refl _ _).alloc (Nat.le_refl _) _
    clear hW0
    go_wp2_with (first | (refine wpList_load_bx rfl 24 (.tmp 2) rfl w.heap.size rfl 24 _ _ HC0.out Tryd.underlying24 rfl HI.out ?_) | fail)
    refine (HMayC.out _).mono ?_
    rintro e w1 ⟨rfl, hb⟩
    have HC1 : Hid (HasBox w1 w.heap.size 24 cs) := HC0.out.below hb
    have HB1 : Hid (Below w.heap.size w w1) := HB0.out.trans (hb.mono HB0.out.size)
    clear hb HB0 HC0 HMayC
    go_wp2
    go_ret
    exact ⟨_, rfl, isInts_none _, HB1.out⟩
  rw [h1] at HMayC
  by_cases h3 : 64 < L.length
  · have h3' : (64 : Int) < (L.length : Int) := by omega
    rw [badL_no (.inr (mayRd_long h3))]
    clear h1 h3 HL
    generalize c.arr = cs at *
    go_enter Tryd.func13, Tryd.ntmps13
    go_upto_region 1 with fail
    generalize hW0 : w.alloc _ = W0
    have HC0 : Hid (HasBox W0 w.heap.size 24 cs) := by show HasBox _ _ _ _; rw [← hW0]; exact hasBox_new w _ _
    have HB0 : Hid (Below w.heap.size w W0) := by show Below _ _ _; rw [← hW0]; exact (Below.refl _ _).alloc (Nat.le_refl _) _
    clear hW0
    go_wp2_with (first | (refine wpList_load_bx rfl 24 (.tmp 2) rfl w.heap.size rfl 24 _ _ HC0.out Tryd.underlying24 rfl HI.out ?_) | fail)
    refine (HMayC.out _).mono ?_
    rintro e w1 ⟨rfl, hb⟩
    have HC1 : Hid (HasBox w1 w.heap.size 24 cs) := HC0.out.below hb
    have HB1 : Hid (Below w.heap.size w w1) := HB0.out.trans (hb.mono HB0.out.size)
    clear hb HB0 HC0 HMayC
    go_wp2
    go_ret
    exact ⟨_, rfl, isInts_none _, HB1.out⟩
  have h3' : ¬ (64 : Int) < (L.length : Int) := by omega
  have HLen : Hid (L.length ≤ 64) := by show _ ≤ _; omega
  have b9 := may_num9 h1
  have b11 := may_num11 h1
  have b12 := may_num12 h1
  have HBadB : Hid (∀ k, k < L.length → mayBk (L.getD k noRd).b = false → badL c L = []) := fun k hk h => badL_no (.inr (mayRd_bad k hk h))
  have HBadT : Hid (∀ i j, j < i → i < L.length → (L.getD i noRd).id = (L.getD j noRd).id → badL c L = []) := fun i j hij hi h => badL_no (.inr (mayRd_twice i j hij hi h))
  have HGood : Hid ((∀ i, i < L.length → mayBk (L.getD i noRd).b = true) → (∀ i, i < L.length → ∀ j, j < i → (L.getD i noRd).id ≠ (L.getD j noRd).id) → badL c L = (sortV (keysB (enL L c.f10) (farOf (enL L c.f10) c.f9 c.f11) c.f12 (enL L c.f10).length)).map (·.2)) := fun h4 h5 => badL_yes h1 (mayRd_good (by omega) h4 h5)
  have HEl : Hid ((enL L c.f10).length ≤ 64) := Nat.le_trans (enL_length L c.f10) (by omega)
  have HFs : Hid (farOf (enL L c.f10) c.f9 c.f11 = if c.f11 = 0 ∨ ((enL L c.f10).length : Int) < c.f9 then List.replicate (enL L c.f10).length false else farA ((enL L c.f10).map fun x => rateK x.b) c.f11) := rfl
  have HFl : Hid ((farOf (enL L c.f10) c.f9 c.f11).length = (enL L c.f10).length) := farOf_length HEl.out b11.1 b11.2
  have HF0 : Hid (0 ≤ c.f11) := b11.1
  have HP : Hid (c.f12 ≤ 9223372036854775807) := by show _ ≤ _; omega
  have HZ9 : Hid (c.arr[9]? = some (.int .i64 c.f9)) := rfl
  have HZ10 : Hid (c.arr[10]? = some (.int .i64 c.f10)) := rfl
  have HZ11 : Hid (c.arr[11]? = some (.int .i64 c.f11)) := rfl
  have HZ12 : Hid (c.arr[12]? = some (.int .i64 c.f12)) := rfl
  clear h1 h3 b9 b11 b12
  generalize c.f10 = rq at *
  generalize c.f9 = hs at *
  generalize c.f11 = fa at *
  generalize c.f12 = p at *
  generalize c.arr = cs at *
  obtain ⟨i0, hi, hz0, hz1, hz2⟩ := info_parts infoKeyR
  obtain ⟨j0, ji, jz0, jz1, jz2⟩ := info_parts infoRated
  obtain ⟨k0, ki, kz0, kz1, kz2⟩ := info_parts infoNum
  go_enter Tryd.func13, Tryd.ntmps13
  go_upto_region 1 with fail
  generalize hW0 : w.alloc _ = W0
  have HC0 : Hid (HasBox W0 w.heap.size 24 cs) := by show HasBox _ _ _ _; rw [← hW0]; exact hasBox_new w _ _
  have HB0 : Hid (Below w.heap.size w W0) := by show Below _ _ _; rw [← hW0]; exact (Below.refl _ _).alloc (Nat.le_refl _) _
  clear hW0
  go_wp2_with (first | (refine wpList_load_bx rfl 24 (.tmp 2) rfl w.heap.size rfl 24 _ _ HC0.out Tryd.underlying24 rfl HI.out ?_) | fail)
  refine (HMayC.out _).mono ?_
  rintro e w1 ⟨rfl, hb⟩
  have HC1 : Hid (HasBox w1 w.heap.size 24 cs) := HC0.out.below hb
  have HB1 : Hid (Below w.heap.size w w1) := HB0.out.trans (hb.mono HB0.out.size)
  clear hb HB0 HC0 HMayC
  go_wp2
  clear h3' hmax
  go_loopw [5, 6, 28] (fun o r i wr => ∃ k : Nat, k ≤ L.length ∧ i = .int .i64 k ∧ (∀ i, i < k → mayBk (L.getD i noRd).b = true) ∧ (∀ i, i < k → ∀ j, j < i → (L.getD i noRd).id ≠ (L.getD j noRd).id) ∧
      wr.ownsRow w1.heap.size 39 3 o (enL (L.take k) rq).length (rdCells (enL (L.take k) rq)) ∧ wr.ownsRow w1.heap.size 3 1 r (enL (L.take k) rq).length (((enL (L.take k) rq).map fun x => rateK x.b).map (Value.int .i64)) ∧ (∀ q, o.ownBlock = some q → r.ownBlock ≠ some q) ∧ Below w1.heap.size w1 wr) (fun _ _ i _ => L.length - (intOf i).toNat)
  case atStart => exact ⟨0, Nat.zero_le _, rfl, by omega, by omega, World.ownsRow_nil _ _ _ _, World.ownsRow_nil _ _ _ _, (fun q h => by cases h), Below.refl _ _⟩
  case round =>
    obtain ⟨k, hk, rfl, hs1, hs2, ho, hr, hne, hb⟩ := hrel
    have HS1 : Hid (∀ i, i < k → mayBk (L.getD i noRd).b = true) := hs1
    have HS2 : Hid (∀ i, i < k → ∀ j, j < i → (L.getD i noRd).id ≠ (L.getD j noRd).id) := hs2
    have HO : Hid (wr.ownsRow w1.heap.size 39 3 u5 (enL (L.take k) rq).length (rdCells (enL (L.take k) rq))) := ho
    have HR : Hid (wr.ownsRow w1.heap.size 3 1 u6 (enL (L.take k) rq).length (((enL (L.take k) rq).map fun x => rateK x.b).map (Value.int .i64))) := hr
    have HNe : Hid (∀ q, u5.ownBlock = some q → u6.ownBlock ≠ some q) := hne
    have HB : Hid (Below w1.heap.size w1 wr) := hb
    clear hs1 hs2 ho hr hne hb
    have hlen := HLen.out
    have HLr : Hid (IsRd wr (.slice ao L.length cap) L) := (HL.out.below HB1.out).below HB.out
    by_cases hlt : k < L.length
    · obtain ⟨b, off, rfl, hbl, g0, g1, g2⟩ := HLr.out.at k hlt
      have HBb : Hid (mayBk (L.getD k noRd).b = false → badL c L = []) := HBadB.out k hlt
      have HBt : Hid (∀ j, j < k → (L.getD k noRd).id = (L.getD j noRd).id → badL c L = []) := fun j hj h => HBadT.out k j hj hlt h
      have HN1 : Hid (mayBk (L.getD k noRd).b = true → ∀ i, i < k + 1 → mayBk (L.getD i noRd).b = true) := fun h j hj => by
        by_cases e : j = k
        · subst e; exact h
        · exact HS1.out j (by omega)
      have HN2 : Hid ((∀ j, j < k → (L.getD k noRd).id ≠ (L.getD j noRd).id) → ∀ i, i < k + 1 → ∀ j, j < i → (L.getD i noRd).id ≠ (L.getD j noRd).id) := fun h i hi j hj => by
        by_cases e : i = k
        · subst e; exact h j hj
        · exact HS2.out i (by omega) j hj
      have HNe1 : Hid (enL (L.take (k + 1)) rq = enL (L.take k) rq ++ (if enoughK (L.getD k noRd).b rq = true then [L.getD k noRd] else [])) := enL_next L rq k hlt
      have HMay : Hid (∀ W : World, Calls Tryd.prog 17 #[bval (L.getD k noRd).b] W fun e w' => e = .returned (.bool (mayBk (L.getD k noRd).b)) ∧ Below W.heap.size W w') := rkMay_any _
      have HEn : Hid (∀ W : World, Calls Tryd.prog 15 #[bval (L.getD k noRd).b, .int .i64 rq] W fun e w' => e = .returned (.bool (enoughK (L.getD k noRd).b rq)) ∧ Below W.heap.size W w') := rkEnough_any _ rq
      have HRt : Hid (∀ W : World, Calls Tryd.prog 16 #[bval (L.getD k noRd).b] W fun e w' => e = .returned (.int .i64 (rateK (L.getD k noRd).b)) ∧ Below W.heap.size W w') := rkRate_any _
      have HEk : Hid ((enL (L.take k) rq).length ≤ 64) := by
        have := enL_length (L.take k) rq
        rw [List.length_take] at this
        show _ ≤ _; omega
      have HXk : Hid (L.getD k noRd = ⟨(L.getD k noRd).id, ⟨(L.getD k noRd).b.ok, (L.getD k noRd).b.all⟩⟩) := rfl
      have hcap : L.length ≤ cap ∧ cap ≤ maxLen := HLr.out.row.2.1.2
      unfold maxLen at hcap
      clear HS1 HS2 HBadB HBadT HGood
      generalize hX : L.getD k noRd = x at *
      obtain ⟨id, ok, all⟩ := x
      unfold bval bcells at HMay HEn HRt
      simp only at HMay HEn HRt HBb HBt HN1 HN2 HNe1 g0 g1 g2
      go_upto_region 8 with fail
      generalize hW2 : wr.alloc _ = W2
      have HI2 : Hid (HasBox W2 wr.heap.size 39 #[.int .i64 id, .int .i64 ok, .int .i64 all]) := by show HasBox _ _ _ _; rw [← hW2]; exact hasBox_new wr _ _
      have HB2 : Hid (Below w1.heap.size w1 W2) := by show Below _ _ _; rw [← hW2]; exact HB.out.alloc HB.out.size _
      have HO2 : Hid (W2.ownsRow w1.heap.size 39 3 u5 (enL (L.take k) rq).length (rdCells (enL (L.take k) rq))) := by show World.ownsRow _ _ _ _ _ _ _; rw [← hW2]; exact HO.out.alloc _
      have HR2 : Hid (W2.ownsRow w1.heap.size 3 1 u6 (enL (L.take k) rq).length (((enL (L.take k) rq).map fun x => rateK x.b).map (Value.int .i64))) := by show World.ownsRow _ _ _ _ _ _ _; rw [← hW2]; exact HR.out.alloc _
      have HLt : Hid (IsRd W2 (.slice (some ⟨b, off, none⟩) k cap) (L.take k)) := by show IsRd _ _ _; rw [← hW2]; exact (HLr.out.take k (by omega)).below ((Below.refl _ _).alloc (Nat.le_refl _) _)
      have HOl : Hid (∀ q, u5.ownBlock = some q → q < wr.heap.size) := fun q hq => (HO.out.lt q hq).2
      have HRl : Hid (∀ q, u6.ownBlock = some q → q < wr.heap.size) := fun q hq => (HR.out.lt q hq).2
      clear hW2 HO HR HB HLr g0 g1 g2 hbl
      generalize wr.heap.size = tb at HI2 HOl HRl ⊢
      have hk1 : (k : Int) ≤ (cap : Int) := by omega
      have hk2 : (k : Int) ≤ (L.length : Int) := by omega
      go_wp2
      clear hk1 hk2 hcap
      go_loopw [37] (fun i wi => ∃ j : Nat, j ≤ k ∧ i = .int .i64 j ∧ (∀ m, m < j → id ≠ (L.getD m noRd).id) ∧ Below W2.heap.size W2 wi) (fun i _ => k - (intOf i).toNat)
      case atStart => exact ⟨0, Nat.zero_le _, rfl, by omega, Below.refl _ _⟩
      case round =>
        obtain ⟨j, hj, rfl, hd, hbi⟩ := hrel
        have HD : Hid (∀ m, m < j → id ≠ (L.getD m noRd).id) := hd
        have HBi : Hid (Below W2.heap.size W2 wr) := hbi
        have HI3 : Hid (HasBox wr tb 39 #[.int .i64 id, .int .i64 ok, .int .i64 all]) := HI2.out.below hbi
        clear hd hbi
        by_cases hjk : j < k
        · obtain ⟨b2, o2, e2, hbl2, q0, q1, q2⟩ := (HLt.out.below HBi.out).at j (by rw [List.length_take]; omega)
          simp only [Option.some.injEq, Addr.mk.injEq] at e2
          obtain ⟨rfl, rfl, _⟩ := e2
          rw [take_getD L noRd hjk] at q0 q1 q2
          have HBj : Hid (id = (L.getD j noRd).id → badL c L = []) := HBt.out j hjk
          have HDn : Hid (id ≠ (L.getD j noRd).id → ∀ m, m < j + 1 → id ≠ (L.getD m noRd).id) := fun h m hm => by
            by_cases e : m = j
            · subst e; exact h
            · exact HD.out m (by omega)
          generalize L.getD j noRd = z at *
          obtain ⟨zi, zo, za⟩ := z
          simp only at q0 q1 q2 HBj HDn
          have c0 : wr.cell? ⟨tb, 0, none⟩ = some (.int .i64 id) := HI3.out.cell 0
          have htb : tb < wr.heap.size := HI3.out.lt
          by_cases e : id = zi
          · have e' : (id == zi) = true := by simp [e]
            have HE : Hid (badL c L = []) := HBj.out e
            have HBe : Hid (Below w.heap.size w wr) := HB1.out.trans ((HB2.out.trans (HBi.out.mono HB2.out.size)).mono HB1.out.size)
            clear e HBj HDn
            go_wp2
            go_ret
            exact ⟨_, rfl, by rw [HE.out]; exact isInts_none _, HBe.out.alloc HBe.out.size _⟩
          · have e' : (id == zi) = false := by simp [e]
            have HDn2 : Hid _ := HDn.out e
            clear e HBj HDn
            go_wp2
            go_roundw
            case rel => exact ⟨j + 1, by omega, by go_num, HDn2.out, HBi.out.alloc HBi.out.size _⟩
            case measure => simp [intOf]; omega
        · obtain rfl : j = k := by omega
          have HN3 : Hid _ := HN2.out HD.out
          have HO3 : Hid (wr.ownsRow w1.heap.size 39 3 u5 (enL (L.take j) rq).length (rdCells (enL (L.take j) rq))) := own_below HO2.out HBi.out
          have HR3 : Hid (wr.ownsRow w1.heap.size 3 1 u6 (enL (L.take j) rq).length (((enL (L.take j) rq).map fun x => rateK x.b).map (Value.int .i64))) := own_below HR2.out HBi.out
          have HB3 : Hid (Below w1.heap.size w1 wr) := HB2.out.trans (HBi.out.mono HB2.out.size)
          clear HN2 HD HBt HO2 HR2 HB2 HI2 HBi HLt
          have c1 : wr.cell? ⟨tb, 1, none⟩ = some (.int .i64 ok) := HI3.out.cell 1
          have c2 : wr.cell? ⟨tb, 2, none⟩ = some (.int .i64 all) := HI3.out.cell 2
          generalize mayBk ⟨ok, all⟩ = mb at *
          go_wp2_with fail
          refine (HMay.out _).mono ?_
          rintro e w4 ⟨rfl, hb4⟩
          have HO4 : Hid (w4.ownsRow w1.heap.size 39 3 u5 (enL (L.take j) rq).length (rdCells (enL (L.take j) rq))) := own_below HO3.out hb4
          have HR4 : Hid (w4.ownsRow w1.heap.size 3 1 u6 (enL (L.take j) rq).length (((enL (L.take j) rq).map fun x => rateK x.b).map (Value.int .i64))) := own_below HR3.out hb4
          have HB4 : Hid (Below w1.heap.size w1 w4) := HB3.out.trans (hb4.mono HB3.out.size)
          have HI4 : Hid (HasBox w4 tb 39 #[.int .i64 id, .int .i64 ok, .int .i64 all]) := HI3.out.below hb4
          clear hb4 HO3 HR3 HB3 HI3 c1 c2 HMay
          cases mb with
          | false =>
            have HE : Hid (badL c L = []) := HBb.out (by trivial)
            go_wp2
            go_ret
            exact ⟨_, rfl, by rw [HE.out]; exact isInts_none _, HB1.out.trans (HB4.out.mono HB1.out.size)⟩
          | true =>
            have HN4 : Hid _ := HN1.out (by trivial)
            clear HN1 HBb
            have c1 : w4.cell? ⟨tb, 1, none⟩ = some (.int .i64 ok) := HI4.out.cell 1
            have c2 : w4.cell? ⟨tb, 2, none⟩ = some (.int .i64 all) := HI4.out.cell 2
            have g10 : w4.cell? ⟨w.heap.size, 10, none⟩ = some (.int .i64 rq) := ((HC1.out.below HB4.out).cell 10).trans HZ10.out
            generalize enoughK ⟨ok, all⟩ rq = en at *
            go_wp2_with fail
            refine (HEn.out _).mono ?_
            rintro e w3 ⟨rfl, hb3⟩
            have HO3 : Hid (w3.ownsRow w1.heap.size 39 3 u5 (enL (L.take j) rq).length (rdCells (enL (L.take j) rq))) := own_below HO4.out hb3
            have HR3 : Hid (w3.ownsRow w1.heap.size 3 1 u6 (enL (L.take j) rq).length (((enL (L.take j) rq).map fun x => rateK x.b).map (Value.int .i64))) := own_below HR4.out hb3
            have HB3 : Hid (Below w1.heap.size w1 w3) := HB4.out.trans (hb3.mono HB4.out.size)
            have HI3 : Hid (HasBox w3 tb 39 #[.int .i64 id, .int .i64 ok, .int .i64 all]) := HI4.out.below hb3
            clear hb3 HO4 HR4 HB4 HI4 c1 c2 g10 HEn
            cases en with
            | false =>
              have HNe2 : Hid (enL (L.take (j + 1)) rq = enL (L.take j) rq) := by have := HNe1.out; rwa [if_neg (by simp), List.append_nil] at this
              clear HNe1
              go_wp2
              go_roundw
              case rel => exact ⟨j + 1, by omega, by go_num, HN4.out, HN3.out, by rw [HNe2.out]; exact HO3.out, by rw [HNe2.out]; exact HR3.out, HNe.out, HB3.out⟩
              case measure => simp [intOf]; omega
            | true =>
              have HNe2 : Hid (enL (L.take (j + 1)) rq = enL (L.take j) rq ++ [⟨id, ⟨ok, all⟩⟩]) := by have := HNe1.out; rwa [if_pos rfl] at this
              clear HNe1
              generalize hE2 : enL (L.take (j + 1)) rq = E2 at *
              generalize enL (L.take j) rq = E1 at *
              have c0 : w3.cell? ⟨tb, 0, none⟩ = some (.int .i64 id) := HI3.out.cell 0
              have c1 : w3.cell? ⟨tb, 1, none⟩ = some (.int .i64 ok) := HI3.out.cell 1
              have c2 : w3.cell? ⟨tb, 2, none⟩ = some (.int .i64 all) := HI3.out.cell 2
              have htb : tb < w3.heap.size := HI3.out.lt
              obtain ⟨y, hY⟩ : ∃ y, rateK ⟨ok, all⟩ = y := ⟨_, rfl⟩
              rw [hY] at HRt
              have HY : Hid _ := hY
              clear hY
              have hek := HEk.out
              go_wp2
              go_region_held3 (fun W => W.cell? ⟨tb, 0, none⟩ = some (.int .i64 id) ∧ W.cell? ⟨tb, 1, none⟩ = some (.int .i64 ok) ∧ W.cell? ⟨tb, 2, none⟩ = some (.int .i64 all)) (first | (exact ⟨HI7.out.cell 0, HI7.out.cell 1, HI7.out.cell 2⟩) | (exact ⟨HI6.out.cell 0, HI6.out.cell 1, HI6.out.cell 2⟩) | (exact ⟨HI5.out.cell 0, HI5.out.cell 1, HI5.out.cell 2⟩) | go_keep) (first
                | ((have := HR6; refine step_append_row (by rfl) (.tmp 60) (.tmp 64) 22 (by rfl) w1.heap.size 3 k0 _ 1 8 Tryd.underlying22 ki kz0 kz1 kz2 (by rfl) (by decide) _ E1.length _ (by rfl) (HR6.out.alloc _) _ 1 [.int .i64 y] (by rfl) (one_val _ _ _ _ (by simp)) (by simp [Value.oneCell']) (by unfold maxLen; omega) (by omega) (by have := HB6.out.size; simp; omega) ?_; intro v7 w7 hown7 hgrow7 hat7; have HR7 : Hid (w7.ownsRow w1.heap.size 3 1 v7 (E1.length + 1) ((E1.map fun x => rateK x.b).map (Value.int .i64) ++ [.int .i64 y])) := hown7; have HB7 : Hid (Below w1.heap.size w1 w7) := (HB6.out.alloc HB6.out.size _).grown hgrow7 (by have := HB6.out.size; simp; omega) (own_base HR6.out); have HI7 : Hid (HasBox w7 tb 39 #[.int .i64 id, .int .i64 ok, .int .i64 all]) := (HI6.out.alloc _).grown hgrow7 (fun h => by have := HRl.out tb h.symm; omega); have HO7 : Hid (w7.ownsRow w1.heap.size 39 3 v5 (E1.length + 1) (rdCells E1 ++ rdCells [⟨id, ⟨ok, all⟩⟩])) := own_apart (HO6.out.alloc _) hgrow7 HA5.out; have HA7 : Hid (∀ q, v5.ownBlock = some q → v7.ownBlock ≠ some q) := (fun q hq h => by rcases hat7 with e | e; exact HA5.out q hq (by rw [← e]; exact h); (have h1 := (HO6.out.lt q hq).2; rw [e] at h; simp at h; omega)); clear hown7 hgrow7 hat7))
                | ((go_at_call 16; refine (HRt.out _).mono ?_; rintro e w6 ⟨rfl, hb6⟩; have HO6 : Hid (w6.ownsRow w1.heap.size 39 3 v5 (E1.length + 1) (rdCells E1 ++ rdCells [⟨id, ⟨ok, all⟩⟩])) := own_below HO5.out hb6; have HR6 : Hid (w6.ownsRow w1.heap.size 3 1 u6 E1.length ((E1.map fun x => rateK x.b).map (Value.int .i64))) := own_below HR5.out hb6; have HI6 : Hid (HasBox w6 tb 39 #[.int .i64 id, .int .i64 ok, .int .i64 all]) := HI5.out.below hb6; have HB6 : Hid (Below w1.heap.size w1 w6) := HB5.out.trans (hb6.mono HB5.out.size); clear hb6))
                | ((refine step_append_row (by rfl) (.tmp 56) (.tmp 58) 25 (by rfl) w1.heap.size 39 j0 _ 3 24 Tryd.underlying25 ji jz0 jz1 jz2 (by rfl) (by decide) _ E1.length _ (by rfl) (HO3.out.drew.alloc _) _ 1 (rdCells [⟨id, ⟨ok, all⟩⟩]) (by rfl) (one_rd _ ⟨id, ⟨ok, all⟩⟩ _ _ (by simp)) (rdCells_one _) (by unfold maxLen; omega) (by omega) (by have := HB3.out.size; simp; omega) ?_; intro v5 w5 hown5 hgrow5 hat5; have HO5 : Hid (w5.ownsRow w1.heap.size 39 3 v5 (E1.length + 1) (rdCells E1 ++ rdCells [⟨id, ⟨ok, all⟩⟩])) := hown5; have HB5 : Hid (Below w1.heap.size w1 w5) := (HB3.out.drew.alloc HB3.out.size _).grown hgrow5 (by have := HB3.out.size; simp; omega) (own_base HO3.out); have HI5 : Hid (HasBox w5 tb 39 #[.int .i64 id, .int .i64 ok, .int .i64 all]) := HasBox.grown ((HI3.out.below (Below.refl _ _).drew).alloc _) hgrow5 (fun h => by have := HOl.out tb h.symm; omega); have HR5 : Hid (w5.ownsRow w1.heap.size 3 1 u6 E1.length ((E1.map fun x => rateK x.b).map (Value.int .i64))) := own_apart (HR3.out.drew.alloc _) hgrow5 (fun q hq h => HNe.out q h hq); have HA5 : Hid (∀ q, v5.ownBlock = some q → u6.ownBlock ≠ some q) := (fun q hq h => by rcases hat5 with e | e; exact HNe.out q (by rw [← e]; exact hq) h; (have h1 := HRl.out q h; rw [e] at hq; simp at hq; omega)); clear hown5 hgrow5 hat5)))
              go_wp2
              have HO8 : Hid (w7.ownsRow w1.heap.size 39 3 v5 E2.length (rdCells E2)) := by
                show World.ownsRow _ _ _ _ _ _ _
                rw [HNe2.out, rdCells_append, List.length_append]; exact HO7.out
              have HR8 : Hid (w7.ownsRow w1.heap.size 3 1 v7 E2.length ((E2.map fun x => rateK x.b).map (Value.int .i64))) := by
                show World.ownsRow _ _ _ _ _ _ _
                rw [HNe2.out, List.length_append, List.map_append, List.map_append]
                have := HR7.out
                rw [← HY.out] at this
                exact this
              clear HO7 HR7
              go_roundw
              case rel => exact ⟨j + 1, by omega, by go_num, HN4.out, HN3.out, by rw [hE2]; exact HO8.out, by rw [hE2]; exact HR8.out, HA7.out, HB7.out⟩
              case measure => simp [intOf]; omega
    · obtain rfl : k = L.length := by omega
      rw [List.take_of_length_le (Nat.le_refl _)] at HO HR
      have HG : Hid _ := HGood.out HS1.out HS2.out
      have HEo : Hid (∀ x ∈ enL L rq, inRd x) := enL_in HL.out.ok rq
      clear HGood HBadB HBadT HS1 HS2 HNe
      generalize enL L rq = E at *
      have HErd : Hid (IsRd wr u5 E) := own_rd HO.out rfl HEo.out
      have HRi : Hid (IsInts wr u6 (E.map fun x => rateK x.b)) := isInts_own HR.out (by rw [List.length_map]) (by rw [List.length_map]; have := HEl.out; omega) (fun x hx => by have := rates_ok E x hx; omega)
      clear HO HR HEo
      obtain ⟨eo, ec, rfl⟩ := HErd.out.shaped
      obtain ⟨ro, rc, rfl⟩ := HRi.out.shape
      rw [List.length_map] at HRi
      rw [List.length_map]
      have hel := HEl.out
      have hm := run_make_flat (P := Tryd.prog) 28 4 (.bool false) (.bool false) 1 1 Tryd.underlying28 infoBool rfl (by omega) E.length (by omega) (by omega)
      have HF : Hid (∀ (W : World) (g : Nat), HasBox W g 4 (Array.replicate E.length (Value.bool false)) → IsBools W (.slice (some ⟨g, 0, none⟩) E.length E.length) (List.replicate E.length false)) := fun W g hg => by
        have := bools_box (l := List.replicate E.length false) (by rw [List.map_replicate]; simpa using hg) (by have := HEl.out; simp; omega)
        rwa [List.length_replicate] at this
      have g9 : wr.cell? ⟨w.heap.size, 9, none⟩ = some (.int .i64 hs) := ((HC1.out.below HB.out).cell 9).trans HZ9.out
      have g11 : wr.cell? ⟨w.heap.size, 11, none⟩ = some (.int .i64 fa) := ((HC1.out.below HB.out).cell 11).trans HZ11.out
      have hLt : w.heap.size < wr.heap.size := (HC1.out.below HB.out).lt
      have HBw : Hid (Below w.heap.size w wr) := HB1.out.trans (HB.out.mono HB1.out.size)
      have HCw : Hid (HasBox wr w.heap.size 24 cs) := HC1.out.below HB.out
      clear HB HB1 HC1 hlt
      by_cases f0 : fa = 0
      · have HFe : Hid (farOf E hs fa = List.replicate E.length false) := by have := HFs.out; rwa [if_pos (.inl f0)] at this
        have f0' : ¬ 0 < fa := by omega
        clear f0 HFs HF0
        go_upto_region 22 with fail
        generalize hWB : World.alloc _ _ = wB
        have HE6 : IsRd wB (.slice eo E.length ec) E := by rw [← hWB]; exact HErd.out.below ((Below.refl _ _).alloc (Nat.le_refl _) _)
        have HR6 : IsInts wB (.slice ro E.length rc) (E.map fun x => rateK x.b) := by rw [← hWB]; exact HRi.out.below ((Below.refl _ _).alloc (Nat.le_refl _) _)
        have HF6 : IsBools wB (.slice (some ⟨wr.heap.size, 0, none⟩) E.length E.length) (farOf E hs fa) := by rw [HFe.out]; exact HF.out _ _ (by rw [← hWB]; exact hasBox_new wr _ _)
        have HC6 : HasBox wB w.heap.size 24 cs := by rw [← hWB]; exact HCw.out.alloc _
        have HB6 : Below w.heap.size w wB := by rw [← hWB]; exact HBw.out.alloc HBw.out.size _
        clear hWB HErd HRi HF HFe HCw HBw g9 g11 hLt f0' hm
        generalize farOf E hs fa = F at *
        generalize (some ⟨wr.heap.size, 0, none⟩ : Option Addr) = fo at HF6 ⊢
        have HEb : Hid (IsRd wB (.slice eo E.length ec) E) := HE6
        have HRb : Hid (IsInts wB (.slice ro E.length rc) (E.map fun x => rateK x.b)) := HR6
        have HFb : Hid (IsBools wB (.slice fo E.length E.length) F) := HF6
        have HCb : Hid (HasBox wB w.heap.size 24 cs) := HC6
        have HBb : Hid (Below w.heap.size w wB) := HB6
        clear HE6 HR6 HF6 HC6 HB6
        have hel := HEl.out
        go_wp2
        clear hel
        go_loopw [12, 86] (fun o i wr => ∃ k : Nat, k ≤ E.length ∧ i = .int .i64 k ∧ wr.ownsRow wB.heap.size 61 2 o (keysB E F p k).length (keyCells (keysB E F p k)) ∧ Below wB.heap.size wB wr) (fun _ i _ => E.length - (intOf i).toNat)
        case atStart => exact ⟨0, Nat.zero_le _, rfl, World.ownsRow_nil _ _ _ _, Below.refl _ _⟩
        case round =>
          obtain ⟨k, hk, rfl, ho, hb⟩ := hrel
          have HO : Hid (wr.ownsRow wB.heap.size 61 2 u12 (keysB E F p k).length (keyCells (keysB E F p k))) := ho
          have HB : Hid (Below wB.heap.size wB wr) := hb
          clear ho hb
          have hel := HEl.out
          by_cases hlt : k < E.length
          · obtain ⟨b, off, rfl, hbl, g0, g1, g2⟩ := (HEb.out.below HB.out).at k hlt
            obtain ⟨fb, foff, rfl, hfb, gf⟩ := (HFb.out.below HB.out).at k (by rw [HFl.out]; exact hlt)
            obtain ⟨rb, roff, rfl, hrbw, gr⟩ := HRb.out.hit k (by rw [List.length_map]; exact hlt)
            have HN : Hid (keysB E F p (k + 1) = keysB E F p k ++ (if (F.getD k false || failK (E.getD k noRd).b p) = true then [(rateK (E.getD k noRd).b, (E.getD k noRd).id)] else [])) := keysB_next E F p k
            have HFi : Hid (∀ W : World, Calls Tryd.prog 18 #[bval (E.getD k noRd).b, .int .i64 p] W fun e w' => e = .returned (.bool (failK (E.getD k noRd).b p)) ∧ Below W.heap.size W w') := rkFail_any _ p HP.out
            have er : (E.map fun x => rateK x.b).getD k 0 = rateK (E.getD k noRd).b := by simp [hlt]
            rw [er] at gr
            have HGr : Hid (∀ W, Below wB.heap.size wB W → W.cell? ⟨rb, roff + k, none⟩ = some (.int .i64 (rateK (E.getD k noRd).b))) := fun W h => (h.cell (p := ⟨rb, roff + k, none⟩) hrbw).trans gr
            clear gr er
            generalize E.getD k noRd = x at *
            generalize F.getD k false = y0 at *
            obtain ⟨id, ok, all⟩ := x
            unfold bval bcells at HFi
            simp only at HFi HN HGr g0 g1 g2
            have g12 : wr.cell? ⟨w.heap.size, 12, none⟩ = some (.int .i64 p) := ((HCb.out.below HB.out).cell 12).trans HZ12.out
            have hLt : w.heap.size < wr.heap.size := (HCb.out.below HB.out).lt
            cases y0 with
            | true =>
              go_upto_region 27 with fail
              generalize hW1 : wr.alloc _ = W1
              have HI1 : Hid (HasBox W1 wr.heap.size 39 #[.int .i64 id, .int .i64 ok, .int .i64 all]) := by show HasBox _ _ _ _; rw [← hW1]; exact hasBox_new wr _ _
              have HB1 : Hid (Below wB.heap.size wB W1) := by show Below _ _ _; rw [← hW1]; exact HB.out.alloc HB.out.size _
              have HO1 : Hid (W1.ownsRow wB.heap.size 61 2 u12 (keysB E F p k).length (keyCells (keysB E F p k))) := by show World.ownsRow _ _ _ _ _ _ _; rw [← hW1]; exact HO.out.alloc _
              clear hW1 g0 g1 g2 gf hbl hfb g12 hLt HFi
              have HNk : Hid (keysB E F p (k + 1) = keysB E F p k ++ [(rateK ⟨ok, all⟩, id)]) := by have := HN.out; rwa [Bool.true_or, if_pos rfl] at this
              have HNe : Hid (some wr.heap.size ≠ u12.ownBlock) := fun h => by have := (HO.out.lt wr.heap.size h.symm).2; omega
              have HKl : Hid ((keysB E F p k).length ≤ 64) := by have := keysB_length E F p k; have := HEl.out; show _ ≤ _; omega
              clear HN HO HB
              generalize hK2 : keysB E F p (k + 1) = K2 at *
              generalize keysB E F p k = K1 at *
              generalize rateK ⟨ok, all⟩ = y at *
              generalize wr.heap.size = tb at *
              have c0 : W1.cell? ⟨tb, 0, none⟩ = some (.int .i64 id) := HI1.out.cell 0
              have cr : W1.cell? ⟨rb, roff + k, none⟩ = some (.int .i64 y) := HGr.out _ HB1.out
              have hrbl : rb < W1.heap.size := Nat.lt_of_lt_of_le hrbw HB1.out.size
              have hkl := HKl.out
              have n1 : (k : Int) < (E.length : Int) := by omega
              have n2 : (0 : Int) ≤ (k : Int) := by omega
              go_wp2
              go_region_held3 (fun W => W.cell? ⟨tb, 0, none⟩ = some (.int .i64 id) ∧ W.cell? ⟨rb, roff + k, none⟩ = some (.int .i64 y)) (first | (exact ⟨HI5.out.cell 0, HGr.out _ HB5.out⟩) | go_keep) (first
                | ((refine step_append_row (by rfl) (.tmp 102) (.tmp 110) 60 (by rfl) wB.heap.size 61 i0 _ 2 16 Tryd.underlying60 hi hz0 hz1 hz2 (by rfl) (by decide) _ K1.length _ (by rfl) (HO1.out.drew.alloc _) _ 1 (keyCells [(y, id)]) (by rfl) (one_key _ (y, id) _ _ (by simp)) (keyCells_one _) (by unfold maxLen; omega) (by omega) (by have := HB1.out.size; simp; omega) ?_; intro v2 w2 hown2 hgrow2 hat2; have HO5 : Hid (w2.ownsRow wB.heap.size 61 2 v2 (K1.length + 1) (keyCells K1 ++ keyCells [(y, id)])) := hown2; have HB5 : Hid (Below wB.heap.size wB w2) := (HB1.out.drew.alloc HB1.out.size _).grown hgrow2 (by have := HB1.out.size; simp; omega) (own_base HO1.out); have HI5 : Hid (HasBox w2 tb 39 #[.int .i64 id, .int .i64 ok, .int .i64 all]) := HasBox.grown ((HI1.out.below (Below.refl _ _).drew).alloc _) hgrow2 HNe.out; clear hown2 hgrow2 hat2)))
              go_wp2
              have HO6 : Hid (w2.ownsRow wB.heap.size 61 2 v2 K2.length (keyCells K2)) := by
                show World.ownsRow _ _ _ _ _ _ _
                rw [HNk.out, keyCells_append, List.length_append]; exact HO5.out
              clear HO5
              go_roundw
              case rel => exact ⟨k + 1, by omega, by go_num, by rw [hK2]; exact HO6.out, HB5.out⟩
              case measure => simp [intOf]; omega
            | false =>
              generalize failK ⟨ok, all⟩ p = y1 at *
              go_wp2_with fail
              refine (HFi.out _).mono ?_
              rintro e W1 ⟨rfl, hb⟩
              have HI1 : Hid (HasBox W1 wr.heap.size 39 #[.int .i64 id, .int .i64 ok, .int .i64 all]) := (hasBox_new wr _ _).below hb
              have HB1 : Hid (Below wB.heap.size wB W1) := HB.out.trans (((Below.refl _ _).alloc (Nat.le_refl _) _).trans (hb.mono (by simp)) |>.mono HB.out.size)
              have HO1 : Hid (W1.ownsRow wB.heap.size 61 2 u12 (keysB E F p k).length (keyCells (keysB E F p k))) := own_below (HO.out.alloc _) hb
              clear hb g0 g1 g2 gf hbl hfb g12 hLt HFi
              cases y1 with
              | false =>
                have HNk : Hid (keysB E F p (k + 1) = keysB E F p k) := by have := HN.out; rwa [Bool.false_or, if_neg (by simp), List.append_nil] at this
                clear HN HO HB
                go_wp2
                go_roundw
                case rel => exact ⟨k + 1, by omega, by go_num, by rw [HNk.out]; exact HO1.out, HB1.out⟩
                case measure => simp [intOf]; omega
              | true =>
                have HNk : Hid (keysB E F p (k + 1) = keysB E F p k ++ [(rateK ⟨ok, all⟩, id)]) := by have := HN.out; rwa [Bool.false_or, if_pos rfl] at this
                have HNe : Hid (some wr.heap.size ≠ u12.ownBlock) := fun h => by have := (HO.out.lt wr.heap.size h.symm).2; omega
                have HKl : Hid ((keysB E F p k).length ≤ 64) := by have := keysB_length E F p k; have := HEl.out; show _ ≤ _; omega
                clear HN HO HB
                generalize hK2 : keysB E F p (k + 1) = K2 at *
                generalize keysB E F p k = K1 at *
                generalize rateK ⟨ok, all⟩ = y at *
                generalize wr.heap.size = tb at *
                have c0 : W1.cell? ⟨tb, 0, none⟩ = some (.int .i64 id) := HI1.out.cell 0
                have cr : W1.cell? ⟨rb, roff + k, none⟩ = some (.int .i64 y) := HGr.out _ HB1.out
                have hrbl : rb < W1.heap.size := Nat.lt_of_lt_of_le hrbw HB1.out.size
                have hkl := HKl.out
                have n1 : (k : Int) < (E.length : Int) := by omega
                have n2 : (0 : Int) ≤ (k : Int) := by omega
                go_wp2
                go_region_held3 (fun W => W.cell? ⟨tb, 0, none⟩ = some (.int .i64 id) ∧ W.cell? ⟨rb, roff + k, none⟩ = some (.int .i64 y)) (first | (exact ⟨HI5.out.cell 0, HGr.out _ HB5.out⟩) | go_keep) (first
                  | ((refine step_append_row (by rfl) (.tmp 102) (.tmp 110) 60 (by rfl) wB.heap.size 61 i0 _ 2 16 Tryd.underlying60 hi hz0 hz1 hz2 (by rfl) (by decide) _ K1.length _ (by rfl) (HO1.out.drew.alloc _) _ 1 (keyCells [(y, id)]) (by rfl) (one_key _ (y, id) _ _ (by simp)) (keyCells_one _) (by unfold maxLen; omega) (by omega) (by have := HB1.out.size; simp; omega) ?_; intro v2 w2 hown2 hgrow2 hat2; have HO5 : Hid (w2.ownsRow wB.heap.size 61 2 v2 (K1.length + 1) (keyCells K1 ++ keyCells [(y, id)])) := hown2; have HB5 : Hid (Below wB.heap.size wB w2) := (HB1.out.drew.alloc HB1.out.size _).grown hgrow2 (by have := HB1.out.size; simp; omega) (own_base HO1.out); have HI5 : Hid (HasBox w2 tb 39 #[.int .i64 id, .int .i64 ok, .int .i64 all]) := HasBox.grown ((HI1.out.below (Below.refl _ _).drew).alloc _) hgrow2 HNe.out; clear hown2 hgrow2 hat2)))
                go_wp2
                have HO6 : Hid (w2.ownsRow wB.heap.size 61 2 v2 K2.length (keyCells K2)) := by
                  show World.ownsRow _ _ _ _ _ _ _
                  rw [HNk.out, keyCells_append, List.length_append]; exact HO5.out
                clear HO5
                go_roundw
                case rel => exact ⟨k + 1, by omega, by go_num, by rw [hK2]; exact HO6.out, HB5.out⟩
                case measure => simp [intOf]; omega
          · obtain rfl : k = E.length := by omega
            have hkl := keysB_length E F p E.length
            have HKs : Hid (IsKeys wr u12 (keysB E F p E.length)) := isKeys_own HO.out rfl (by omega) (fun q hq => by
              obtain ⟨i, hi, rfl⟩ := keysB_mem hq
              exact inRd_key (HEb.out.in i hi))
            have HKl : Hid ((keysB E F p E.length).length ≤ 64) := by show _ ≤ _; omega
            have HB7 : Hid (Below w.heap.size w wr) := HBb.out.trans (HB.out.mono HBb.out.size)
            clear HO HB hkl
            generalize keysB E F p E.length = K at *
            go_wp2_with fail
            refine (refSort_any K _ _ HKs.out (by have := HKl.out; omega)).mono ?_
            rintro e w7 ⟨v7, rfl, hk7, hb7⟩
            have HK7 : Hid (IsKeys w7 v7 (sortV K)) := hk7
            have HB8 : Hid (Below w.heap.size w w7) := HB7.out.trans (hb7.mono HB7.out.size)
            have HSl : Hid ((sortV K).length ≤ 64) := by show _ ≤ _; rw [sortV_length]; exact HKl.out
            clear hk7 hb7 HB7 HKs HKl
            obtain ⟨so, sc, rfl⟩ := HK7.out.shape
            have HFin : Hid (badL c L = (sortV K).map (·.2)) := HG.out
            clear HG
            generalize sortV K = S at *
            have hsl := HSl.out
            go_wp2
            clear hsl
            go_loopw [15, 116] (fun o i wr => ∃ k : Nat, k ≤ S.length ∧ i = .int .i64 k ∧ wr.ownsRow w7.heap.size 3 1 o k (((S.take k).map (·.2)).map (Value.int .i64)) ∧ Below w7.heap.size w7 wr) (fun _ i _ => S.length - (intOf i).toNat)
            case atStart => exact ⟨0, Nat.zero_le _, rfl, World.ownsRow_nil _ _ _ _, Below.refl _ _⟩
            case round =>
              obtain ⟨k, hk, rfl, ho, hb⟩ := hrel
              have HO : Hid (wr.ownsRow w7.heap.size 3 1 u15 k (((S.take k).map (·.2)).map (Value.int .i64))) := ho
              have HB : Hid (Below w7.heap.size w7 wr) := hb
              clear ho hb
              have hsl := HSl.out
              by_cases hlt : k < S.length
              · rcases (HK7.out.below HB.out).2.2 with ⟨h0, _⟩ | ⟨_, b1, o1, c1', e1, hlt1, hc1⟩
                · rw [h0] at hlt; simp at hlt
                simp only [Value.slice.injEq] at e1
                obtain ⟨rfl, _, rfl⟩ := e1
                obtain ⟨g1, g2⟩ := hc1 k hlt
                clear hc1
                have HN : Hid (((S.take (k + 1)).map (·.2)).map (Value.int .i64) = ((S.take k).map (·.2)).map (Value.int .i64) ++ [.int .i64 (S.getD k (0, 0)).2]) := by
                  show _ = _
                  rw [take_next S k hlt (0, 0)]
                  simp
                generalize ((S.take k).map (·.2)).map (Value.int .i64) = T at *
                generalize S.getD k (0, 0) = x at g1 g2 HN
                obtain ⟨x1, x2⟩ := x
                simp only at g1 g2 HN
                go_wp2_with (at_builtin; refine wpList_append_row rfl (.tmp 120) (.tmp 123) 22 rfl w7.heap.size 3 k0 _ 1 8 Tryd.underlying22 ki kz0 kz1 kz2 rfl (by decide) _ k _ rfl ((HO.out.alloc _).alloc _) _ 1 [.int .i64 x2] rfl (one_val _ _ _ _ (by simp)) (by simp [Value.oneCell']) (by unfold maxLen; omega) (by omega) (by have := HB.out.size; simp; omega) ?_)
                intro v' w2 hown hgrow _
                have HO2 : Hid (w2.ownsRow w7.heap.size 3 1 v' (k + 1) (((S.take (k + 1)).map (·.2)).map (Value.int .i64))) := by
                  show World.ownsRow _ _ _ _ _ _ _
                  rw [HN.out]; exact hown
                have HB2 : Hid (Below w7.heap.size w7 w2) := ((HB.out.alloc HB.out.size _).alloc (by have := HB.out.size; simp; omega) _).grown hgrow (by have := HB.out.size; simp; omega) (own_base HO.out)
                clear hown hgrow HO HB
                go_wp2
                go_roundw
                case rel => exact ⟨k + 1, by omega, by go_num, HO2.out, HB2.out⟩
                case measure => simp [intOf]; omega
              · go_wp2
                go_ret
                have hh := HO.out
                rw [List.take_of_length_le (by omega)] at hh
                refine ⟨_, rfl, ?_, HB8.out.trans (HB.out.mono HB8.out.size)⟩
                rw [HFin.out]
                refine isInts_own hh (by simp; omega) (by simp; omega) (fun x hx => ?_)
                obtain ⟨q, hq, rfl⟩ := List.mem_map.1 hx
                exact (HK7.out.1 q hq).2
      · have f0' : 0 < fa := by have := HF0.out; omega
        by_cases f1 : (E.length : Int) < hs
        · have HFe : Hid (farOf E hs fa = List.replicate E.length false) := by have := HFs.out; rwa [if_pos (.inr f1)] at this
          have f1' : ¬ hs ≤ (E.length : Int) := by omega
          clear f0 f1 HFs HF0
          go_upto_region 22 with fail
          generalize hWB : World.alloc _ _ = wB
          have HE6 : IsRd wB (.slice eo E.length ec) E := by rw [← hWB]; exact HErd.out.below ((Below.refl _ _).alloc (Nat.le_refl _) _)
          have HR6 : IsInts wB (.slice ro E.length rc) (E.map fun x => rateK x.b) := by rw [← hWB]; exact HRi.out.below ((Below.refl _ _).alloc (Nat.le_refl _) _)
          have HF6 : IsBools wB (.slice (some ⟨wr.heap.size, 0, none⟩) E.length E.length) (farOf E hs fa) := by rw [HFe.out]; exact HF.out _ _ (by rw [← hWB]; exact hasBox_new wr _ _)
          have HC6 : HasBox wB w.heap.size 24 cs := by rw [← hWB]; exact HCw.out.alloc _
          have HB6 : Below w.heap.size w wB := by rw [← hWB]; exact HBw.out.alloc HBw.out.size _
          clear hWB HErd HRi HF HFe HCw HBw g9 g11 hLt f0' f1' hm
          generalize farOf E hs fa = F at *
          generalize (some ⟨wr.heap.size, 0, none⟩ : Option Addr) = fo at HF6 ⊢
          have HEb : Hid (IsRd wB (.slice eo E.length ec) E) := HE6
          have HRb : Hid (IsInts wB (.slice ro E.length rc) (E.map fun x => rateK x.b)) := HR6
          have HFb : Hid (IsBools wB (.slice fo E.length E.length) F) := HF6
          have HCb : Hid (HasBox wB w.heap.size 24 cs) := HC6
          have HBb : Hid (Below w.heap.size w wB) := HB6
          clear HE6 HR6 HF6 HC6 HB6
          have hel := HEl.out
          go_wp2
          clear hel
          go_loopw [12, 86] (fun o i wr => ∃ k : Nat, k ≤ E.length ∧ i = .int .i64 k ∧ wr.ownsRow wB.heap.size 61 2 o (keysB E F p k).length (keyCells (keysB E F p k)) ∧ Below wB.heap.size wB wr) (fun _ i _ => E.length - (intOf i).toNat)
          case atStart => exact ⟨0, Nat.zero_le _, rfl, World.ownsRow_nil _ _ _ _, Below.refl _ _⟩
          case round =>
            obtain ⟨k, hk, rfl, ho, hb⟩ := hrel
            have HO : Hid (wr.ownsRow wB.heap.size 61 2 u12 (keysB E F p k).length (keyCells (keysB E F p k))) := ho
            have HB : Hid (Below wB.heap.size wB wr) := hb
            clear ho hb
            have hel := HEl.out
            by_cases hlt : k < E.length
            · obtain ⟨b, off, rfl, hbl, g0, g1, g2⟩ := (HEb.out.below HB.out).at k hlt
              obtain ⟨fb, foff, rfl, hfb, gf⟩ := (HFb.out.below HB.out).at k (by rw [HFl.out]; exact hlt)
              obtain ⟨rb, roff, rfl, hrbw, gr⟩ := HRb.out.hit k (by rw [List.length_map]; exact hlt)
              have HN : Hid (keysB E F p (k + 1) = keysB E F p k ++ (if (F.getD k false || failK (E.getD k noRd).b p) = true then [(rateK (E.getD k noRd).b, (E.getD k noRd).id)] else [])) := keysB_next E F p k
              have HFi : Hid (∀ W : World, Calls Tryd.prog 18 #[bval (E.getD k noRd).b, .int .i64 p] W fun e w' => e = .returned (.bool (failK (E.getD k noRd).b p)) ∧ Below W.heap.size W w') := rkFail_any _ p HP.out
              have er : (E.map fun x => rateK x.b).getD k 0 = rateK (E.getD k noRd).b := by simp [hlt]
              rw [er] at gr
              have HGr : Hid (∀ W, Below wB.heap.size wB W → W.cell? ⟨rb, roff + k, none⟩ = some (.int .i64 (rateK (E.getD k noRd).b))) := fun W h => (h.cell (p := ⟨rb, roff + k, none⟩) hrbw).trans gr
              clear gr er
              generalize E.getD k noRd = x at *
              generalize F.getD k false = y0 at *
              obtain ⟨id, ok, all⟩ := x
              unfold bval bcells at HFi
              simp only at HFi HN HGr g0 g1 g2
              have g12 : wr.cell? ⟨w.heap.size, 12, none⟩ = some (.int .i64 p) := ((HCb.out.below HB.out).cell 12).trans HZ12.out
              have hLt : w.heap.size < wr.heap.size := (HCb.out.below HB.out).lt
              cases y0 with
              | true =>
                go_upto_region 27 with fail
                generalize hW1 : wr.alloc _ = W1
                have HI1 : Hid (HasBox W1 wr.heap.size 39 #[.int .i64 id, .int .i64 ok, .int .i64 all]) := by show HasBox _ _ _ _; rw [← hW1]; exact hasBox_new wr _ _
                have HB1 : Hid (Below wB.heap.size wB W1) := by show Below _ _ _; rw [← hW1]; exact HB.out.alloc HB.out.size _
                have HO1 : Hid (W1.ownsRow wB.heap.size 61 2 u12 (keysB E F p k).length (keyCells (keysB E F p k))) := by show World.ownsRow _ _ _ _ _ _ _; rw [← hW1]; exact HO.out.alloc _
                clear hW1 g0 g1 g2 gf hbl hfb g12 hLt HFi
                have HNk : Hid (keysB E F p (k + 1) = keysB E F p k ++ [(rateK ⟨ok, all⟩, id)]) := by have := HN.out; rwa [Bool.true_or, if_pos rfl] at this
                have HNe : Hid (some wr.heap.size ≠ u12.ownBlock) := fun h => by have := (HO.out.lt wr.heap.size h.symm).2; omega
                have HKl : Hid ((keysB E F p k).length ≤ 64) := by have := keysB_length E F p k; have := HEl.out; show _ ≤ _; omega
                clear HN HO HB
                generalize hK2 : keysB E F p (k + 1) = K2 at *
                generalize keysB E F p k = K1 at *
                generalize rateK ⟨ok, all⟩ = y at *
                generalize wr.heap.size = tb at *
                have c0 : W1.cell? ⟨tb, 0, none⟩ = some (.int .i64 id) := HI1.out.cell 0
                have cr : W1.cell? ⟨rb, roff + k, none⟩ = some (.int .i64 y) := HGr.out _ HB1.out
                have hrbl : rb < W1.heap.size := Nat.lt_of_lt_of_le hrbw HB1.out.size
                have hkl := HKl.out
                have n1 : (k : Int) < (E.length : Int) := by omega
                have n2 : (0 : Int) ≤ (k : Int) := by omega
                go_wp2
                go_region_held3 (fun W => W.cell? ⟨tb, 0, none⟩ = some (.int .i64 id) ∧ W.cell? ⟨rb, roff + k, none⟩ = some (.int .i64 y)) (first | (exact ⟨HI5.out.cell 0, HGr.out _ HB5.out⟩) | go_keep) (first
                  | ((refine step_append_row (by rfl) (.tmp 102) (.tmp 110) 60 (by rfl) wB.heap.size 61 i0 _ 2 16 Tryd.underlying60 hi hz0 hz1 hz2 (by rfl) (by decide) _ K1.length _ (by rfl) (HO1.out.drew.alloc _) _ 1 (keyCells [(y, id)]) (by rfl) (one_key _ (y, id) _ _ (by simp)) (keyCells_one _) (by unfold maxLen; omega) (by omega) (by have := HB1.out.size; simp; omega) ?_; intro v2 w2 hown2 hgrow2 hat2; have HO5 : Hid (w2.ownsRow wB.heap.size 61 2 v2 (K1.length + 1) (keyCells K1 ++ keyCells [(y, id)])) := hown2; have HB5 : Hid (Below wB.heap.size wB w2) := (HB1.out.drew.alloc HB1.out.size _).grown hgrow2 (by have := HB1.out.size; simp; omega) (own_base HO1.out); have HI5 : Hid (HasBox w2 tb 39 #[.int .i64 id, .int .i64 ok, .int .i64 all]) := HasBox.grown ((HI1.out.below (Below.refl _ _).drew).alloc _) hgrow2 HNe.out; clear hown2 hgrow2 hat2)))
                go_wp2
                have HO6 : Hid (w2.ownsRow wB.heap.size 61 2 v2 K2.length (keyCells K2)) := by
                  show World.ownsRow _ _ _ _ _ _ _
                  rw [HNk.out, keyCells_append, List.length_append]; exact HO5.out
                clear HO5
                go_roundw
                case rel => exact ⟨k + 1, by omega, by go_num, by rw [hK2]; exact HO6.out, HB5.out⟩
                case measure => simp [intOf]; omega
              | false =>
                generalize failK ⟨ok, all⟩ p = y1 at *
                go_wp2_with fail
                refine (HFi.out _).mono ?_
                rintro e W1 ⟨rfl, hb⟩
                have HI1 : Hid (HasBox W1 wr.heap.size 39 #[.int .i64 id, .int .i64 ok, .int .i64 all]) := (hasBox_new wr _ _).below hb
                have HB1 : Hid (Below wB.heap.size wB W1) := HB.out.trans (((Below.refl _ _).alloc (Nat.le_refl _) _).trans (hb.mono (by simp)) |>.mono HB.out.size)
                have HO1 : Hid (W1.ownsRow wB.heap.size 61 2 u12 (keysB E F p k).length (keyCells (keysB E F p k))) := own_below (HO.out.alloc _) hb
                clear hb g0 g1 g2 gf hbl hfb g12 hLt HFi
                cases y1 with
                | false =>
                  have HNk : Hid (keysB E F p (k + 1) = keysB E F p k) := by have := HN.out; rwa [Bool.false_or, if_neg (by simp), List.append_nil] at this
                  clear HN HO HB
                  go_wp2
                  go_roundw
                  case rel => exact ⟨k + 1, by omega, by go_num, by rw [HNk.out]; exact HO1.out, HB1.out⟩
                  case measure => simp [intOf]; omega
                | true =>
                  have HNk : Hid (keysB E F p (k + 1) = keysB E F p k ++ [(rateK ⟨ok, all⟩, id)]) := by have := HN.out; rwa [Bool.false_or, if_pos rfl] at this
                  have HNe : Hid (some wr.heap.size ≠ u12.ownBlock) := fun h => by have := (HO.out.lt wr.heap.size h.symm).2; omega
                  have HKl : Hid ((keysB E F p k).length ≤ 64) := by have := keysB_length E F p k; have := HEl.out; show _ ≤ _; omega
                  clear HN HO HB
                  generalize hK2 : keysB E F p (k + 1) = K2 at *
                  generalize keysB E F p k = K1 at *
                  generalize rateK ⟨ok, all⟩ = y at *
                  generalize wr.heap.size = tb at *
                  have c0 : W1.cell? ⟨tb, 0, none⟩ = some (.int .i64 id) := HI1.out.cell 0
                  have cr : W1.cell? ⟨rb, roff + k, none⟩ = some (.int .i64 y) := HGr.out _ HB1.out
                  have hrbl : rb < W1.heap.size := Nat.lt_of_lt_of_le hrbw HB1.out.size
                  have hkl := HKl.out
                  have n1 : (k : Int) < (E.length : Int) := by omega
                  have n2 : (0 : Int) ≤ (k : Int) := by omega
                  go_wp2
                  go_region_held3 (fun W => W.cell? ⟨tb, 0, none⟩ = some (.int .i64 id) ∧ W.cell? ⟨rb, roff + k, none⟩ = some (.int .i64 y)) (first | (exact ⟨HI5.out.cell 0, HGr.out _ HB5.out⟩) | go_keep) (first
                    | ((refine step_append_row (by rfl) (.tmp 102) (.tmp 110) 60 (by rfl) wB.heap.size 61 i0 _ 2 16 Tryd.underlying60 hi hz0 hz1 hz2 (by rfl) (by decide) _ K1.length _ (by rfl) (HO1.out.drew.alloc _) _ 1 (keyCells [(y, id)]) (by rfl) (one_key _ (y, id) _ _ (by simp)) (keyCells_one _) (by unfold maxLen; omega) (by omega) (by have := HB1.out.size; simp; omega) ?_; intro v2 w2 hown2 hgrow2 hat2; have HO5 : Hid (w2.ownsRow wB.heap.size 61 2 v2 (K1.length + 1) (keyCells K1 ++ keyCells [(y, id)])) := hown2; have HB5 : Hid (Below wB.heap.size wB w2) := (HB1.out.drew.alloc HB1.out.size _).grown hgrow2 (by have := HB1.out.size; simp; omega) (own_base HO1.out); have HI5 : Hid (HasBox w2 tb 39 #[.int .i64 id, .int .i64 ok, .int .i64 all]) := HasBox.grown ((HI1.out.below (Below.refl _ _).drew).alloc _) hgrow2 HNe.out; clear hown2 hgrow2 hat2)))
                  go_wp2
                  have HO6 : Hid (w2.ownsRow wB.heap.size 61 2 v2 K2.length (keyCells K2)) := by
                    show World.ownsRow _ _ _ _ _ _ _
                    rw [HNk.out, keyCells_append, List.length_append]; exact HO5.out
                  clear HO5
                  go_roundw
                  case rel => exact ⟨k + 1, by omega, by go_num, by rw [hK2]; exact HO6.out, HB5.out⟩
                  case measure => simp [intOf]; omega
            · obtain rfl : k = E.length := by omega
              have hkl := keysB_length E F p E.length
              have HKs : Hid (IsKeys wr u12 (keysB E F p E.length)) := isKeys_own HO.out rfl (by omega) (fun q hq => by
                obtain ⟨i, hi, rfl⟩ := keysB_mem hq
                exact inRd_key (HEb.out.in i hi))
              have HKl : Hid ((keysB E F p E.length).length ≤ 64) := by show _ ≤ _; omega
              have HB7 : Hid (Below w.heap.size w wr) := HBb.out.trans (HB.out.mono HBb.out.size)
              clear HO HB hkl
              generalize keysB E F p E.length = K at *
              go_wp2_with fail
              refine (refSort_any K _ _ HKs.out (by have := HKl.out; omega)).mono ?_
              rintro e w7 ⟨v7, rfl, hk7, hb7⟩
              have HK7 : Hid (IsKeys w7 v7 (sortV K)) := hk7
              have HB8 : Hid (Below w.heap.size w w7) := HB7.out.trans (hb7.mono HB7.out.size)
              have HSl : Hid ((sortV K).length ≤ 64) := by show _ ≤ _; rw [sortV_length]; exact HKl.out
              clear hk7 hb7 HB7 HKs HKl
              obtain ⟨so, sc, rfl⟩ := HK7.out.shape
              have HFin : Hid (badL c L = (sortV K).map (·.2)) := HG.out
              clear HG
              generalize sortV K = S at *
              have hsl := HSl.out
              go_wp2
              clear hsl
              go_loopw [15, 116] (fun o i wr => ∃ k : Nat, k ≤ S.length ∧ i = .int .i64 k ∧ wr.ownsRow w7.heap.size 3 1 o k (((S.take k).map (·.2)).map (Value.int .i64)) ∧ Below w7.heap.size w7 wr) (fun _ i _ => S.length - (intOf i).toNat)
              case atStart => exact ⟨0, Nat.zero_le _, rfl, World.ownsRow_nil _ _ _ _, Below.refl _ _⟩
              case round =>
                obtain ⟨k, hk, rfl, ho, hb⟩ := hrel
                have HO : Hid (wr.ownsRow w7.heap.size 3 1 u15 k (((S.take k).map (·.2)).map (Value.int .i64))) := ho
                have HB : Hid (Below w7.heap.size w7 wr) := hb
                clear ho hb
                have hsl := HSl.out
                by_cases hlt : k < S.length
                · rcases (HK7.out.below HB.out).2.2 with ⟨h0, _⟩ | ⟨_, b1, o1, c1', e1, hlt1, hc1⟩
                  · rw [h0] at hlt; simp at hlt
                  simp only [Value.slice.injEq] at e1
                  obtain ⟨rfl, _, rfl⟩ := e1
                  obtain ⟨g1, g2⟩ := hc1 k hlt
                  clear hc1
                  have HN : Hid (((S.take (k + 1)).map (·.2)).map (Value.int .i64) = ((S.take k).map (·.2)).map (Value.int .i64) ++ [.int .i64 (S.getD k (0, 0)).2]) := by
                    show _ = _
                    rw [take_next S k hlt (0, 0)]
                    simp
                  generalize ((S.take k).map (·.2)).map (Value.int .i64) = T at *
                  generalize S.getD k (0, 0) = x at g1 g2 HN
                  obtain ⟨x1, x2⟩ := x
                  simp only at g1 g2 HN
                  go_wp2_with (at_builtin; refine wpList_append_row rfl (.tmp 120) (.tmp 123) 22 rfl w7.heap.size 3 k0 _ 1 8 Tryd.underlying22 ki kz0 kz1 kz2 rfl (by decide) _ k _ rfl ((HO.out.alloc _).alloc _) _ 1 [.int .i64 x2] rfl (one_val _ _ _ _ (by simp)) (by simp [Value.oneCell']) (by unfold maxLen; omega) (by omega) (by have := HB.out.size; simp; omega) ?_)
                  intro v' w2 hown hgrow _
                  have HO2 : Hid (w2.ownsRow w7.heap.size 3 1 v' (k + 1) (((S.take (k + 1)).map (·.2)).map (Value.int .i64))) := by
                    show World.ownsRow _ _ _ _ _ _ _
                    rw [HN.out]; exact hown
                  have HB2 : Hid (Below w7.heap.size w7 w2) := ((HB.out.alloc HB.out.size _).alloc (by have := HB.out.size; simp; omega) _).grown hgrow (by have := HB.out.size; simp; omega) (own_base HO.out)
                  clear hown hgrow HO HB
                  go_wp2
                  go_roundw
                  case rel => exact ⟨k + 1, by omega, by go_num, HO2.out, HB2.out⟩
                  case measure => simp [intOf]; omega
                · go_wp2
                  go_ret
                  have hh := HO.out
                  rw [List.take_of_length_le (by omega)] at hh
                  refine ⟨_, rfl, ?_, HB8.out.trans (HB.out.mono HB8.out.size)⟩
                  rw [HFin.out]
                  refine isInts_own hh (by simp; omega) (by simp; omega) (fun x hx => ?_)
                  obtain ⟨q, hq, rfl⟩ := List.mem_map.1 hx
                  exact (HK7.out.1 q hq).2
        · have HFe : Hid (farOf E hs fa = farA (E.map fun x => rateK x.b) fa) := by have := HFs.out; rwa [if_neg (by omega)] at this
          have f1' : hs ≤ (E.length : Int) := by omega
          clear f0 f1 HFs HF0
          go_upto_region 21 with fail
          generalize hWA : World.alloc _ _ = wA
          have HE5 : Hid (IsRd wA (.slice eo E.length ec) E) := by show IsRd _ _ _; rw [← hWA]; exact HErd.out.below ((Below.refl _ _).alloc (Nat.le_refl _) _)
          have HR5 : Hid (IsInts wA (.slice ro E.length rc) (E.map fun x => rateK x.b)) := by show IsInts _ _ _; rw [← hWA]; exact HRi.out.below ((Below.refl _ _).alloc (Nat.le_refl _) _)
          have HC5 : Hid (HasBox wA w.heap.size 24 cs) := by show HasBox _ _ _ _; rw [← hWA]; exact HCw.out.alloc _
          have HB5 : Hid (Below w.heap.size w wA) := by show Below _ _ _; rw [← hWA]; exact HBw.out.alloc HBw.out.size _
          clear hWA HErd HRi HF HCw HBw g9 g11 hLt f0' f1' hm
          have g11 : wA.cell? ⟨w.heap.size, 11, none⟩ = some (.int .i64 fa) := (HC5.out.cell 11).trans HZ11.out
          go_wp2_with fail
          refine (rFar_any (E.map fun x => rateK x.b) fa _ _ HR5.out (by rw [List.length_map]; have := HEl.out; omega)).mono ?_
          rintro e wB ⟨vf, rfl, hf, hbf⟩
          rw [← HFe.out] at hf
          have HE6 : IsRd wB (.slice eo E.length ec) E := HE5.out.below hbf
          have HR6 : IsInts wB (.slice ro E.length rc) (E.map fun x => rateK x.b) := HR5.out.below hbf
          have HC6 : HasBox wB w.heap.size 24 cs := HC5.out.below hbf
          have HB6 : Below w.heap.size w wB := HB5.out.trans (hbf.mono HB5.out.size)
          clear hbf HE5 HR5 HC5 HB5 g11 HFe
          generalize farOf E hs fa = F at *
          obtain ⟨fo, fc, rfl⟩ := hf.shaped
          rw [HFl.out] at hf
          have HF6 : IsBools wB (.slice fo E.length fc) F := hf
          rw [HFl.out]
          clear hf
          have HEb : Hid (IsRd wB (.slice eo E.length ec) E) := HE6
          have HRb : Hid (IsInts wB (.slice ro E.length rc) (E.map fun x => rateK x.b)) := HR6
          have HFb : Hid (IsBools wB (.slice fo E.length fc) F) := HF6
          have HCb : Hid (HasBox wB w.heap.size 24 cs) := HC6
          have HBb : Hid (Below w.heap.size w wB) := HB6
          clear HE6 HR6 HF6 HC6 HB6
          have hel := HEl.out
          go_wp2
          clear hel
          go_loopw [12, 86] (fun o i wr => ∃ k : Nat, k ≤ E.length ∧ i = .int .i64 k ∧ wr.ownsRow wB.heap.size 61 2 o (keysB E F p k).length (keyCells (keysB E F p k)) ∧ Below wB.heap.size wB wr) (fun _ i _ => E.length - (intOf i).toNat)
          case atStart => exact ⟨0, Nat.zero_le _, rfl, World.ownsRow_nil _ _ _ _, Below.refl _ _⟩
          case round =>
            obtain ⟨k, hk, rfl, ho, hb⟩ := hrel
            have HO : Hid (wr.ownsRow wB.heap.size 61 2 u12 (keysB E F p k).length (keyCells (keysB E F p k))) := ho
            have HB : Hid (Below wB.heap.size wB wr) := hb
            clear ho hb
            have hel := HEl.out
            by_cases hlt : k < E.length
            · obtain ⟨b, off, rfl, hbl, g0, g1, g2⟩ := (HEb.out.below HB.out).at k hlt
              obtain ⟨fb, foff, rfl, hfb, gf⟩ := (HFb.out.below HB.out).at k (by rw [HFl.out]; exact hlt)
              obtain ⟨rb, roff, rfl, hrbw, gr⟩ := HRb.out.hit k (by rw [List.length_map]; exact hlt)
              have HN : Hid (keysB E F p (k + 1) = keysB E F p k ++ (if (F.getD k false || failK (E.getD k noRd).b p) = true then [(rateK (E.getD k noRd).b, (E.getD k noRd).id)] else [])) := keysB_next E F p k
              have HFi : Hid (∀ W : World, Calls Tryd.prog 18 #[bval (E.getD k noRd).b, .int .i64 p] W fun e w' => e = .returned (.bool (failK (E.getD k noRd).b p)) ∧ Below W.heap.size W w') := rkFail_any _ p HP.out
              have er : (E.map fun x => rateK x.b).getD k 0 = rateK (E.getD k noRd).b := by simp [hlt]
              rw [er] at gr
              have HGr : Hid (∀ W, Below wB.heap.size wB W → W.cell? ⟨rb, roff + k, none⟩ = some (.int .i64 (rateK (E.getD k noRd).b))) := fun W h => (h.cell (p := ⟨rb, roff + k, none⟩) hrbw).trans gr
              clear gr er
              generalize E.getD k noRd = x at *
              generalize F.getD k false = y0 at *
              obtain ⟨id, ok, all⟩ := x
              unfold bval bcells at HFi
              simp only at HFi HN HGr g0 g1 g2
              have g12 : wr.cell? ⟨w.heap.size, 12, none⟩ = some (.int .i64 p) := ((HCb.out.below HB.out).cell 12).trans HZ12.out
              have hLt : w.heap.size < wr.heap.size := (HCb.out.below HB.out).lt
              cases y0 with
              | true =>
                go_upto_region 27 with fail
                generalize hW1 : wr.alloc _ = W1
                have HI1 : Hid (HasBox W1 wr.heap.size 39 #[.int .i64 id, .int .i64 ok, .int .i64 all]) := by show HasBox _ _ _ _; rw [← hW1]; exact hasBox_new wr _ _
                have HB1 : Hid (Below wB.heap.size wB W1) := by show Below _ _ _; rw [← hW1]; exact HB.out.alloc HB.out.size _
                have HO1 : Hid (W1.ownsRow wB.heap.size 61 2 u12 (keysB E F p k).length (keyCells (keysB E F p k))) := by show World.ownsRow _ _ _ _ _ _ _; rw [← hW1]; exact HO.out.alloc _
                clear hW1 g0 g1 g2 gf hbl hfb g12 hLt HFi
                have HNk : Hid (keysB E F p (k + 1) = keysB E F p k ++ [(rateK ⟨ok, all⟩, id)]) := by have := HN.out; rwa [Bool.true_or, if_pos rfl] at this
                have HNe : Hid (some wr.heap.size ≠ u12.ownBlock) := fun h => by have := (HO.out.lt wr.heap.size h.symm).2; omega
                have HKl : Hid ((keysB E F p k).length ≤ 64) := by have := keysB_length E F p k; have := HEl.out; show _ ≤ _; omega
                clear HN HO HB
                generalize hK2 : keysB E F p (k + 1) = K2 at *
                generalize keysB E F p k = K1 at *
                generalize rateK ⟨ok, all⟩ = y at *
                generalize wr.heap.size = tb at *
                have c0 : W1.cell? ⟨tb, 0, none⟩ = some (.int .i64 id) := HI1.out.cell 0
                have cr : W1.cell? ⟨rb, roff + k, none⟩ = some (.int .i64 y) := HGr.out _ HB1.out
                have hrbl : rb < W1.heap.size := Nat.lt_of_lt_of_le hrbw HB1.out.size
                have hkl := HKl.out
                have n1 : (k : Int) < (E.length : Int) := by omega
                have n2 : (0 : Int) ≤ (k : Int) := by omega
                go_wp2
                go_region_held3 (fun W => W.cell? ⟨tb, 0, none⟩ = some (.int .i64 id) ∧ W.cell? ⟨rb, roff + k, none⟩ = some (.int .i64 y)) (first | (exact ⟨HI5.out.cell 0, HGr.out _ HB5.out⟩) | go_keep) (first
                  | ((refine step_append_row (by rfl) (.tmp 102) (.tmp 110) 60 (by rfl) wB.heap.size 61 i0 _ 2 16 Tryd.underlying60 hi hz0 hz1 hz2 (by rfl) (by decide) _ K1.length _ (by rfl) (HO1.out.drew.alloc _) _ 1 (keyCells [(y, id)]) (by rfl) (one_key _ (y, id) _ _ (by simp)) (keyCells_one _) (by unfold maxLen; omega) (by omega) (by have := HB1.out.size; simp; omega) ?_; intro v2 w2 hown2 hgrow2 hat2; have HO5 : Hid (w2.ownsRow wB.heap.size 61 2 v2 (K1.length + 1) (keyCells K1 ++ keyCells [(y, id)])) := hown2; have HB5 : Hid (Below wB.heap.size wB w2) := (HB1.out.drew.alloc HB1.out.size _).grown hgrow2 (by have := HB1.out.size; simp; omega) (own_base HO1.out); have HI5 : Hid (HasBox w2 tb 39 #[.int .i64 id, .int .i64 ok, .int .i64 all]) := HasBox.grown ((HI1.out.below (Below.refl _ _).drew).alloc _) hgrow2 HNe.out; clear hown2 hgrow2 hat2)))
                go_wp2
                have HO6 : Hid (w2.ownsRow wB.heap.size 61 2 v2 K2.length (keyCells K2)) := by
                  show World.ownsRow _ _ _ _ _ _ _
                  rw [HNk.out, keyCells_append, List.length_append]; exact HO5.out
                clear HO5
                go_roundw
                case rel => exact ⟨k + 1, by omega, by go_num, by rw [hK2]; exact HO6.out, HB5.out⟩
                case measure => simp [intOf]; omega
              | false =>
                generalize failK ⟨ok, all⟩ p = y1 at *
                go_wp2_with fail
                refine (HFi.out _).mono ?_
                rintro e W1 ⟨rfl, hb⟩
                have HI1 : Hid (HasBox W1 wr.heap.size 39 #[.int .i64 id, .int .i64 ok, .int .i64 all]) := (hasBox_new wr _ _).below hb
                have HB1 : Hid (Below wB.heap.size wB W1) := HB.out.trans (((Below.refl _ _).alloc (Nat.le_refl _) _).trans (hb.mono (by simp)) |>.mono HB.out.size)
                have HO1 : Hid (W1.ownsRow wB.heap.size 61 2 u12 (keysB E F p k).length (keyCells (keysB E F p k))) := own_below (HO.out.alloc _) hb
                clear hb g0 g1 g2 gf hbl hfb g12 hLt HFi
                cases y1 with
                | false =>
                  have HNk : Hid (keysB E F p (k + 1) = keysB E F p k) := by have := HN.out; rwa [Bool.false_or, if_neg (by simp), List.append_nil] at this
                  clear HN HO HB
                  go_wp2
                  go_roundw
                  case rel => exact ⟨k + 1, by omega, by go_num, by rw [HNk.out]; exact HO1.out, HB1.out⟩
                  case measure => simp [intOf]; omega
                | true =>
                  have HNk : Hid (keysB E F p (k + 1) = keysB E F p k ++ [(rateK ⟨ok, all⟩, id)]) := by have := HN.out; rwa [Bool.false_or, if_pos rfl] at this
                  have HNe : Hid (some wr.heap.size ≠ u12.ownBlock) := fun h => by have := (HO.out.lt wr.heap.size h.symm).2; omega
                  have HKl : Hid ((keysB E F p k).length ≤ 64) := by have := keysB_length E F p k; have := HEl.out; show _ ≤ _; omega
                  clear HN HO HB
                  generalize hK2 : keysB E F p (k + 1) = K2 at *
                  generalize keysB E F p k = K1 at *
                  generalize rateK ⟨ok, all⟩ = y at *
                  generalize wr.heap.size = tb at *
                  have c0 : W1.cell? ⟨tb, 0, none⟩ = some (.int .i64 id) := HI1.out.cell 0
                  have cr : W1.cell? ⟨rb, roff + k, none⟩ = some (.int .i64 y) := HGr.out _ HB1.out
                  have hrbl : rb < W1.heap.size := Nat.lt_of_lt_of_le hrbw HB1.out.size
                  have hkl := HKl.out
                  have n1 : (k : Int) < (E.length : Int) := by omega
                  have n2 : (0 : Int) ≤ (k : Int) := by omega
                  go_wp2
                  go_region_held3 (fun W => W.cell? ⟨tb, 0, none⟩ = some (.int .i64 id) ∧ W.cell? ⟨rb, roff + k, none⟩ = some (.int .i64 y)) (first | (exact ⟨HI5.out.cell 0, HGr.out _ HB5.out⟩) | go_keep) (first
                    | ((refine step_append_row (by rfl) (.tmp 102) (.tmp 110) 60 (by rfl) wB.heap.size 61 i0 _ 2 16 Tryd.underlying60 hi hz0 hz1 hz2 (by rfl) (by decide) _ K1.length _ (by rfl) (HO1.out.drew.alloc _) _ 1 (keyCells [(y, id)]) (by rfl) (one_key _ (y, id) _ _ (by simp)) (keyCells_one _) (by unfold maxLen; omega) (by omega) (by have := HB1.out.size; simp; omega) ?_; intro v2 w2 hown2 hgrow2 hat2; have HO5 : Hid (w2.ownsRow wB.heap.size 61 2 v2 (K1.length + 1) (keyCells K1 ++ keyCells [(y, id)])) := hown2; have HB5 : Hid (Below wB.heap.size wB w2) := (HB1.out.drew.alloc HB1.out.size _).grown hgrow2 (by have := HB1.out.size; simp; omega) (own_base HO1.out); have HI5 : Hid (HasBox w2 tb 39 #[.int .i64 id, .int .i64 ok, .int .i64 all]) := HasBox.grown ((HI1.out.below (Below.refl _ _).drew).alloc _) hgrow2 HNe.out; clear hown2 hgrow2 hat2)))
                  go_wp2
                  have HO6 : Hid (w2.ownsRow wB.heap.size 61 2 v2 K2.length (keyCells K2)) := by
                    show World.ownsRow _ _ _ _ _ _ _
                    rw [HNk.out, keyCells_append, List.length_append]; exact HO5.out
                  clear HO5
                  go_roundw
                  case rel => exact ⟨k + 1, by omega, by go_num, by rw [hK2]; exact HO6.out, HB5.out⟩
                  case measure => simp [intOf]; omega
            · obtain rfl : k = E.length := by omega
              have hkl := keysB_length E F p E.length
              have HKs : Hid (IsKeys wr u12 (keysB E F p E.length)) := isKeys_own HO.out rfl (by omega) (fun q hq => by
                obtain ⟨i, hi, rfl⟩ := keysB_mem hq
                exact inRd_key (HEb.out.in i hi))
              have HKl : Hid ((keysB E F p E.length).length ≤ 64) := by show _ ≤ _; omega
              have HB7 : Hid (Below w.heap.size w wr) := HBb.out.trans (HB.out.mono HBb.out.size)
              clear HO HB hkl
              generalize keysB E F p E.length = K at *
              go_wp2_with fail
              refine (refSort_any K _ _ HKs.out (by have := HKl.out; omega)).mono ?_
              rintro e w7 ⟨v7, rfl, hk7, hb7⟩
              have HK7 : Hid (IsKeys w7 v7 (sortV K)) := hk7
              have HB8 : Hid (Below w.heap.size w w7) := HB7.out.trans (hb7.mono HB7.out.size)
              have HSl : Hid ((sortV K).length ≤ 64) := by show _ ≤ _; rw [sortV_length]; exact HKl.out
              clear hk7 hb7 HB7 HKs HKl
              obtain ⟨so, sc, rfl⟩ := HK7.out.shape
              have HFin : Hid (badL c L = (sortV K).map (·.2)) := HG.out
              clear HG
              generalize sortV K = S at *
              have hsl := HSl.out
              go_wp2
              clear hsl
              go_loopw [15, 116] (fun o i wr => ∃ k : Nat, k ≤ S.length ∧ i = .int .i64 k ∧ wr.ownsRow w7.heap.size 3 1 o k (((S.take k).map (·.2)).map (Value.int .i64)) ∧ Below w7.heap.size w7 wr) (fun _ i _ => S.length - (intOf i).toNat)
              case atStart => exact ⟨0, Nat.zero_le _, rfl, World.ownsRow_nil _ _ _ _, Below.refl _ _⟩
              case round =>
                obtain ⟨k, hk, rfl, ho, hb⟩ := hrel
                have HO : Hid (wr.ownsRow w7.heap.size 3 1 u15 k (((S.take k).map (·.2)).map (Value.int .i64))) := ho
                have HB : Hid (Below w7.heap.size w7 wr) := hb
                clear ho hb
                have hsl := HSl.out
                by_cases hlt : k < S.length
                · rcases (HK7.out.below HB.out).2.2 with ⟨h0, _⟩ | ⟨_, b1, o1, c1', e1, hlt1, hc1⟩
                  · rw [h0] at hlt; simp at hlt
                  simp only [Value.slice.injEq] at e1
                  obtain ⟨rfl, _, rfl⟩ := e1
                  obtain ⟨g1, g2⟩ := hc1 k hlt
                  clear hc1
                  have HN : Hid (((S.take (k + 1)).map (·.2)).map (Value.int .i64) = ((S.take k).map (·.2)).map (Value.int .i64) ++ [.int .i64 (S.getD k (0, 0)).2]) := by
                    show _ = _
                    rw [take_next S k hlt (0, 0)]
                    simp
                  generalize ((S.take k).map (·.2)).map (Value.int .i64) = T at *
                  generalize S.getD k (0, 0) = x at g1 g2 HN
                  obtain ⟨x1, x2⟩ := x
                  simp only at g1 g2 HN
                  go_wp2_with (at_builtin; refine wpList_append_row rfl (.tmp 120) (.tmp 123) 22 rfl w7.heap.size 3 k0 _ 1 8 Tryd.underlying22 ki kz0 kz1 kz2 rfl (by decide) _ k _ rfl ((HO.out.alloc _).alloc _) _ 1 [.int .i64 x2] rfl (one_val _ _ _ _ (by simp)) (by simp [Value.oneCell']) (by unfold maxLen; omega) (by omega) (by have := HB.out.size; simp; omega) ?_)
                  intro v' w2 hown hgrow _
                  have HO2 : Hid (w2.ownsRow w7.heap.size 3 1 v' (k + 1) (((S.take (k + 1)).map (·.2)).map (Value.int .i64))) := by
                    show World.ownsRow _ _ _ _ _ _ _
                    rw [HN.out]; exact hown
                  have HB2 : Hid (Below w7.heap.size w7 w2) := ((HB.out.alloc HB.out.size _).alloc (by have := HB.out.size; simp; omega) _).grown hgrow (by have := HB.out.size; simp; omega) (own_base HO.out)
                  clear hown hgrow HO HB
                  go_wp2
                  go_roundw
                  case rel => exact ⟨k + 1, by omega, by go_num, HO2.out, HB2.out⟩
                  case measure => simp [intOf]; omega
                · go_wp2
                  go_ret
                  have hh := HO.out
                  rw [List.take_of_length_le (by omega)] at hh
                  refine ⟨_, rfl, ?_, HB8.out.trans (HB.out.mono HB8.out.size)⟩
                  rw [HFin.out]
                  refine isInts_own hh (by simp; omega) (by simp; omega) (fun x hx => ?_)
                  obtain ⟨q, hq, rfl⟩ := List.mem_map.1 hx
                  exact (HK7.out.1 q hq).2

end Go.Proofs.YtjknflpclniiiaaDoor

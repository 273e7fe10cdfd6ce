/-
  The contract of package spread's Bad.
-/
import Derived.Test.YtjknflpclniiiaaDoorSpread3
import Derived.Deep.RegionHeld3
namespace Go.Proofs.YtjknflpclniiiaaDoor
open Go.RowKit

theorem badL_no {c : Cfg} {L : List Rd} (h : mayC c = false ∨ mayRd L = false) : badL c L = [] := by
  unfold badL
  rcases h with h | h <;> rw [h] <;> simp
theorem badL_yes {c : Cfg} {L : List Rd} (h1 : mayC c = true) (h2 : mayRd L = true) : badL c L = (badK c L).map (·.2) := by
  unfold badL
  rw [h1, h2]; rfl
theorem isInts_none (w : World) : IsInts w (.slice none 0 0) [] := isInts_nil w

set_option maxRecDepth 100000 in
set_option maxHeartbeats 8000000 in
/-- Bad: the answer is a row of the call's own. -/
theorem bad_any (c : Cfg) (L : List Rd) (v : Value) (w : World) (htab : TabC w) (hz : c.zone.size ≤ 9223372036854775807) (hv : IsRd w v L) :
    Calls Tryd.prog 12 #[.agg c.arr, v] w fun e w' => ∃ v', e = .returned v' ∧ IsInts w' v' (badL c L) ∧ Below w.heap.size w w' := by
  have HMayC : Hid (∀ W : World, TabC W → Calls Tryd.prog 24 #[.agg c.arr] W fun e w' => e = .returned (.bool (mayC c)) ∧ Below W.heap.size W w') := fun W h => may_any c W h hz
  have HT : Hid (TabC w) := htab
  have HL : Hid (IsRd w v L) := hv
  have HI : Hid ((Tryd.prog.info? 24).map (·.size) = some c.arr.size) := arr_inf c
  clear htab hz hv
  by_cases h1 : mayC c = true
  rotate_left
  · have h1 := Bool.eq_false_iff.2 h1
    rw [h1] at HMayC
    rw [badL_no (.inl h1)]
    clear h1 HL
    generalize c.arr = cs at *
    go_enter Tryd.func12, Tryd.ntmps12
    go_upto_region 1 with fail
    generalize hW0 : w.alloc _ = W0
    have HC0 : Hid (HasBox W0 w.heap.size 24 cs) := by show HasBox _ _ _ _; rw [← hW0]; exact hasBox_new w _ _
    have HB0 : Hid (Below w.heap.size w W0) := by show Below _ _ _; rw [← hW0]; exact (Below.refl _ _).alloc (Nat.le_refl _) _
    clear hW0
    go_wp2_with (first | (refine wpList_load_bx rfl 24 (.tmp 2) rfl w.heap.size rfl 24 _ _ HC0.out Tryd.underlying24 rfl HI.out ?_) | fail)
    refine (HMayC.out _ (HT.out.below HB0.out)).mono ?_
    rintro e w1 ⟨rfl, hb⟩
    have HB1 : Hid (Below w.heap.size w w1) := HB0.out.trans (hb.mono HB0.out.size)
    clear hb
    go_wp2
    go_ret
    exact ⟨_, rfl, isInts_none _, HB1.out⟩
  rw [h1] at HMayC
  by_cases h2 : mayRd L = true
  rotate_left
  · have h2 := Bool.eq_false_iff.2 h2
    have HMayR : Hid (∀ W, Below w.heap.size w W → Calls Tryd.prog 25 #[v] W fun e w' => e = .returned (.bool false) ∧ Below W.heap.size W w') := fun W h => by
      have := mayBad_any L v W (HL.out.below h)
      rwa [h2] at this
    rw [badL_no (.inr h2)]
    clear h1 h2 HL
    generalize c.arr = cs at *
    go_enter Tryd.func12, Tryd.ntmps12
    go_upto_region 1 with fail
    generalize hW0 : w.alloc _ = W0
    have HC0 : Hid (HasBox W0 w.heap.size 24 cs) := by show HasBox _ _ _ _; rw [← hW0]; exact hasBox_new w _ _
    have HB0 : Hid (Below w.heap.size w W0) := by show Below _ _ _; rw [← hW0]; exact (Below.refl _ _).alloc (Nat.le_refl _) _
    clear hW0
    go_wp2_with (first | (refine wpList_load_bx rfl 24 (.tmp 2) rfl w.heap.size rfl 24 _ _ HC0.out Tryd.underlying24 rfl HI.out ?_) | fail)
    refine (HMayC.out _ (HT.out.below HB0.out)).mono ?_
    rintro e w1 ⟨rfl, hb⟩
    have HB1 : Hid (Below w.heap.size w w1) := HB0.out.trans (hb.mono HB0.out.size)
    clear hb HB0 HC0
    go_wp2_with fail
    refine (HMayR.out _ HB1.out).mono ?_
    rintro e w2 ⟨rfl, hb⟩
    have HB2 : Hid (Below w.heap.size w w2) := HB1.out.trans (hb.mono HB1.out.size)
    clear hb HB1
    go_wp2
    go_ret
    exact ⟨_, rfl, isInts_none _, HB2.out⟩
  have HMayR : Hid (∀ W, Below w.heap.size w W → Calls Tryd.prog 25 #[v] W fun e w' => e = .returned (.bool true) ∧ Below W.heap.size W w') := fun W h => by
    have := mayBad_any L v W (HL.out.below h)
    rwa [h2] at this
  rw [badL_yes h1 h2]
  unfold badK
  have hl64 := ((mayRd_iff L).1 h2).1
  have b11 := may_num11 h1
  have b12 := may_num12 h1
  have HEn : Hid (∀ W, Below w.heap.size w W → Calls Tryd.prog 26 #[v, .int .i64 c.f10] W fun e w' => ∃ v', e = .returned v' ∧ IsRd w' v' (enL L c.f10) ∧ Below W.heap.size W w') := fun W h => enough_any L c.f10 v W (HL.out.below h) hl64
  have HEl : Hid ((enL L c.f10).length ≤ 64) := Nat.le_trans (enL_length L c.f10) hl64
  have HFa : Hid (∀ (W : World) (v5 : Value), IsRd W v5 (enL L c.f10) → Calls Tryd.prog 27 #[.agg c.arr, v5] W fun e w' => ∃ v', e = .returned v' ∧ IsBools w' v' (farOf (enL L c.f10) c.f9 c.f11) ∧ Below W.heap.size W w') := fun W v5 h => farOf_any c (enL L c.f10) v5 W h HEl.out
  have HFl : Hid ((farOf (enL L c.f10) c.f9 c.f11).length = (enL L c.f10).length) := farOf_length HEl.out b11.1 b11.2
  have HP : Hid (c.f12 ≤ 9223372036854775807) := by show _ ≤ _; omega
  have HZ10 : Hid (c.arr[10]? = some (.int .i64 c.f10)) := rfl
  have HZ12 : Hid (c.arr[12]? = some (.int .i64 c.f12)) := rfl
  clear h1 h2 hl64 b11 b12 HL
  generalize farOf (enL L c.f10) c.f9 c.f11 = F at *
  generalize enL L c.f10 = E at *
  generalize c.f10 = rq at *
  generalize c.f12 = p at *
  generalize c.arr = cs at *
  obtain ⟨i0, hi, hz0, hz1, hz2⟩ := info_parts infoKeyO
  go_enter Tryd.func12, Tryd.ntmps12
  go_upto_region 1 with fail
  generalize hW0 : w.alloc _ = W0
  have HC0 : Hid (HasBox W0 w.heap.size 24 cs) := by show HasBox _ _ _ _; rw [← hW0]; exact hasBox_new w _ _
  have HB0 : Hid (Below w.heap.size w W0) := by show Below _ _ _; rw [← hW0]; exact (Below.refl _ _).alloc (Nat.le_refl _) _
  clear hW0
  go_wp2_with (first | (refine wpList_load_bx rfl 24 (.tmp 2) rfl w.heap.size rfl 24 _ _ HC0.out Tryd.underlying24 rfl HI.out ?_) | fail)
  refine (HMayC.out _ (HT.out.below HB0.out)).mono ?_
  rintro e w1 ⟨rfl, hb⟩
  have HC1 : Hid (HasBox w1 w.heap.size 24 cs) := HC0.out.below hb
  have HB1 : Hid (Below w.heap.size w w1) := HB0.out.trans (hb.mono HB0.out.size)
  clear hb HB0 HC0 HMayC
  go_wp2_with fail
  refine (HMayR.out _ HB1.out).mono ?_
  rintro e w2 ⟨rfl, hb⟩
  have HC2 : Hid (HasBox w2 w.heap.size 24 cs) := HC1.out.below hb
  have HB2 : Hid (Below w.heap.size w w2) := HB1.out.trans (hb.mono HB1.out.size)
  clear hb HB1 HC1 HMayR
  have g10 : w2.cell? ⟨w.heap.size, 10, none⟩ = some (.int .i64 rq) := (HC2.out.cell 10).trans HZ10.out
  go_wp2_with fail
  refine (HEn.out _ HB2.out).mono ?_
  rintro e w5 ⟨v5, rfl, he, hb⟩
  have HC5 : Hid (HasBox w5 w.heap.size 24 cs) := HC2.out.below hb
  have HB5 : Hid (Below w.heap.size w w5) := HB2.out.trans (hb.mono HB2.out.size)
  have HE5 : Hid (IsRd w5 v5 E) := he
  clear hb he HB2 HC2 HEn g10
  go_wp2_with (first | (refine wpList_load_bx rfl 24 (.tmp 2) rfl w.heap.size rfl 24 _ _ HC5.out Tryd.underlying24 rfl HI.out ?_) | fail)
  refine (HFa.out _ _ HE5.out).mono ?_
  rintro e w6 ⟨v6, rfl, hf, hb⟩
  have HC6 : Hid (HasBox w6 w.heap.size 24 cs) := HC5.out.below hb
  have HB6 : Hid (Below w.heap.size w w6) := HB5.out.trans (hb.mono HB5.out.size)
  have HE6 : Hid (IsRd w6 v5 E) := HE5.out.below hb
  have HF6 : Hid (IsBools w6 v6 F) := hf
  clear hb hf HB5 HC5 HFa HE5 HZ10 HT
  obtain ⟨eo, ec, rfl⟩ := HE6.out.shaped
  obtain ⟨fo, fc, rfl⟩ := HF6.out.shaped
  rw [HFl.out] at HF6
  rw [HFl.out]
  have hel := HEl.out
  go_wp2
  clear hel
  go_loopw [7, 27] (fun o i wr => ∃ k : Nat, k ≤ E.length ∧ i = .int .i64 k ∧ wr.ownsRow w6.heap.size 57 2 o (keysB E F p k).length (keyCells (keysB E F p k)) ∧ Below w6.heap.size w6 wr) (fun _ i _ => E.length - (intOf i).toNat)
  case atStart => exact ⟨0, Nat.zero_le _, rfl, World.ownsRow_nil _ _ _ _, Below.refl _ _⟩
  case round =>
    obtain ⟨k, hk, rfl, ho, hb⟩ := hrel
    have HO : Hid (wr.ownsRow w6.heap.size 57 2 u7 (keysB E F p k).length (keyCells (keysB E F p k))) := ho
    have HB : Hid (Below w6.heap.size w6 wr) := hb
    clear ho hb
    have hel := HEl.out
    by_cases hlt : k < E.length
    · have hlf : k < F.length := by have := HFl.out; omega
      obtain ⟨b, off, rfl, hbl, g0, g1, g2⟩ := (HE6.out.below HB.out).at k hlt
      obtain ⟨fb, foff, rfl, hfb, gf⟩ := (HF6.out.below HB.out).at k hlf
      have HN : Hid (keysB E F p (k + 1) = keysB E F p k ++ (if (F.getD k false || failK (E.getD k noRd).b p) = true then [(rateK (E.getD k noRd).b, (E.getD k noRd).id)] else [])) := keysB_next E F p k
      have HFi : Hid (∀ W : World, Calls Tryd.prog 28 #[bval (E.getD k noRd).b, .int .i64 p] W fun e w' => e = .returned (.bool (failK (E.getD k noRd).b p)) ∧ Below W.heap.size W w') := kFail_any _ p HP.out
      have HRt : Hid (∀ W : World, Calls Tryd.prog 29 #[bval (E.getD k noRd).b] W fun e w' => e = .returned (.int .i64 (rateK (E.getD k noRd).b)) ∧ Below W.heap.size W w') := kRate_any _ (HE6.out.in k hlt).2
      have HAt : Hid (k < E.length) := hlt
      generalize E.getD k noRd = x at *
      generalize F.getD k false = y0 at *
      obtain ⟨id, ok, all⟩ := x
      unfold bval bcells at HFi HRt
      simp only at HFi HRt HN g0 g1 g2
      have g12 : wr.cell? ⟨w.heap.size, 12, none⟩ = some (.int .i64 p) := ((HC6.out.below HB.out).cell 12).trans HZ12.out
      have hLt : w.heap.size < wr.heap.size := (HC6.out.below HB.out).lt
      cases y0 with
      | true =>
        go_upto_region 10 with fail
        generalize hW1 : wr.alloc _ = W1
        have HI1 : Hid (HasBox W1 wr.heap.size 39 #[.int .i64 id, .int .i64 ok, .int .i64 all]) := by show HasBox _ _ _ _; rw [← hW1]; exact hasBox_new wr _ _
        have HB1 : Hid (Below w6.heap.size w6 W1) := by show Below _ _ _; rw [← hW1]; exact HB.out.alloc HB.out.size _
        have HO1 : Hid (W1.ownsRow w6.heap.size 57 2 u7 (keysB E F p k).length (keyCells (keysB E F p k))) := by show World.ownsRow _ _ _ _ _ _ _; rw [← hW1]; exact HO.out.alloc _
        clear hW1 g0 g1 g2 gf hbl hfb g12 hLt HFi
        have HNk : Hid (keysB E F p (k + 1) = keysB E F p k ++ [(rateK ⟨ok, all⟩, id)]) := by have := HN.out; rwa [Bool.true_or, if_pos rfl] at this
        have HNe : Hid (some wr.heap.size ≠ u7.ownBlock) := fun h => by have := (HO.out.lt wr.heap.size h.symm).2; omega
        have HKl : Hid ((keysB E F p k).length ≤ 64) := by have := keysB_length E F p k; have := HEl.out; show _ ≤ _; omega
        clear HN HO HB HAt
        generalize hK2 : keysB E F p (k + 1) = K2 at *
        generalize keysB E F p k = K1 at *
        generalize rateK ⟨ok, all⟩ = y at *
        generalize wr.heap.size = tb at *
        have c0 : W1.cell? ⟨tb, 0, none⟩ = some (.int .i64 id) := HI1.out.cell 0
        have c1 : W1.cell? ⟨tb, 1, none⟩ = some (.int .i64 ok) := HI1.out.cell 1
        have c2 : W1.cell? ⟨tb, 2, none⟩ = some (.int .i64 all) := HI1.out.cell 2
        have hkl := HKl.out
        go_wp2
        go_region_held3 (fun W => W.cell? ⟨tb, 0, none⟩ = some (.int .i64 id) ∧ W.cell? ⟨tb, 1, none⟩ = some (.int .i64 ok) ∧ W.cell? ⟨tb, 2, none⟩ = some (.int .i64 all)) (first | (exact ⟨HI5.out.cell 0, HI5.out.cell 1, HI5.out.cell 2⟩) | (exact ⟨HI4.out.cell 0, HI4.out.cell 1, HI4.out.cell 2⟩) | go_keep) (first
          | ((refine step_append_row (by rfl) (.tmp 43) (.tmp 50) 55 (by rfl) w6.heap.size 57 i0 _ 2 16 Tryd.underlying55 hi hz0 hz1 hz2 (by rfl) (by decide) _ K1.length _ (by rfl) (HO4.out.alloc _) _ 1 (keyCells [(y, id)]) (by rfl) (one_key _ (y, id) _ _ (by simp)) (keyCells_one _) (by unfold maxLen; omega) (by omega) (by have := HB4.out.size; simp; omega) ?_; intro v2 w2 hown2 hgrow2 hat2; have HO5 : Hid (w2.ownsRow w6.heap.size 57 2 v2 (K1.length + 1) (keyCells K1 ++ keyCells [(y, id)])) := hown2; have HB5 : Hid (Below w6.heap.size w6 w2) := (HB4.out.alloc HB4.out.size _).grown hgrow2 (by have := HB4.out.size; simp; omega) (own_base HO4.out); have HI5 : Hid (HasBox w2 tb 39 #[.int .i64 id, .int .i64 ok, .int .i64 all]) := (HI4.out.alloc _).grown hgrow2 HNe.out; clear hown2 hgrow2 hat2))
          | ((go_at_call 29; refine (HRt.out _).mono ?_; rintro e w4 ⟨rfl, hb4⟩; have HI4 : Hid (HasBox w4 tb 39 #[.int .i64 id, .int .i64 ok, .int .i64 all]) := HI1.out.below ((Below.refl _ _).drew.trans hb4); have HO4 : Hid (w4.ownsRow w6.heap.size 57 2 u7 K1.length (keyCells K1)) := own_below HO1.out ((Below.refl _ _).drew.trans hb4); have HB4 : Hid (Below w6.heap.size w6 w4) := HB1.out.trans (((Below.refl _ _).drew.trans hb4).mono HB1.out.size); clear hb4)))
        go_wp2
        have HO6 : Hid (w2.ownsRow w6.heap.size 57 2 v2 K2.length (keyCells K2)) := by
          show World.ownsRow _ _ _ _ _ _ _
          rw [HNk.out, keyCells_append, List.length_append]; exact HO5.out
        clear HO5
        go_roundw
        case rel => exact ⟨k + 1, by omega, by go_num, by rw [hK2]; exact HO6.out, HB5.out⟩
        case measure => simp [intOf]; omega
      | false =>
        generalize failK ⟨ok, all⟩ p = y1 at *
        go_wp2_with fail
        refine (HFi.out _).mono ?_
        rintro e W1 ⟨rfl, hb⟩
        have HI1 : Hid (HasBox W1 wr.heap.size 39 #[.int .i64 id, .int .i64 ok, .int .i64 all]) := (hasBox_new wr _ _).below hb
        have HB1 : Hid (Below w6.heap.size w6 W1) := HB.out.trans (((Below.refl _ _).alloc (Nat.le_refl _) _).trans (hb.mono (by simp)) |>.mono HB.out.size)
        have HO1 : Hid (W1.ownsRow w6.heap.size 57 2 u7 (keysB E F p k).length (keyCells (keysB E F p k))) := own_below (HO.out.alloc _) hb
        clear hb g0 g1 g2 gf hbl hfb g12 hLt HFi
        cases y1 with
        | false =>
          have HNk : Hid (keysB E F p (k + 1) = keysB E F p k) := by have := HN.out; rwa [Bool.false_or, if_neg (by simp), List.append_nil] at this
          clear HN HO HB HAt
          go_wp2
          go_roundw
          case rel => exact ⟨k + 1, by omega, by go_num, by rw [HNk.out]; exact HO1.out, HB1.out⟩
          case measure => simp [intOf]; omega
        | true =>
          have HNk : Hid (keysB E F p (k + 1) = keysB E F p k ++ [(rateK ⟨ok, all⟩, id)]) := by have := HN.out; rwa [Bool.false_or, if_pos rfl] at this
          have HNe : Hid (some wr.heap.size ≠ u7.ownBlock) := fun h => by have := (HO.out.lt wr.heap.size h.symm).2; omega
          have HKl : Hid ((keysB E F p k).length ≤ 64) := by have := keysB_length E F p k; have := HEl.out; show _ ≤ _; omega
          clear HN HO HB HAt
          generalize hK2 : keysB E F p (k + 1) = K2 at *
          generalize keysB E F p k = K1 at *
          generalize rateK ⟨ok, all⟩ = y at *
          generalize wr.heap.size = tb at *
          have c0 : W1.cell? ⟨tb, 0, none⟩ = some (.int .i64 id) := HI1.out.cell 0
          have c1 : W1.cell? ⟨tb, 1, none⟩ = some (.int .i64 ok) := HI1.out.cell 1
          have c2 : W1.cell? ⟨tb, 2, none⟩ = some (.int .i64 all) := HI1.out.cell 2
          have hkl := HKl.out
          go_wp2
          go_region_held3 (fun W => W.cell? ⟨tb, 0, none⟩ = some (.int .i64 id) ∧ W.cell? ⟨tb, 1, none⟩ = some (.int .i64 ok) ∧ W.cell? ⟨tb, 2, none⟩ = some (.int .i64 all)) (first | (exact ⟨HI5.out.cell 0, HI5.out.cell 1, HI5.out.cell 2⟩) | (exact ⟨HI4.out.cell 0, HI4.out.cell 1, HI4.out.cell 2⟩) | go_keep) (first
            | ((refine step_append_row (by rfl) (.tmp 43) (.tmp 50) 55 (by rfl) w6.heap.size 57 i0 _ 2 16 Tryd.underlying55 hi hz0 hz1 hz2 (by rfl) (by decide) _ K1.length _ (by rfl) (HO4.out.alloc _) _ 1 (keyCells [(y, id)]) (by rfl) (one_key _ (y, id) _ _ (by simp)) (keyCells_one _) (by unfold maxLen; omega) (by omega) (by have := HB4.out.size; simp; omega) ?_; intro v2 w2 hown2 hgrow2 hat2; have HO5 : Hid (w2.ownsRow w6.heap.size 57 2 v2 (K1.length + 1) (keyCells K1 ++ keyCells [(y, id)])) := hown2; have HB5 : Hid (Below w6.heap.size w6 w2) := (HB4.out.alloc HB4.out.size _).grown hgrow2 (by have := HB4.out.size; simp; omega) (own_base HO4.out); have HI5 : Hid (HasBox w2 tb 39 #[.int .i64 id, .int .i64 ok, .int .i64 all]) := (HI4.out.alloc _).grown hgrow2 HNe.out; clear hown2 hgrow2 hat2))
            | ((go_at_call 29; refine (HRt.out _).mono ?_; rintro e w4 ⟨rfl, hb4⟩; have HI4 : Hid (HasBox w4 tb 39 #[.int .i64 id, .int .i64 ok, .int .i64 all]) := HI1.out.below ((Below.refl _ _).drew.trans hb4); have HO4 : Hid (w4.ownsRow w6.heap.size 57 2 u7 K1.length (keyCells K1)) := own_below HO1.out ((Below.refl _ _).drew.trans hb4); have HB4 : Hid (Below w6.heap.size w6 w4) := HB1.out.trans (((Below.refl _ _).drew.trans hb4).mono HB1.out.size); clear hb4)))
          go_wp2
          have HO6 : Hid (w2.ownsRow w6.heap.size 57 2 v2 K2.length (keyCells K2)) := by
            show World.ownsRow _ _ _ _ _ _ _
            rw [HNk.out, keyCells_append, List.length_append]; exact HO5.out
          clear HO5
          go_roundw
          case rel => exact ⟨k + 1, by omega, by go_num, by rw [hK2]; exact HO6.out, HB5.out⟩
          case measure => simp [intOf]; omega
    · obtain rfl : k = E.length := by omega
      have hkl := keysB_length E F p E.length
      have HKs : Hid (IsKeys wr u7 (keysB E F p E.length)) := isKeys_own HO.out rfl (by omega) (fun q hq => by
        obtain ⟨i, hi, rfl⟩ := keysB_mem hq
        exact inRd_key (HE6.out.in i hi))
      have HKl : Hid ((keysB E F p E.length).length ≤ 64) := by show _ ≤ _; omega
      have HB7 : Hid (Below w.heap.size w wr) := HB6.out.trans (HB.out.mono HB6.out.size)
      clear HO HB hkl
      generalize hK : keysB E F p E.length = K at *
      go_wp2_with fail
      refine (sort_any K _ _ HKs.out (by have := HKl.out; omega)).mono ?_
      rintro e w7 ⟨v7, rfl, hk7, hb7⟩
      have HK7 : Hid (IsKeys w7 v7 (sortV K)) := hk7
      have HB8 : Hid (Below w.heap.size w w7) := HB7.out.trans (hb7.mono HB7.out.size)
      clear hk7 hb7 HB7 HKs
      go_wp2_with fail
      refine (ids_any (sortV K) _ _ HK7.out (by rw [sortV_length]; have := HKl.out; omega)).mono ?_
      rintro e w8 ⟨v8, rfl, hk8, hb8⟩
      have HK8 : Hid (IsInts w8 v8 ((sortV K).map (·.2))) := hk8
      have HB9 : Hid (Below w.heap.size w w8) := HB8.out.trans (hb8.mono HB8.out.size)
      clear hk8 hb8 HB8
      go_wp2
      go_ret
      exact ⟨_, rfl, by rw [hK]; exact HK8.out, HB9.out⟩

end Go.Proofs.YtjknflpclniiiaaDoor

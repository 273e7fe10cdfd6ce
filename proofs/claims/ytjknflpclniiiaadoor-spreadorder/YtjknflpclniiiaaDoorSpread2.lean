/-
  The contracts of package spread: mayBad, enough, ids.
-/
import Derived.Test.YtjknflpclniiiaaDoorRatedKit
import Derived.Test.YtjknflpclniiiaaDoorSpread1
import Derived.Test.YtjknflpclniiiaaDoorOrderSort
import Derived.Test.YtjknflpclniiiaaDoorOrderLR
namespace Go.Proofs.YtjknflpclniiiaaDoor
open Go.RowKit

theorem infoKeyO : (Tryd.prog.info? 57).map (fun i => (i.zero, i.size, i.bytes)) = some (some (.agg #[.int .i64 0, .int .i64 0]), 2, 16) := by kernel_rfl
theorem infoNum : (Tryd.prog.info? 3).map (fun i => (i.zero, i.size, i.bytes)) = some (some (.int .i64 0), 1, 8) := by kernel_rfl
theorem mayRd_long {L : List Rd} (h : 64 < L.length) : mayRd L = false := by
  rw [Bool.eq_false_iff]
  intro h2
  have := ((mayRd_iff L).1 h2).1
  omega
theorem mayRd_bad {L : List Rd} (k : Nat) (hk : k < L.length) (h : mayBk (L.getD k noRd).b = false) : mayRd L = false := by
  rw [Bool.eq_false_iff]
  intro h2
  have := ((mayRd_iff L).1 h2).2.1 _ (getD_mem noRd hk)
  rw [h] at this
  cases this
theorem mayRd_all {L : List Rd} (hl : L.length ≤ 64) (h : ∀ j, j < L.length → mayBk (L.getD j noRd).b = true) : mayRd L = risingV (sortV (idKeys L)) := by
  rw [idKeys_rise]
  unfold mayRd
  rw [decide_eq_true hl, show (L.all fun x => mayBk x.b) = true from List.all_eq_true.2 fun x hx => by
    obtain ⟨i, hi, rfl⟩ := mem_getD hx noRd
    exact h i hi]
  rfl
theorem idKeys_length (L : List Rd) : (idKeys L).length = L.length := by simp [idKeys]
theorem idKeys_get (L : List Rd) (k : Nat) (h : k < L.length) : (idKeys L).getD k (0, 0) = ((L.getD k noRd).id, 0) := by simp [idKeys, h]

set_option maxRecDepth 100000 in
set_option maxHeartbeats 4000000 in
theorem mayBad_any (L : List Rd) (v : Value) (w : World) (hv : IsRd w v L) :
    Calls Tryd.prog 25 #[v] w fun e w' => e = .returned (.bool (mayRd L)) ∧ Below w.heap.size w w' := by
  obtain ⟨ao, cap, rfl⟩ := hv.shaped
  have HL : Hid (IsRd w (.slice ao L.length cap) L) := hv
  have hmax := hv.row.2.1.1
  unfold maxLen at hmax
  clear hv
  by_cases h1 : 64 < L.length
  · have h1' : (64 : Int) < (L.length : Int) := by omega
    rw [mayRd_long h1]
    clear h1
    go_enter Tryd.func25, Tryd.ntmps25
    go_wp2
    go_ret
    exact ⟨rfl, Below.refl _ _⟩
  have h1' : ¬ (64 : Int) < (L.length : Int) := by omega
  have HLen : Hid (L.length ≤ 64) := by show _ ≤ _; omega
  have HBad : Hid (∀ k, k < L.length → mayBk (L.getD k noRd).b = false → mayRd L = false) := fun k hk h => mayRd_bad k hk h
  have HGood : Hid ((∀ j, j < L.length → mayBk (L.getD j noRd).b = true) → mayRd L = risingV (sortV (idKeys L))) := mayRd_all (by omega)
  have HIn : Hid (∀ k ∈ idKeys L, inK k) := fun k hk => by
    obtain ⟨x, hx, rfl⟩ := List.mem_map.1 hk
    exact ⟨(HL.out.ok x hx).1, by simp⟩
  have hm := run_make_flat (P := Tryd.prog) 55 57 (.agg #[.int .i64 0, .int .i64 0]) (.int .i64 0) 2 16 Tryd.underlying55 infoKeyO rfl (by omega) L.length (by have := HLen.out; omega) (by have := HLen.out; omega)
  clear h1
  go_enter Tryd.func25, Tryd.ntmps25
  go_upto_region 4 with fail
  generalize hW3 : World.alloc _ _ = W3
  have HX : Hid (HasBox W3 w.heap.size 57 (fillV (keyCells (idKeys L)) (.int .i64 0) (0 * 2))) := by
    show HasBox _ _ _ _
    rw [← hW3, Nat.zero_mul, fill_start, keyCells_length, idKeys_length]
    simpa using hasBox_new w 57 (List.replicate (L.length * 2) (Value.int .i64 0)).toArray
  have HB3 : Hid (Below w.heap.size w W3) := by show Below _ _ _; rw [← hW3]; exact (Below.refl _ _).alloc (Nat.le_refl _) _
  clear hW3 hm
  go_wp2
  clear h1' hmax
  go_loopw [14] (fun i wr => ∃ k : Nat, k ≤ L.length ∧ i = .int .i64 k ∧ (∀ j, j < k → mayBk (L.getD j noRd).b = true) ∧ HasBox wr w.heap.size 57 (fillV (keyCells (idKeys L)) (.int .i64 0) (k * 2)) ∧ Below w.heap.size w wr) (fun i _ => L.length - (intOf i).toNat)
  case atStart => exact ⟨0, Nat.zero_le _, rfl, by omega, HX.out, HB3.out⟩
  case round =>
    obtain ⟨k, hk, rfl, hs, hx, hb⟩ := hrel
    have HS : Hid (∀ j, j < k → mayBk (L.getD j noRd).b = true) := hs
    have HXr : Hid (HasBox wr w.heap.size 57 (fillV (keyCells (idKeys L)) (.int .i64 0) (k * 2))) := hx
    have HB : Hid (Below w.heap.size w wr) := hb
    clear hs hx hb HX HB3
    have hlen := HLen.out
    by_cases hlt : k < L.length
    · obtain ⟨b, off, rfl, hbl, g0, g1, g2⟩ := (HL.out.below HB.out).at k hlt
      have HE : Hid (mayBk (L.getD k noRd).b = false → mayRd L = false) := HBad.out k hlt
      have HN : Hid (mayBk (L.getD k noRd).b = true → ∀ j, j < k + 1 → mayBk (L.getD j noRd).b = true) := fun h j hj => by
        by_cases e : j = k
        · subst e; exact h
        · exact HS.out j (by omega)
      have HC : Hid (∀ W : World, Calls Tryd.prog 40 #[bval (L.getD k noRd).b] W fun e w' => e = .returned (.bool (mayBk (L.getD k noRd).b)) ∧ Below W.heap.size W w') := kMay_any _
      have hkl : (keyCells (idKeys L)).length = L.length * 2 := by rw [keyCells_length, idKeys_length]
      obtain ⟨q0, q1⟩ := keyCells_at (idKeys L) k (by rw [idKeys_length]; exact hlt)
      rw [idKeys_get L k hlt] at q0 q1
      have HA0 : Hid ((fillV (keyCells (idKeys L)) (.int .i64 0) (k * 2))[k * 2]? = some (.int .i64 0)) := fill_at (by omega)
      have HA1 : Hid ((fillV (keyCells (idKeys L)) (.int .i64 0) (k * 2 + 1))[k * 2 + 1]? = some (.int .i64 0)) := fill_at (by omega)
      have HT0 : Hid ((fillV (keyCells (idKeys L)) (.int .i64 0) (k * 2)).setIfInBounds (k * 2) (.int .i64 (L.getD k noRd).id) = fillV (keyCells (idKeys L)) (.int .i64 0) (k * 2 + 1)) := fill_set (by omega) q0
      have HT1 : Hid ((fillV (keyCells (idKeys L)) (.int .i64 0) (k * 2 + 1)).setIfInBounds (k * 2 + 1) (.int .i64 0) = fillV (keyCells (idKeys L)) (.int .i64 0) ((k + 1) * 2)) := by have := fill_set (L := keyCells (idKeys L)) (d := .int .i64 0) (k := k * 2 + 1) (by omega) q1; rwa [show k * 2 + 1 + 1 = (k + 1) * 2 by omega] at this
      generalize hA2 : fillV (keyCells (idKeys L)) (.int .i64 0) ((k + 1) * 2) = A2 at *
      generalize fillV (keyCells (idKeys L)) (.int .i64 0) (k * 2 + 1) = A1 at *
      generalize fillV (keyCells (idKeys L)) (.int .i64 0) (k * 2) = A0 at *
      generalize L.getD k noRd = x at *
      obtain ⟨id, ok, all⟩ := x
      unfold bval bcells at HC
      simp only at HC HE HN g0 g1 g2 HT0 q0 q1
      clear q0 q1 hkl
      generalize mayBk ⟨ok, all⟩ = m at *
      go_wp2_with fail
      refine (HC.out _).mono ?_
      rintro e w1 ⟨rfl, hb⟩
      have HX1 : Hid (HasBox w1 w.heap.size 57 A0) := (HXr.out.alloc _).below hb
      have HI1 : Hid (HasBox w1 wr.heap.size 39 #[.int .i64 id, .int .i64 ok, .int .i64 all]) := (hasBox_new wr _ _).below hb
      have HB1 : Hid (Below w.heap.size w w1) := HB.out.trans (((Below.refl _ _).alloc (Nat.le_refl _) _).trans (hb.mono (by simp)) |>.mono HB.out.size)
      have HLt : Hid (w.heap.size < wr.heap.size) := HXr.out.lt
      clear hb HC HXr HB g0 g1 g2 hbl
      cases m with
      | false =>
        clear hA2
        go_wp2
        go_ret
        exact ⟨ret_bool (HE.out (by trivial)).symm, HB1.out⟩
      | true =>
        have c0 : w1.cell? ⟨wr.heap.size, 0, none⟩ = some (.int .i64 id) := HI1.out.cell 0
        have k0 : w1.cell? ⟨w.heap.size, k * 2, none⟩ = some (.int .i64 0) := (HX1.out.cell _).trans HA0.out
        have k1 : w1.cell? ⟨w.heap.size, k * 2 + 1, none⟩ = some (.int .i64 0) := (HX1.out.cell (k * 2 + 1)).trans (by rw [← HA1.out, ← HT0.out, Array.getElem?_setIfInBounds, if_neg (by omega)])
        have f0 : w1.frozen? ⟨w.heap.size, k * 2, none⟩ = false := HX1.out.frozen _
        have f1 : w1.frozen? ⟨w.heap.size, k * 2 + 1, none⟩ = false := HX1.out.frozen _
        go_wp2
        have HX2 : Hid (HasBox ((w1.setCell ⟨w.heap.size, k * 2, none⟩ (.int .i64 id)).setCell ⟨w.heap.size, k * 2 + 1, none⟩ (.int .i64 0)) w.heap.size 57 A2) := by
          show HasBox _ _ _ _
          rw [← HT1.out, ← HT0.out]
          exact (HX1.out.set _ _).set _ _
        have HB2 : Hid (Below w.heap.size w ((w1.setCell ⟨w.heap.size, k * 2, none⟩ (.int .i64 id)).setCell ⟨w.heap.size, k * 2 + 1, none⟩ (.int .i64 0))) := (HB1.out.setCell (by simp) _).setCell (by simp) _
        go_roundw
        case rel => exact ⟨k + 1, by omega, by go_num, HN.out (by trivial), by rw [hA2]; exact HX2.out, HB2.out⟩
        case measure => simp [intOf]; omega
    · obtain rfl : k = L.length := by omega
      have HK : Hid (IsKeys wr (.slice (some ⟨w.heap.size, 0, none⟩) L.length L.length) (idKeys L)) := by
        show IsKeys _ _ _
        have h1 := HXr.out
        have e : fillV (keyCells (idKeys L)) (.int .i64 0) (L.length * 2) = (keyCells (idKeys L)).toArray := by
          have := fill_end (keyCells (idKeys L)) (.int .i64 0)
          rwa [keyCells_length, idKeys_length] at this
        rw [e] at h1
        have hr := row_box (sz := 2) (n := L.length) h1 (by rw [keyCells_length, idKeys_length]) (by omega)
        have := IsRow.keys (ks := idKeys L) (by rw [idKeys_length]; exact hr) HIn.out (by rw [idKeys_length]; omega)
        exact this
      have HG : Hid (mayRd L = risingV (sortV (idKeys L))) := HGood.out fun j hj => HS.out j hj
      have HKl : Hid ((idKeys L).length ≤ 1000000) := by show _ ≤ _; rw [idKeys_length]; omega
      clear HXr HS HIn HBad HGood
      go_wp2_with fail
      refine (sort_any (idKeys L) _ _ HK.out HKl.out).mono ?_
      rintro e w1 ⟨v1, rfl, hk1, hb1⟩
      have HK1 : Hid (IsKeys w1 v1 (sortV (idKeys L))) := hk1
      have HB1 : Hid (Below w.heap.size w w1) := HB.out.trans (hb1.mono HB.out.size)
      clear hk1 hb1 HK HB
      go_wp2_with fail
      refine (rising_any (sortV (idKeys L)) _ _ HK1.out (by rw [sortV_length]; exact HKl.out)).mono ?_
      rintro e w2 ⟨rfl, hb2⟩
      have HB2 : Hid (Below w.heap.size w w2) := HB1.out.trans (hb2.mono HB1.out.size)
      clear hb2
      go_wp2
      go_ret
      exact ⟨ret_bool HG.out.symm, HB2.out⟩

theorem enL_in {L : List Rd} (h : ∀ x ∈ L, inRd x) (n : Int) : ∀ x ∈ enL L n, inRd x := fun x hx => h x (List.mem_filter.1 hx).1
set_option maxRecDepth 100000 in
set_option maxHeartbeats 4000000 in
theorem enough_any (L : List Rd) (n : Int) (v : Value) (w : World) (hv : IsRd w v L) (hlen : L.length ≤ 64) :
    Calls Tryd.prog 26 #[v, .int .i64 n] w fun e w' => ∃ v', e = .returned v' ∧ IsRd w' v' (enL L n) ∧ Below w.heap.size w w' := by
  obtain ⟨ao, cap, rfl⟩ := hv.shaped
  have HL : Hid (IsRd w (.slice ao L.length cap) L) := hv
  have HLen : Hid (L.length ≤ 64) := hlen
  clear hv
  obtain ⟨i0, hi, hz0, hz1, hz2⟩ := info_parts infoRated
  go_enter Tryd.func26, Tryd.ntmps26
  go_wp2
  clear hlen
  go_loopw [5, 10] (fun o i wr => ∃ k : Nat, k ≤ L.length ∧ i = .int .i64 k ∧ wr.ownsRow w.heap.size 39 3 o (enL (L.take k) n).length (rdCells (enL (L.take k) n)) ∧ Below w.heap.size w wr) (fun _ i _ => L.length - (intOf i).toNat)
  case atStart => exact ⟨0, Nat.zero_le _, rfl, World.ownsRow_nil _ _ _ _, Below.refl _ _⟩
  case round =>
    obtain ⟨k, hk, rfl, ho, hb⟩ := hrel
    have HO : Hid (wr.ownsRow w.heap.size 39 3 u5 (enL (L.take k) n).length (rdCells (enL (L.take k) n))) := ho
    have HB : Hid (Below w.heap.size w wr) := hb
    clear ho hb
    have hlen := HLen.out
    by_cases hlt : k < L.length
    · obtain ⟨b, off, rfl, hbl, g0, g1, g2⟩ := (HL.out.below HB.out).at k hlt
      have HN : Hid (enL (L.take (k + 1)) n = enL (L.take k) n ++ (if enoughK (L.getD k noRd).b n = true then [L.getD k noRd] else [])) := enL_next L n k hlt
      have HC : Hid (∀ W : World, Calls Tryd.prog 42 #[bval (L.getD k noRd).b, .int .i64 n] W fun e w' => e = .returned (.bool (enoughK (L.getD k noRd).b n)) ∧ Below W.heap.size W w') := kEnough_any _ n
      have HEl : Hid ((enL (L.take k) n).length ≤ 64) := by
        have := enL_length (L.take k) n
        rw [List.length_take] at this
        show _ ≤ _; omega
      generalize enL (L.take k) n = E at *
      generalize L.getD k noRd = x at *
      obtain ⟨id, ok, all⟩ := x
      unfold bval bcells at HC
      simp only at HC HN g0 g1 g2
      generalize enoughK ⟨ok, all⟩ n = m at *
      go_wp2_with fail
      refine (HC.out _).mono ?_
      rintro e w1 ⟨rfl, hb⟩
      have HI1 : Hid (HasBox w1 wr.heap.size 39 #[.int .i64 id, .int .i64 ok, .int .i64 all]) := (hasBox_new wr _ _).below hb
      have HO1 : Hid (w1.ownsRow w.heap.size 39 3 u5 E.length (rdCells E)) := own_below (HO.out.alloc _) hb
      have HB1 : Hid (Below w.heap.size w w1) := HB.out.trans (((Below.refl _ _).alloc (Nat.le_refl _) _).trans (hb.mono (by simp)) |>.mono HB.out.size)
      clear hb HC HO HB g0 g1 g2 hbl
      cases m with
      | false =>
        rw [if_neg (by simp), List.append_nil] at HN
        go_wp2
        go_roundw
        case rel => exact ⟨k + 1, by omega, by go_num, by rw [HN.out]; exact HO1.out, HB1.out⟩
        case measure => simp [intOf]; omega
      | true =>
        rw [if_pos rfl] at HN
        have c0 : w1.cell? ⟨wr.heap.size, 0, none⟩ = some (.int .i64 id) := HI1.out.cell 0
        have c1 : w1.cell? ⟨wr.heap.size, 1, none⟩ = some (.int .i64 ok) := HI1.out.cell 1
        have c2 : w1.cell? ⟨wr.heap.size, 2, none⟩ = some (.int .i64 all) := HI1.out.cell 2
        have hel := HEl.out
        go_wp2_with (at_builtin; refine wpList_append_row rfl (.tmp 18) (.tmp 20) 25 rfl w.heap.size 39 i0 _ 3 24 Tryd.underlying25 hi hz0 hz1 hz2 rfl (by decide) _ E.length _ rfl (HO1.out.alloc _) _ 1 (rdCells [⟨id, ⟨ok, all⟩⟩]) rfl (one_rd _ ⟨id, ⟨ok, all⟩⟩ _ _ (by simp)) (rdCells_one _) (by unfold maxLen; omega) (by omega) (by have := HB1.out.size; simp; omega) ?_)
        intro v' w2 hown hgrow _
        have HO2 : Hid (w2.ownsRow w.heap.size 39 3 v' (E ++ [(⟨id, ⟨ok, all⟩⟩ : Rd)]).length (rdCells (E ++ [(⟨id, ⟨ok, all⟩⟩ : Rd)]))) := by
          show World.ownsRow _ _ _ _ _ _ _
          rw [rdCells_append, List.length_append]; exact hown
        have HB2 : Hid (Below w.heap.size w w2) := (HB1.out.alloc HB1.out.size _).grown hgrow (by have := HB1.out.size; simp; omega) (own_base HO1.out)
        clear hown hgrow HO1 HB1 HI1 c0 c1 c2
        go_wp2
        go_roundw
        case rel => exact ⟨k + 1, by omega, by go_num, by rw [HN.out]; exact HO2.out, HB2.out⟩
        case measure => simp [intOf]; omega
    · go_wp2
      go_ret
      have hh := HO.out
      rw [List.take_of_length_le (by omega)] at hh
      exact ⟨_, rfl, own_rd hh rfl (enL_in HL.out.ok n), HB.out⟩

set_option maxRecDepth 100000 in
set_option maxHeartbeats 4000000 in
theorem ids_any (ks : List (Int × Int)) (v : Value) (w : World) (hv : IsKeys w v ks) (hlen : ks.length ≤ 1000000) :
    Calls Tryd.prog 30 #[v] w fun e w' => ∃ v', e = .returned v' ∧ IsInts w' v' (ks.map (·.2)) ∧ Below w.heap.size w w' := by
  obtain ⟨ao, cap, rfl⟩ := hv.shape
  have HL : Hid (IsKeys w (.slice ao ks.length cap) ks) := hv
  have HLen : Hid (ks.length ≤ 1000000) := hlen
  clear hv
  obtain ⟨i0, hi, hz0, hz1, hz2⟩ := info_parts infoNum
  go_enter Tryd.func30, Tryd.ntmps30
  go_wp2
  clear hlen
  go_loopw [3, 8] (fun o i wr => ∃ k : Nat, k ≤ ks.length ∧ i = .int .i64 k ∧ wr.ownsRow w.heap.size 3 1 o k (((ks.take k).map (·.2)).map (Value.int .i64)) ∧ Below w.heap.size w wr) (fun _ i _ => ks.length - (intOf i).toNat)
  case atStart => exact ⟨0, Nat.zero_le _, rfl, World.ownsRow_nil _ _ _ _, Below.refl _ _⟩
  case round =>
    obtain ⟨k, hk, rfl, ho, hb⟩ := hrel
    have HO : Hid (wr.ownsRow w.heap.size 3 1 u3 k (((ks.take k).map (·.2)).map (Value.int .i64))) := ho
    have HB : Hid (Below w.heap.size w wr) := hb
    clear ho hb
    have hlen := HLen.out
    by_cases hlt : k < ks.length
    · rcases (HL.out.below HB.out).2.2 with ⟨h0, _⟩ | ⟨_, b1, o1, c1', e1, hlt1, hc1⟩
      · rw [h0] at hlt; simp at hlt
      simp only [Value.slice.injEq] at e1
      obtain ⟨rfl, _, rfl⟩ := e1
      obtain ⟨g1, g2⟩ := hc1 k hlt
      clear hc1
      have HN : Hid (((ks.take (k + 1)).map (·.2)).map (Value.int .i64) = ((ks.take k).map (·.2)).map (Value.int .i64) ++ [.int .i64 (ks.getD k (0, 0)).2]) := by
        show _ = _
        rw [take_next ks k hlt (0, 0)]
        simp
      generalize ((ks.take k).map (·.2)).map (Value.int .i64) = E at *
      generalize ks.getD k (0, 0) = x at g1 g2 HN
      obtain ⟨x1, x2⟩ := x
      simp only at g1 g2 HN
      go_wp2_with (at_builtin; refine wpList_append_row rfl (.tmp 12) (.tmp 15) 22 rfl w.heap.size 3 i0 _ 1 8 Tryd.underlying22 hi hz0 hz1 hz2 rfl (by decide) _ k _ rfl ((HO.out.alloc _).alloc _) _ 1 [.int .i64 x2] rfl (one_val _ _ _ _ (by simp)) (by simp [Value.oneCell']) (by unfold maxLen; omega) (by omega) (by have := HB.out.size; simp; omega) ?_)
      intro v' w2 hown hgrow _
      have HO2 : Hid (w2.ownsRow w.heap.size 3 1 v' (k + 1) (((ks.take (k + 1)).map (·.2)).map (Value.int .i64))) := by
        show World.ownsRow _ _ _ _ _ _ _
        rw [HN.out]; exact hown
      have HB2 : Hid (Below w.heap.size w w2) := ((HB.out.alloc HB.out.size _).alloc (by have := HB.out.size; simp; omega) _).grown hgrow (by have := HB.out.size; simp; omega) (own_base HO.out)
      clear hown hgrow HO HB
      go_wp2
      go_roundw
      case rel => exact ⟨k + 1, by omega, by go_num, HO2.out, HB2.out⟩
      case measure => simp [intOf]; omega
    · go_wp2
      go_ret
      have hh := HO.out
      rw [List.take_of_length_le (by omega)] at hh
      refine ⟨_, rfl, isInts_own hh (by simp; omega) (by simp; omega) (fun x hx => ?_), HB.out⟩
      obtain ⟨q, hq, rfl⟩ := List.mem_map.1 hx
      exact (HL.out.1 q hq).2

end Go.Proofs.YtjknflpclniiiaaDoor

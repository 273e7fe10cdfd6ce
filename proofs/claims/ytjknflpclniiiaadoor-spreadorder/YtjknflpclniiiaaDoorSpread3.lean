/-
  The contracts of package spread: farOf, Bad.
-/
import Derived.Test.YtjknflpclniiiaaDoorSpread2
import Derived.Test.YtjknflpclniiiaaDoorKnownKit
namespace Go.Proofs.YtjknflpclniiiaaDoor
open Go.RowKit

set_option maxRecDepth 100000 in
set_option maxHeartbeats 4000000 in
theorem farOf_any (c : Cfg) (H : List Rd) (v : Value) (w : World) (hv : IsRd w v H) (hlen : H.length ≤ 64) :
    Calls Tryd.prog 27 #[.agg c.arr, v] w fun e w' => ∃ v', e = .returned v' ∧ IsBools w' v' (farOf H c.f9 c.f11) ∧ Below w.heap.size w w' := by
  obtain ⟨ao, cap, rfl⟩ := hv.shaped
  have HL : Hid (IsRd w (.slice ao H.length cap) H) := hv
  have HLen : Hid (H.length ≤ 64) := hlen
  have HI : Hid ((Tryd.prog.info? 24).map (·.size) = some c.arr.size) := arr_inf c
  have HZ9 : Hid (c.arr[9]? = some (.int .i64 c.f9)) := rfl
  have HZ11 : Hid (c.arr[11]? = some (.int .i64 c.f11)) := rfl
  clear hv
  generalize c.f9 = ho at *
  generalize c.f11 = fa at *
  generalize c.arr = cs at *
  by_cases h : fa = 0 ∨ (H.length : Int) < ho
  · have e : farOf H ho fa = List.replicate H.length false := if_pos h
    rw [e]
    have hm := run_make_flat (P := Tryd.prog) 28 4 (.bool false) (.bool false) 1 1 Tryd.underlying28 infoBool rfl (by omega) H.length (by omega) (by omega)
    have HEnd : Hid (∀ (W : World) (g : Nat), HasBox W g 4 (Array.replicate H.length (Value.bool false)) → IsBools W (.slice (some ⟨g, 0, none⟩) H.length H.length) (List.replicate H.length false)) := fun W g hg => by
      have := bools_box (l := List.replicate H.length false) (by rw [List.map_replicate]; simpa using hg) (by have := HLen.out; simp; omega)
      rwa [List.length_replicate] at this
    clear e
    by_cases h0 : fa = 0
    · have e0 : (fa == 0) = true := by simp [h0]
      clear h h0
      go_enter Tryd.func27, Tryd.ntmps27
      go_upto_region 1 with fail
      generalize hW0 : w.alloc _ = W0
      have g11 : W0.cell? ⟨w.heap.size, 11, none⟩ = some (.int .i64 fa) := by rw [← hW0]; exact (HasBox.cell (heap_alloc_new w _) 11).trans HZ11.out
      have HB0 : Hid (Below w.heap.size w W0) := by show Below _ _ _; rw [← hW0]; exact (Below.refl _ _).alloc (Nat.le_refl _) _
      clear hW0
      go_wp2
      go_ret
      exact ⟨_, rfl, HEnd.out _ _ (by simpa using hasBox_new W0 4 _), HB0.out.alloc HB0.out.size _⟩
    · have e0 : (fa == 0) = false := by simp [h0]
      have h1 : (H.length : Int) < ho := by omega
      clear h h0
      go_enter Tryd.func27, Tryd.ntmps27
      go_upto_region 1 with fail
      generalize hW0 : w.alloc _ = W0
      have g11 : W0.cell? ⟨w.heap.size, 11, none⟩ = some (.int .i64 fa) := by rw [← hW0]; exact (HasBox.cell (heap_alloc_new w _) 11).trans HZ11.out
      have g9 : W0.cell? ⟨w.heap.size, 9, none⟩ = some (.int .i64 ho) := by rw [← hW0]; exact (HasBox.cell (heap_alloc_new w _) 9).trans HZ9.out
      have HB0 : Hid (Below w.heap.size w W0) := by show Below _ _ _; rw [← hW0]; exact (Below.refl _ _).alloc (Nat.le_refl _) _
      clear hW0
      go_wp2
      go_ret
      exact ⟨_, rfl, HEnd.out _ _ (by simpa using hasBox_new W0 4 _), HB0.out.alloc HB0.out.size _⟩
  · have e : farOf H ho fa = farA (H.map fun x => rateK x.b) fa := if_neg h
    rw [e]
    have h0 : ¬ fa = 0 := fun h0 => h (.inl h0)
    have h1 : ¬ (H.length : Int) < ho := fun h0 => h (.inr h0)
    have e0 : (fa == 0) = false := by simp [h0]
    have hm := run_make_flat (P := Tryd.prog) 22 3 (.int .i64 0) (.int .i64 0) 1 8 Tryd.underlying22 infoNum rfl (by omega) H.length (by omega) (by omega)
    have HRl : Hid ((H.map fun x => rateK x.b).length = H.length) := List.length_map _
    have HRg : Hid (∀ k, k < H.length → ((H.map fun x => rateK x.b).map (Value.int .i64))[k]? = some (.int .i64 (rateK (H.getD k noRd).b))) := fun k hk => by simp [hk]
    have HRo : Hid (∀ x ∈ (H.map fun x => rateK x.b), -9223372036854775808 ≤ x ∧ x ≤ 9223372036854775807) := fun x hx => by
      have := rates_ok H x hx
      omega
    clear h h0 e
    generalize (H.map fun x => rateK x.b) = R at *
    go_enter Tryd.func27, Tryd.ntmps27
    go_upto_region 1 with fail
    generalize hW0 : w.alloc _ = W0
    have HC0 : Hid (HasBox W0 w.heap.size 24 cs) := by show HasBox _ _ _ _; rw [← hW0]; exact hasBox_new w _ _
    have HB0 : Hid (Below w.heap.size w W0) := by show Below _ _ _; rw [← hW0]; exact (Below.refl _ _).alloc (Nat.le_refl _) _
    clear hW0
    have g11 : W0.cell? ⟨w.heap.size, 11, none⟩ = some (.int .i64 fa) := (HC0.out.cell 11).trans HZ11.out
    have g9 : W0.cell? ⟨w.heap.size, 9, none⟩ = some (.int .i64 ho) := (HC0.out.cell 9).trans HZ9.out
    go_upto_region 4 with fail
    generalize hW3 : World.alloc _ _ = W3
    have HC3 : Hid (HasBox W3 w.heap.size 24 cs) := by show HasBox _ _ _ _; rw [← hW3]; exact HC0.out.alloc _
    have HB3 : Hid (Below w.heap.size w W3) := by show Below _ _ _; rw [← hW3]; exact HB0.out.alloc HB0.out.size _
    have HX3 : Hid (HasBox W3 W0.heap.size 3 (fillV (R.map (Value.int .i64)) (.int .i64 0) 0)) := by
      show HasBox _ _ _ _
      rw [← hW3, fill_start, List.length_map, HRl.out]
      simpa using hasBox_new W0 3 (Array.replicate H.length (Value.int .i64 0))
    have HLt : Hid (w.heap.size < W0.heap.size) := HC0.out.lt
    clear hW3 HC0 HB0 g11 g9 hm h1 e0
    generalize W0.heap.size = bo at HX3 HLt ⊢
    go_wp2
    go_loopw [26] (fun i wr => ∃ k : Nat, k ≤ H.length ∧ i = .int .i64 k ∧ HasBox wr bo 3 (fillV (R.map (Value.int .i64)) (.int .i64 0) k) ∧ HasBox wr w.heap.size 24 cs ∧ Below w.heap.size w wr) (fun i _ => H.length - (intOf i).toNat)
    case atStart => exact ⟨0, Nat.zero_le _, rfl, HX3.out, HC3.out, HB3.out⟩
    case round =>
      obtain ⟨k, hk, rfl, hx, hc, hb⟩ := hrel
      have HX : Hid (HasBox wr bo 3 (fillV (R.map (Value.int .i64)) (.int .i64 0) k)) := hx
      have HC : Hid (HasBox wr w.heap.size 24 cs) := hc
      have HB : Hid (Below w.heap.size w wr) := hb
      clear hx hc hb HX3 HC3 HB3
      by_cases hlt : k < H.length
      · obtain ⟨b, off, rfl, hbl, g0, g1, g2⟩ := (HL.out.below HB.out).at k hlt
        have HCl : Hid (∀ W : World, Calls Tryd.prog 29 #[bval (H.getD k noRd).b] W fun e w' => e = .returned (.int .i64 (rateK (H.getD k noRd).b)) ∧ Below W.heap.size W w') := kRate_any _ (HL.out.in k hlt).2
        have HAt : Hid ((fillV (R.map (Value.int .i64)) (.int .i64 0) k)[k]? = some (.int .i64 0)) := fill_at (by rw [List.length_map, HRl.out]; exact hlt)
        have HSet : Hid ((fillV (R.map (Value.int .i64)) (.int .i64 0) k).setIfInBounds k (.int .i64 (rateK (H.getD k noRd).b)) = fillV (R.map (Value.int .i64)) (.int .i64 0) (k + 1)) := fill_set (by rw [List.length_map, HRl.out]; exact hlt) (HRg.out k hlt)
        generalize hA2 : fillV (R.map (Value.int .i64)) (.int .i64 0) (k + 1) = A2 at *
        generalize fillV (R.map (Value.int .i64)) (.int .i64 0) k = A1 at *
        generalize H.getD k noRd = x at *
        obtain ⟨id, ok, all⟩ := x
        unfold bval bcells at HCl
        simp only at HCl HSet g0 g1 g2
        generalize rateK ⟨ok, all⟩ = y at *
        go_wp2_with fail
        refine (HCl.out _).mono ?_
        rintro e w5 ⟨rfl, hb5⟩
        have HX5 : Hid (HasBox w5 bo 3 A1) := (HX.out.alloc _).below hb5
        have HC5 : Hid (HasBox w5 w.heap.size 24 cs) := (HC.out.alloc _).below hb5
        have HB5 : Hid (Below w.heap.size w w5) := HB.out.trans (((Below.refl _ _).alloc (Nat.le_refl _) _).trans (hb5.mono (by simp)) |>.mono HB.out.size)
        clear hb5 HX HC HB HCl g0 g1 g2 hbl
        have gk : w5.cell? ⟨bo, k, none⟩ = some (.int .i64 0) := (HX5.out.cell k).trans HAt.out
        have fk : w5.frozen? ⟨bo, k, none⟩ = false := HX5.out.frozen k
        go_wp2
        have HX6 : Hid (HasBox (w5.setCell ⟨bo, k, none⟩ (.int .i64 y)) bo 3 A2) := by show HasBox _ _ _ _; rw [← HSet.out]; exact HX5.out.set _ _
        have HC6 : Hid (HasBox (w5.setCell ⟨bo, k, none⟩ (.int .i64 y)) w.heap.size 24 cs) := HC5.out.setOther _ (by have := HLt.out; show w.heap.size ≠ bo; omega) _
        have HB6 : Hid (Below w.heap.size w (w5.setCell ⟨bo, k, none⟩ (.int .i64 y))) := HB5.out.setCell (by have := HLt.out; show _ ≤ bo; omega) _
        go_roundw
        case rel => exact ⟨k + 1, by omega, by go_num, by rw [hA2]; exact HX6.out, HC6.out, HB6.out⟩
        case measure => simp [intOf]; omega
      · obtain rfl : k = H.length := by omega
        have HN : Hid (IsInts wr (.slice (some ⟨bo, 0, none⟩) H.length H.length) R) := by
          show IsInts _ _ _
          have h1 := HX.out
          have e : fillV (R.map (Value.int .i64)) (.int .i64 0) H.length = (R.map (Value.int .i64)).toArray := by
            have := fill_end (R.map (Value.int .i64)) (.int .i64 0)
            rwa [List.length_map, HRl.out] at this
          rw [e] at h1
          have hr := row_box (sz := 1) (n := H.length) h1 (by rw [List.length_map, HRl.out]; omega) (by omega)
          exact IsRow.asInts (by rw [HRl.out]; exact hr) HRo.out
        have g11 : wr.cell? ⟨w.heap.size, 11, none⟩ = some (.int .i64 fa) := (HC.out.cell 11).trans HZ11.out
        clear HX HC HRg HRo
        go_wp2_with fail
        refine (far_any R fa _ _ HN.out).mono ?_
        rintro e w5 ⟨v', rfl, h5, hb5⟩
        have H5 : Hid (IsBools w5 v' (farA R fa)) := h5
        have HB5 : Hid (Below w.heap.size w w5) := HB.out.trans (hb5.mono HB.out.size)
        clear h5 hb5 HN HB g11
        go_wp2
        go_ret
        exact ⟨_, rfl, H5.out, HB5.out⟩

end Go.Proofs.YtjknflpclniiiaaDoor

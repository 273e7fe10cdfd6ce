/-
  The contract of the reference's Sort: the sorted row of the keys, in new memory.
-/
import Derived.Test.YtjknflpclniiiaaDoorRefOrder
import Derived.BigQuiet
namespace Go.Proofs.YtjknflpclniiiaaDoor
open Go.RowKit

set_option maxHeartbeats 2000000 in
theorem refSort_any (ks : List (Int × Int)) (v : Value) (w : World) (hv : IsKeys w v ks) (hlen : ks.length ≤ 1000000) :
    Calls Tryd.prog 32 #[v] w fun e w' => ∃ v', e = .returned v' ∧ IsKeys w' v' (sortV ks) ∧ Below w.heap.size w w' := by
  obtain ⟨ao, c1, rfl⟩ := hv.shape
  obtain ⟨i0, hi, hz0, hz1, hz2⟩ := info_parts infoKey61
  go_enter Tryd.func32, Tryd.ntmps32
  go_wp2
  go_loopw [3, 9] (fun o i wr => ∃ (k : Nat) (L : List (Int × Int)), k ≤ ks.length ∧ i = .int .i64 k ∧ L.length = k ∧ L.Perm (ks.take k) ∧ SortedK L ∧ wr.ownsRow w.heap.size 61 2 o k (keyCells L) ∧ Below w.heap.size w wr) (fun _ i _ => ks.length - (intOf i).toNat)
  case atStart => exact ⟨0, [], Nat.zero_le _, rfl, rfl, by simp, List.Pairwise.nil, World.ownsRow_nil _ _ _ _, Below.refl _ _⟩
  case round =>
    obtain ⟨k, L, hk, rfl, hLl, hLp, hLs, ho, hb⟩ := hrel
    have HO : Hid (wr.ownsRow w.heap.size 61 2 u3 k (keyCells L)) := ho
    have HB : Hid (Below w.heap.size w wr) := hb
    have HLl : Hid (L.length = k) := hLl
    have HLp : Hid (L.Perm (ks.take k)) := hLp
    have HLs : Hid (SortedK L) := hLs
    by_cases hlt : k < ks.length
    · rcases (hv.below hb).2.2 with ⟨h0, _⟩ | ⟨_, b1, o1, c1', e1, hlt1, hc1⟩
      · rw [h0] at hlt; simp at hlt
      simp only [Value.slice.injEq] at e1
      obtain ⟨rfl, _, rfl⟩ := e1
      obtain ⟨g1, g2⟩ := hc1 k hlt
      clear hc1 ho hb hLl hLp hLs
      have HN : Hid (ks.take (k + 1) = ks.take k ++ [ks.getD k (0, 0)]) := by
        show _ = _
        rw [kgetD k hlt, List.take_succ_eq_append_getElem hlt]
      generalize ks.getD k (0, 0) = x at g1 g2 HN
      obtain ⟨lsh, hlsh⟩ : ∃ ol oc, u3 = .slice ol k oc := by
        rcases HO.out.2 with ⟨rfl, h⟩ | ⟨g, cap, cur, rfl, _⟩
        · exact ⟨_, _, by rw [h]⟩
        · exact ⟨_, _, rfl⟩
      obtain ⟨loc, rfl⟩ := hlsh
      go_wp2_with (at_builtin; refine wpList_append_row rfl (.tmp 15) (.tmp 17) 60 rfl w.heap.size 61 i0 _ 2 16 Tryd.underlying60 hi hz0 hz1 hz2 rfl (by decide) _ k _ rfl ((HO.out.alloc _).alloc _) _ 1 (keyCells [x]) rfl (one_key _ x _ _ (by simp)) (keyCells_one _) (by unfold maxLen; omega) (by omega) (by have := HB.out.size; simp; omega) ?_)
      intro v' w1 hown hgrow hat
      have hsz := HB.out.size
      obtain ⟨g, cap, rfl⟩ : ∃ g cap, v' = .slice (some ⟨g, 0, none⟩) (k + 1) cap := by
        rcases hown.2 with ⟨_, h⟩ | ⟨g, cap, cur, rfl, _⟩
        · omega
        · exact ⟨g, cap, rfl⟩
      have hgl := hown.lt g rfl
      have hgn : g ≠ wr.heap.size := by
        rcases hat with h | h
        · have := HO.out.lt g (by rw [← h]; rfl); omega
        · simp [Value.ownBlock] at h; omega
      have hfar : ∀ o, w1.cell? ⟨wr.heap.size, o, none⟩ = ((wr.alloc (.cells #[.int .i64 x.1, .int .i64 x.2] 61)).alloc (.cells #[.int .i64 x.1, .int .i64 x.2] 61)).cell? ⟨wr.heap.size, o, none⟩ := fun o =>
        hgrow.cell_far _ (by simp; omega) (fun h => by have := HO.out.lt wr.heap.size h.symm; omega)
      have x1 : w1.cell? ⟨wr.heap.size, 0, none⟩ = some (.int .i64 x.1) := by rw [hfar]; simp
      have x2 : w1.cell? ⟨wr.heap.size, 1, none⟩ = some (.int .i64 x.2) := by rw [hfar]; simp
      have HO1 : Hid (w1.ownsRow w.heap.size 61 2 (.slice (some ⟨g, 0, none⟩) (k + 1) cap) (k + 1) (keyCells (holed L k x))) := by
        show World.ownsRow _ _ _ _ _ _ _
        rw [← HLl.out, ← holed_end, keyCells_append, HLl.out]; exact hown
      have HB1 : Hid (Below w.heap.size w w1) := ((HB.out.alloc HB.out.size _).alloc (by simp; omega) _).grown hgrow (by simp; omega) (own_base HO.out)
      have hG : wr.heap.size < w1.heap.size := by have := hgrow.size; simp at this; omega
      clear hown hgrow hat hfar
      have HX1 : Hid (w1.cell? ⟨wr.heap.size, 0, none⟩ = some (.int .i64 x.1)) := x1
      have HX2 : Hid (w1.cell? ⟨wr.heap.size, 1, none⟩ = some (.int .i64 x.2)) := x2
      clear x1 x2
      obtain ⟨G, hGe⟩ : ∃ G, G = wr.heap.size := ⟨_, rfl⟩
      rw [← hGe] at hgn hG HX1 HX2 ⊢
      clear hGe
      go_wp2
      go_loopw [6] (fun c wq => ∃ (i : Nat) (h : Int × Int), i ≤ k ∧ c = .int .i64 i ∧ wq.ownsRow w.heap.size 61 2 (.slice (some ⟨g, 0, none⟩) (k + 1) cap) (k + 1) (keyCells (holed L i h)) ∧
        (∀ j, i ≤ j → j < L.length → ltK x (L.getD j (0, 0)) = true) ∧ wq.cell? ⟨G, 0, none⟩ = some (.int .i64 x.1) ∧ wq.cell? ⟨G, 1, none⟩ = some (.int .i64 x.2) ∧ G < wq.heap.size ∧ Below w.heap.size w wq) (fun c _ => (intOf c).toNat)
      case atStart => exact ⟨k, x, Nat.le_refl _, rfl, HO1.out, fun j h1 h2 => by have := HLl.out; omega, HX1.out, HX2.out, hG, HB1.out⟩
      case round =>
        obtain ⟨i, h, hik, rfl, ho, hall, y1, y2, hGw, hb⟩ := hrel
        have HO2 : Hid (wr.ownsRow w.heap.size 61 2 (.slice (some ⟨g, 0, none⟩) (k + 1) cap) (k + 1) (keyCells (holed L i h))) := ho
        have HB2 : Hid (Below w.heap.size w wr) := hb
        have HA2 : Hid (∀ j, i ≤ j → j < L.length → ltK x (L.getD j (0, 0)) = true) := hall
        have hgw := ho.lt g rfl
        have hiL : i ≤ L.length := by have := HLl.out; omega
        have hiH : i < (holed L i h).length := by rw [holed_length L i h hiL]; omega
        obtain ⟨p1, p2⟩ := own_key ho i hiH
        rw [holed_at L i h hiL] at p1 p2
        have f1 := ho.frozenAt (i * 2)
        have f2 := ho.frozenAt (i * 2 + 1)
        clear ho hb hall
        by_cases hi0 : i = 0
        · subst hi0
          simp only [Nat.zero_mul, Nat.zero_add] at p1 p2 f1 f2
          go_wp2
          go_quiet (fail)
          go_wp2
          go_roundw
          case rel =>
            have h1 := own_store HO2.out 0 x
            rw [holed_set L 0 h x hiL] at h1
            exact ⟨k + 1, holed L 0 x, by omega, by go_num, by rw [holed_length L 0 x hiL, HLl.out], by rw [HN.out]; exact (holed_perm L 0 x).trans (HLp.out.append_right _), holed_sorted L 0 x hiL HLs.out HA2.out (.inl rfl), h1, ((below_drewN HB2.out _).setCell hgw.1 _).setCell hgw.1 _⟩
          case measure => simp [intOf]; omega
        · obtain ⟨q1, q2⟩ := own_key HO2.out (i - 1) (by omega)
          obtain ⟨m, rfl⟩ : ∃ m, i = m + 1 := ⟨i - 1, by omega⟩
          rw [Nat.add_sub_cancel, holed_before L m h hiL] at q1 q2
          have HM : Hid (holed L (m + 1) (L.getD m (0, 0)) = holed L m (L.getD m (0, 0))) := holed_move L m hiL
          have HA3 : Hid (ltK x (L.getD m (0, 0)) = true → ∀ j, m ≤ j → j < L.length → ltK x (L.getD j (0, 0)) = true) := fun h j h1 h2 => by
            rcases Nat.lt_or_ge m j with h3 | h3
            · exact HA2.out j h3 h2
            · have : j = m := by omega
              rw [this]; exact h
          have HS3 : Hid (ltK x (L.getD m (0, 0)) = false → SortedK (holed L (m + 1) x)) := fun h => holed_sorted L (m + 1) x hiL HLs.out HA2.out (.inr h)
          generalize L.getD m (0, 0) = y at q1 q2 HM HA3 HS3
          have c1 : ∀ s : WB wr.heap.size wr, s.w.cell? ⟨G, 0, none⟩ = some (.int .i64 x.1) := fun s => (s.h.cell (p := ⟨G, 0, none⟩) hGw).trans y1
          have c2 : ∀ s : WB wr.heap.size wr, s.w.cell? ⟨G, 1, none⟩ = some (.int .i64 x.2) := fun s => (s.h.cell (p := ⟨G, 1, none⟩) hGw).trans y2
          have c3 : ∀ s : WB wr.heap.size wr, s.w.cell? ⟨g, m * 2, none⟩ = some (.int .i64 y.1) := fun s => (s.h.cell (p := ⟨g, m * 2, none⟩) hgw.2).trans q1
          have c4 : ∀ s : WB wr.heap.size wr, s.w.cell? ⟨g, m * 2 + 1, none⟩ = some (.int .i64 y.2) := fun s => (s.h.cell (p := ⟨g, m * 2 + 1, none⟩) hgw.2).trans q2
          have : Nonempty (WB wr.heap.size wr) := ⟨⟨wr, Below.refl _ _⟩⟩
          have hls : ∀ s : WB wr.heap.size wr, Calls Tryd.prog 48 #[.agg #[.int .i64 x.1, .int .i64 x.2], .agg #[.int .i64 y.1, .int .i64 y.2]] s.w fun e w' => e = .returned (.bool (ltK x y)) ∧ Below s.w.heap.size s.w w' := fun s => refLess_any x y s.w
          generalize ltK x y = lt at HA3 HS3 hls
          go_wp2
          refine wp_region_below wr.heap.size wr (by kernel_rfl) (by kernel_rfl) (Below.refl _ _) ?_
          repeat (go_big_quiet_step (first
            | (go_at_call 48; exact calls_below (Nat.le_refl _) (hls _))))
          refine wpQuiet_nil ?_
          rintro _ ⟨s, rfl⟩
          have HO4 : Hid (s.w.ownsRow w.heap.size 61 2 (.slice (some ⟨g, 0, none⟩) (k + 1) cap) (k + 1) (keyCells (holed L (m + 1) h))) := own_below HO2.out s.h
          have HB4 : Hid (Below w.heap.size w s.w) := HB2.out.trans (s.h.mono HB2.out.size)
          have d1 := c1 s
          have d2 := c2 s
          have d3 := c3 s
          have d4 := c4 s
          obtain ⟨r1, r2⟩ := own_key HO4.out (m + 1) hiH
          rw [holed_at L (m + 1) h hiL] at r1 r2
          have r3 := HO4.out.frozenAt ((m + 1) * 2)
          have r4 := HO4.out.frozenAt ((m + 1) * 2 + 1)
          have hGs : G < s.w.heap.size := Nat.lt_of_lt_of_le hGw s.h.size
          clear c1 c2 c3 c4 hls p1 p2 f1 f2 q1 q2 y1 y2 hGw
          generalize s.w = ws at *
          cases lt
          · go_wp2
            go_roundw
            case rel =>
              have h1 := own_store HO4.out (m + 1) x
              rw [holed_set L (m + 1) h x hiL] at h1
              exact ⟨k + 1, holed L (m + 1) x, by omega, by go_num, by rw [holed_length L (m + 1) x hiL, HLl.out], by rw [HN.out]; exact (holed_perm L (m + 1) x).trans (HLp.out.append_right _), HS3.out rfl, h1, (HB4.out.setCell hgw.1 _).setCell hgw.1 _⟩
            case measure => simp [intOf]; omega
          · go_wp2
            go_roundw
            case rel =>
              have h1 := own_store HO4.out (m + 1) y
              rw [holed_set L (m + 1) h y hiL, HM.out] at h1
              refine ⟨m, y, by omega, rfl, h1, HA3.out rfl, ?_, ?_, by simpa using hGs, (HB4.out.setCell hgw.1 _).setCell hgw.1 _⟩
              · rw [World.cell?_setCell_other _ _ _ _ (fun h => hgn (congrArg Addr.block h)), World.cell?_setCell_other _ _ _ _ (fun h => hgn (congrArg Addr.block h))]; exact d1
              · rw [World.cell?_setCell_other _ _ _ _ (fun h => hgn (congrArg Addr.block h)), World.cell?_setCell_other _ _ _ _ (fun h => hgn (congrArg Addr.block h))]; exact d2
            case measure => simp [intOf]
    · go_wp2
      go_ret
      rw [List.take_of_length_le (by omega)] at hLp
      have e := sortV_unique hLp hLs
      subst e
      exact ⟨_, rfl, isKeys_own ho hLl.symm (by omega) (fun x hx => hv.1 x (sortV_mem.1 hx)), hb⟩

end Go.Proofs.YtjknflpclniiiaaDoor

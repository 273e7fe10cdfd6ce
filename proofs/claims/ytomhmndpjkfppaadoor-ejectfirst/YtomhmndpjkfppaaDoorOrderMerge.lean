/-
  The contract of package order's Merge.
-/
import Derived.Test.YtomhmndpjkfppaaDoorOrderLR
import Derived.Test.YtomhmndpjkfppaaDoorMergePlain
import Derived.OwnWalk
import Derived.Deep.RegionHeld3
import Derived.Deep.LoopGhost
import Derived.WalkMore
namespace Go.Proofs.YtomhmndpjkfppaaDoor
open Go.RowKit

set_option maxRecDepth 100000 in
set_option maxHeartbeats 2000000 in
theorem merge_own (ks js : List (Int × Int)) (v u : Value) (w : World) (hv : IsKeys w v ks) (hu : IsKeys w u js) (hk : SortedK ks) (hj : SortedK js) (hlen : ks.length + js.length ≤ 1000000) :
    Calls Tryd.prog 38 #[v, u] w fun e w' => ∃ v', e = .returned v' ∧ w'.ownsRow w.heap.size 54 2 v' (sortV (ks ++ js)).length (keyCells (sortV (ks ++ js))) ∧ Below w.heap.size w w' := by
  obtain ⟨ao, c1, rfl⟩ := hv.shape
  obtain ⟨bo, c2, rfl⟩ := hu.shape
  obtain ⟨i0, hi, hz0, hz1, hz2⟩ := info_parts infoKey
  have HV : Hid (IsKeys w (.slice ao ks.length c1) ks) := hv
  have HU : Hid (IsKeys w (.slice bo js.length c2) js) := hu
  clear hv hu
  have HT : Hid (Taking (ks ++ js) [] ks js) := taking_start hk hj
  obtain ⟨T, hT⟩ : ∃ T, T = ks ++ js := ⟨_, rfl⟩
  have HTl : Hid (T.length = ks.length + js.length) := by show _ = _; rw [hT]; simp
  rw [← hT] at HT ⊢
  clear hT hk hj
  go_enter Tryd.func38, Tryd.ntmps38
  go_wp2
  go_step3
  go_wp2_with (at_make; refine wpList_make_own _ rfl _ _ 50 rfl w.heap.size 54 i0 _ 2 Tryd.underlying50 hi hz0 hz1 _ _ _ (ks.length + js.length) rfl rfl (by omega) (by rw [hz2]; omega) (by unfold maxLen; omega) (Nat.le_refl _) ?_)
  intro w0 hown0 hgrow0
  have HO0 : Hid (w0.ownsRow w.heap.size 54 2 (.slice (some ⟨w.heap.size, 0, none⟩) 0 (ks.length + js.length)) 0 []) := hown0
  have HB0 : Hid (Below w.heap.size w w0) := (Below.refl _ _).grown hgrow0 (Nat.le_refl _) (fun _ h => by simp at h)
  clear hown0 hgrow0
  go_wp2
  go_step3
  go_wp2
  go_loopg [0, 1, 5] (ks.length + js.length) (fun gq l m o wr => ∃ L M A, L.length + M.length ≤ gq ∧ IsKeys w l L ∧ IsKeys w m M ∧ wr.ownsRow w.heap.size 54 2 o A.length (keyCells A) ∧ Below w.heap.size w wr ∧ Taking T A L M)
  case atStart => exact ⟨ks, js, [], Nat.le_refl _, HV.out, HU.out, HO0.out, HB0.out, HT.out⟩
  case round =>
    obtain ⟨L, M, A, hg, hl, hm, ho, hb, ht⟩ := hrel
    have HL : Hid (IsKeys w u0 L) := hl
    have HM : Hid (IsKeys w u1 M) := hm
    have HO : Hid (wr.ownsRow w.heap.size 54 2 u5 A.length (keyCells A)) := ho
    have HB : Hid (Below w.heap.size w wr) := hb
    have HTK : Hid (Taking T A L M) := ht
    have hlen2 : A.length + L.length + M.length ≤ 1000000 := by have := taking_len ht; have := HTl.out; omega
    obtain ⟨lo, lc, rfl⟩ := hl.shape
    obtain ⟨mo, mc, rfl⟩ := hm.shape
    clear hl hm ho hb ht
    by_cases hL0 : L.length = 0
    · have eL : L = [] := List.eq_nil_of_length_eq_zero hL0
      subst eL
      go_wp2_with (at_builtin; refine wpList_append_row rfl (.tmp 24) (.tmp 25) 50 rfl w.heap.size 54 i0 _ 2 16 Tryd.underlying50 hi hz0 hz1 hz2 rfl (by decide) _ A.length _ rfl HO.out _ M.length (keyCells M) rfl (HM.out.below HB.out).row (keyCells_one _) (by unfold maxLen; omega) (by omega) HB.out.size ?_)
      intro v' w1 hown hgrow hat
      have HO1 : Hid (w1.ownsRow w.heap.size 54 2 v' (A.length + M.length) (keyCells A ++ keyCells M)) := hown
      have HB1 : Hid (Below w.heap.size w w1) := HB.out.grown hgrow HB.out.size (own_base HO.out)
      clear hown hgrow hat
      go_wp2
      try rw [Exit.noGoto_ret]
      go_ret
      have e := taking_end HTK.out
      exact ⟨_, rfl, by rw [← e, keyCells_append, List.length_append]; exact HO1.out, HB1.out⟩
    · by_cases hM0 : M.length = 0
      · have eM : M = [] := List.eq_nil_of_length_eq_zero hM0
        subst eM
        go_wp2_with (at_builtin; refine wpList_append_row rfl (.tmp 31) (.tmp 32) 50 rfl w.heap.size 54 i0 _ 2 16 Tryd.underlying50 hi hz0 hz1 hz2 rfl (by decide) _ A.length _ rfl HO.out _ L.length (keyCells L) rfl (HL.out.below HB.out).row (keyCells_one _) (by unfold maxLen; omega) (by omega) HB.out.size ?_)
        intro v' w1 hown hgrow hat
        have HO1 : Hid (w1.ownsRow w.heap.size 54 2 v' (A.length + L.length) (keyCells A ++ keyCells L)) := hown
        have HB1 : Hid (Below w.heap.size w w1) := HB.out.grown hgrow HB.out.size (own_base HO.out)
        clear hown hgrow hat
        go_wp2
        try rw [Exit.noGoto_ret]
        go_ret
        have e := taking_end' HTK.out
        exact ⟨_, rfl, by rw [← e, keyCells_append, List.length_append]; exact HO1.out, HB1.out⟩
      · obtain ⟨bl, ol, rfl, hblw, el1, el2⟩ := HL.out.at 0 (by omega)
        obtain ⟨bm, om, rfl, hbmw, em1, em2⟩ := HM.out.at 0 (by omega)
        simp only [Nat.zero_mul, Nat.add_zero] at el1 el2 em1 em2
        have HNL : Hid (ltK (M.getD 0 (0, 0)) (L.getD 0 (0, 0)) = false → Taking T (A ++ [L.getD 0 (0, 0)]) (L.drop 1) M) := taking_l HTK.out (by omega)
        have HNM : Hid (ltK (M.getD 0 (0, 0)) (L.getD 0 (0, 0)) = true → Taking T (A ++ [M.getD 0 (0, 0)]) L (M.drop 1)) := taking_m HTK.out (by omega)
        have HFL := keys_from HL.out 1 (by omega)
        have HFM := keys_from HM.out 1 (by omega)
        generalize L.getD 0 (0, 0) = x at el1 el2 HNL HNM
        generalize M.getD 0 (0, 0) = y at em1 em2 HNL HNM
        have HEL : Hid (∀ W, Below w.heap.size w W → W.cell? ⟨bl, ol, none⟩ = some (.int .i64 x.1) ∧ W.cell? ⟨bl, ol + 1, none⟩ = some (.int .i64 x.2)) := fun W h => ⟨(h.cell (p := ⟨bl, ol, none⟩) hblw).trans el1, (h.cell (p := ⟨bl, ol + 1, none⟩) hblw).trans el2⟩
        have HEM : Hid (∀ W, Below w.heap.size w W → W.cell? ⟨bm, om, none⟩ = some (.int .i64 y.1) ∧ W.cell? ⟨bm, om + 1, none⟩ = some (.int .i64 y.2)) := fun W h => ⟨(h.cell (p := ⟨bm, om, none⟩) hbmw).trans em1, (h.cell (p := ⟨bm, om + 1, none⟩) hbmw).trans em2⟩
        have : Nonempty (WB wr.heap.size wr) := ⟨⟨wr, Below.refl _ _⟩⟩
        have hW : ∀ s : WB wr.heap.size wr, Below w.heap.size w s.w := fun s => HB.out.trans (s.h.mono HB.out.size)
        have c1 : ∀ s : WB wr.heap.size wr, s.w.cell? ⟨bl, ol, none⟩ = some (.int .i64 x.1) := fun s => (HEL.out s.w (hW s)).1
        have c2 : ∀ s : WB wr.heap.size wr, s.w.cell? ⟨bl, ol + 1, none⟩ = some (.int .i64 x.2) := fun s => (HEL.out s.w (hW s)).2
        have c3 : ∀ s : WB wr.heap.size wr, s.w.cell? ⟨bm, om, none⟩ = some (.int .i64 y.1) := fun s => (HEM.out s.w (hW s)).1
        have c4 : ∀ s : WB wr.heap.size wr, s.w.cell? ⟨bm, om + 1, none⟩ = some (.int .i64 y.2) := fun s => (HEM.out s.w (hW s)).2
        have hls : ∀ s : WB wr.heap.size wr, Calls Tryd.prog 37 #[.agg #[.int .i64 y.1, .int .i64 y.2], .agg #[.int .i64 x.1, .int .i64 x.2]] s.w fun e w' => e = .returned (.bool (ltK y x)) ∧ Below s.w.heap.size s.w w' := fun s => less_any y x s.w
        generalize ltK y x = lt at HNL HNM hls
        have HL1 : Hid ((lc = 1 → IsKeys w (.slice (some ⟨bl, ol, none⟩) (L.length - 1) 0) (L.drop 1)) ∧ (¬ lc = 1 → IsKeys w (.slice (some ⟨bl, ol + 2, none⟩) (L.length - 1) (lc - 1)) (L.drop 1))) :=
          ⟨fun h => by rw [h] at HFL; simpa using HFL, fun h => by rw [if_neg h] at HFL; simpa [addr_add] using HFL⟩
        have HM1 : Hid ((mc = 1 → IsKeys w (.slice (some ⟨bm, om, none⟩) (M.length - 1) 0) (M.drop 1)) ∧ (¬ mc = 1 → IsKeys w (.slice (some ⟨bm, om + 2, none⟩) (M.length - 1) (mc - 1)) (M.drop 1))) :=
          ⟨fun h => by rw [h] at HFM; simpa using HFM, fun h => by rw [if_neg h] at HFM; simpa [addr_add] using HFM⟩
        have hlc : L.length ≤ lc ∧ lc ≤ maxLen := HL.out.2.1.2
        have hmc : M.length ≤ mc ∧ mc ≤ maxLen := HM.out.2.1.2
        unfold maxLen at hlc hmc
        obtain ⟨hlc1, hlc2⟩ := hlc
        obtain ⟨hmc1, hmc2⟩ := hmc
        clear HFL HFM el1 el2 em1 em2
        go_wp2
        refine wp_region_below wr.heap.size wr (by kernel_rfl) (by kernel_rfl) (Below.refl _ _) ?_
        repeat (go_big_quiet_step (first
          | (go_at_call 37; exact calls_below (Nat.le_refl _) (hls _))))
        refine wpQuiet_nil ?_
        rintro _ ⟨s, rfl⟩
        have HB4 : Hid (Below w.heap.size w s.w) := HB.out.trans (s.h.mono HB.out.size)
        have HO4 : Hid (s.w.ownsRow w.heap.size 54 2 u5 A.length (keyCells A)) := own_below HO.out s.h
        have d1 := c1 s
        have d2 := c2 s
        have d3 := c3 s
        have d4 := c4 s
        have hbl4 : bl < s.w.heap.size := Nat.lt_of_lt_of_le hblw HB4.out.size
        have hbm4 : bm < s.w.heap.size := Nat.lt_of_lt_of_le hbmw HB4.out.size
        clear c1 c2 c3 c4 hls hW hblw hbmw HB HO
        generalize s.w = ws at *
        have j1 : (0 : Int) < (L.length : Int) := by omega
        have j2 : (1 : Int) ≤ (L.length : Int) := by omega
        have j3 : (1 : Int) ≤ (lc : Int) := by omega
        have j4 : (0 : Int) < (M.length : Int) := by omega
        have j5 : (1 : Int) ≤ (M.length : Int) := by omega
        have j6 : (1 : Int) ≤ (mc : Int) := by omega
        have j7 : (L.length : Int) ≤ (lc : Int) := by omega
        have j8 : (M.length : Int) ≤ (mc : Int) := by omega
        have n1 : 0 < L.length := by omega
        have n4 : 0 < M.length := by omega
        cases lt
        · go_wp2
          go_region_held3 (fun W => W.cell? ⟨bl, ol, none⟩ = some (.int .i64 x.1) ∧ W.cell? ⟨bl, ol + 1, none⟩ = some (.int .i64 x.2)) (first | (exact HEL.out _ HB5.out) | go_keep) (first
            | ((refine step_append_row (by rfl) (.tmp 12) (.tmp 16) 50 (by rfl) w.heap.size 54 i0 _ 2 16 Tryd.underlying50 hi hz0 hz1 hz2 (by rfl) (by decide) _ A.length _ (by rfl) (HO4.out.drew.alloc _) _ 1 (keyCells [x]) (by rfl) (one_key _ x _ _ (by simp)) (keyCells_one _) (by unfold maxLen; omega) (by omega) (by have := HB4.out.size; simp; omega) ?_; intro v2 w2 hown2 hgrow2 hat2; have HO5 : Hid (w2.ownsRow w.heap.size 54 2 v2 (A.length + 1) (keyCells A ++ keyCells [x])) := hown2; have HB5 : Hid (Below w.heap.size w w2) := (HB4.out.drew.alloc HB4.out.size _).grown hgrow2 (by have := HB4.out.size; simp; omega) (own_base HO4.out); clear hown2 hgrow2 hat2)))
          go_wp2
          all_goals
            go_roundg (L.length - 1 + M.length)
            case measure => omega
            case rel => exact ⟨L.drop 1, M, A ++ [x], by simp, (by first | exact HL1.out.1 (by assumption) | exact HL1.out.2 (by assumption)), HM.out, by rw [List.length_append, keyCells_append]; exact HO5.out, HB5.out, HNL.out (by first | rfl | trivial)⟩
        · go_wp2
          go_region_held3 (fun W => W.cell? ⟨bm, om, none⟩ = some (.int .i64 y.1) ∧ W.cell? ⟨bm, om + 1, none⟩ = some (.int .i64 y.2)) (first | (exact HEM.out _ HB5.out) | go_keep) (first
            | ((refine step_append_row (by rfl) (.tmp 42) (.tmp 46) 50 (by rfl) w.heap.size 54 i0 _ 2 16 Tryd.underlying50 hi hz0 hz1 hz2 (by rfl) (by decide) _ A.length _ (by rfl) (HO4.out.drew.alloc _) _ 1 (keyCells [y]) (by rfl) (one_key _ y _ _ (by simp)) (keyCells_one _) (by unfold maxLen; omega) (by omega) (by have := HB4.out.size; simp; omega) ?_; intro v2 w2 hown2 hgrow2 hat2; have HO5 : Hid (w2.ownsRow w.heap.size 54 2 v2 (A.length + 1) (keyCells A ++ keyCells [y])) := hown2; have HB5 : Hid (Below w.heap.size w w2) := (HB4.out.drew.alloc HB4.out.size _).grown hgrow2 (by have := HB4.out.size; simp; omega) (own_base HO4.out); clear hown2 hgrow2 hat2)))
          go_wp2
          all_goals
            go_roundg (L.length + (M.length - 1))
            case measure => omega
            case rel => exact ⟨L, M.drop 1, A ++ [y], by simp, HL.out, (by first | exact HM1.out.1 (by assumption) | exact HM1.out.2 (by assumption)), by rw [List.length_append, keyCells_append]; exact HO5.out, HB5.out, HNM.out (by first | rfl | trivial)⟩

theorem merge_any (ks js : List (Int × Int)) (v u : Value) (w : World) (hv : IsKeys w v ks) (hu : IsKeys w u js) (hk : SortedK ks) (hj : SortedK js) (hlen : ks.length + js.length ≤ 1000000) :
    Calls Tryd.prog 38 #[v, u] w fun e w' => ∃ v', e = .returned v' ∧ IsKeys w' v' (sortV (ks ++ js)) ∧ Below w.heap.size w w' :=
  (merge_own ks js v u w hv hu hk hj hlen).mono fun _ _ ⟨v', he, ho, hb⟩ => ⟨v', he, isKeys_own ho rfl (by rw [sortV_length, List.length_append]; omega) (fun x hx => by
    rcases List.mem_append.1 (sortV_mem.1 hx) with h | h
    · exact hv.1 x h
    · exact hu.1 x h), hb⟩

end Go.Proofs.YtomhmndpjkfppaaDoor

/-
  Contracts of package eject: within, known, Cap, Room, Out, Back, Fade, First.
-/
import Derived.Test.YtomhmndpjkfppaaDoorEjectOpen
import Derived.Test.YtomhmndpjkfppaaDoorKnownKit
import Derived.Test.YtomhmndpjkfppaaDoorBase
import Derived.Test.YtomhmndpjkfppaaDoorOrderSort
import Derived.Test.YtomhmndpjkfppaaDoorFillRow
import Derived.Test.YtomhmndpjkfppaaDoorKeyCut
import Derived.Test.YtomhmndpjkfppaaDoorRatio2
import Derived.Test.YtomhmndpjkfppaaDoorRatio3
import Derived.Test.YtomhmndpjkfppaaDoorRels
import Derived.Laws.ResultCell
import Derived.Laws.Rows
import Derived.Deep.CutRange
namespace Go.Proofs.YtomhmndpjkfppaaDoor
open Go.RowKit

theorem infoOut : ∀ o : Og, (Tryd.prog.info? 32).map (·.size) = some (ogcells o).size := fun _ => infoOuting
theorem ogcells_one (o : Og) : (ogcells o).all (·.oneCell') = true := by simp [ogcells, Value.oneCell']
theorem mdV_nonneg (a b c : Int) : 0 ≤ mdV a b c := by
  unfold mdV
  split
  · rename_i h
    have h1 := oz_nonneg a
    have h2 := oz_nonneg b
    have h3 : 1 ≤ c := by
      apply Classical.byContradiction
      intro hc
      have := (md_bad a b c (.inr (.inr (by omega)))).2
      rw [h] at this
      cases this
    exact Int.ediv_nonneg (Int.mul_nonneg h1 h2) (by omega)
  · omega
theorem sum_two {a b : Int} (ha : 0 ≤ a) (hb : 0 ≤ b) : sumV [a, b] = if 4611686018427387904 < a + b then 4611686018427387904 else a + b := by
  have e : sm [a, b] = a + b := by
    simp only [sm]
    rw [oz_pos ha, oz_pos hb]
    omega
  unfold sumV
  rw [e]
  split <;> split <;> omega
theorem two_ints (w : World) (a b : Int) (t g : Nat) (hg : g = w.heap.size) (ha : -9223372036854775808 ≤ a ∧ a ≤ 9223372036854775807) (hb : -9223372036854775808 ≤ b ∧ b ≤ 9223372036854775807) :
    IsInts (w.alloc (.cells #[.int .i64 a, .int .i64 b] t (0, 0))) (.slice (some ⟨g, 0, none⟩) 2 2) [a, b] := by
  refine IsRow.asInts (zs := [a, b]) (row_box (n := 2) (sz := 1) (cs := [.int .i64 a, .int .i64 b]) (hasBox_new' w t g _ hg) rfl (by omega)) fun x hx => ?_
  simp only [List.mem_cons, List.not_mem_nil, or_false] at hx
  rcases hx with rfl | rfl
  · exact ha
  · exact hb
def intsP (l : List Int) : MP := ⟨fun v w => IsInts w v l, fun h hb => h.below hb⟩

theorem ewithin_any (n : Int) (w : World) : Calls Tryd.prog 21 #[.int .i64 n] w fun e w' => e = .returned (.int .i64 (timesE n)) ∧ w' = w := by
  unfold timesE
  by_cases h1 : n < 0
  · rw [if_pos h1]
    go_enter Tryd.func21, Tryd.ntmps21
    go_wp2
    go_ret
    exact ⟨rfl, rfl⟩
  · rw [if_neg h1]
    by_cases h2 : 10 < n
    · rw [if_pos h2]
      go_enter Tryd.func21, Tryd.ntmps21
      go_wp2
      go_ret
      exact ⟨rfl, rfl⟩
    · rw [if_neg h2]
      go_enter Tryd.func21, Tryd.ntmps21
      go_wp2
      go_ret
      exact ⟨rfl, rfl⟩

set_option maxRecDepth 100000 in
set_option maxHeartbeats 2000000 in
theorem eknown_any (c : Cfg) (w : World) (htab : TabC w) (hz : c.zone.size ≤ 9223372036854775807) :
    Calls Tryd.prog 19 #[.agg c.arr] w fun e w' => e = .returned (.agg (knownC c).arr) ∧ Below w.heap.size w w' := by
  have HT : Hid (TabC w) := htab
  clear htab
  have HMay : Hid (∀ W : World, TabC W → Calls Tryd.prog 26 #[.agg c.arr] W fun e w' => e = .returned (.bool (mayC c)) ∧ Below W.heap.size W w') := fun W h => may_any c W h hz
  have HK : Hid (knownC c = if mayC c then c else defC) := rfl
  have HI : Hid ((Tryd.prog.info? 23).map (·.size) = some c.arr.size) := arr_inf c
  have HJ : Hid ((Tryd.prog.info? 23).map (·.size) = some defC.arr.size) := arr_inf defC
  have HOc : Hid (c.arr.all (·.oneCell') = true) := arr_one c
  have HOd : Hid (defC.arr.all (·.oneCell') = true) := arr_one defC
  have HDef : Hid (∀ W : World, TabC W → Calls Tryd.prog 27 #[] W fun e w' => e = .returned (.agg defC.arr) ∧ Below W.heap.size W w') := default_any
  have HR : Hid ((knownC c).arr = if mayC c then c.arr else defC.arr) := by show _ = _; rw [HK.out]; split <;> rfl
  have hs1 : c.arr.size = 23 := arr_size c
  have hs2 : defC.arr.size = 23 := arr_size defC
  have HS1 : Hid (c.arr.size = 23) := hs1
  have HS2 : Hid (defC.arr.size = 23) := hs2
  clear HK hs1 hs2
  generalize (knownC c).arr = R at HR ⊢
  generalize c.arr = cs at HMay HI HOc HR HS1 ⊢
  generalize defC.arr = ds at HDef HJ HOd HR HS2
  generalize mayC c = q at HMay HR
  go_enter Tryd.func19, Tryd.ntmps19
  go_upto_region 1 with fail
  generalize hW0 : (w.alloc _).alloc _ = W0
  obtain ⟨old, hold, hg0⟩ : ∃ old : Array Value, old.size = 23 ∧ CellsAt W0 (w.heap.size + 1) old := ⟨_, rfl, by rw [← hW0]; exact heap_alloc2_new w _ _⟩
  have HZ0 : Hid (CellsAt W0 (w.heap.size + 1) old) := hg0
  have HOld : Hid (old.size = 23) := hold
  have HC0 : Hid (CellsAt W0 w.heap.size cs) := by show CellsAt _ _ _; rw [← hW0]; exact heap_alloc2_old w _ _
  have HB0 : Hid (Below w.heap.size w W0) := by show Below _ _ _; rw [← hW0]; exact ((Below.refl _ _).alloc (Nat.le_refl _) _).alloc (by simp) _
  have HT0 : Hid (TabC W0) := HT.out.below HB0.out
  clear hW0 hold hg0 HT
  go_wp2_with (first | (refine wpList_load_row rfl 23 (.tmp 1) rfl w.heap.size rfl 23 _ (0, 0) _ HC0.out Tryd.underlying23 rfl HI.out ?_) | fail)
  refine (HMay.out _ HT0.out).mono ?_
  rintro e w1 ⟨rfl, hb⟩
  have HC1 : Hid (CellsAt w1 w.heap.size cs) := HC0.out.below hb
  have HZ1 : Hid (CellsAt w1 (w.heap.size + 1) old) := HZ0.out.below hb
  have HB1 : Hid (Below w.heap.size w w1) := HB0.out.trans (hb.mono HB0.out.size)
  have HT1 : Hid (TabC w1) := HT0.out.below hb
  clear hb HC0 HZ0 HB0 HT0 HMay
  cases q with
  | true =>
    have e : R = cs := HR.out
    subst e
    have HOS : Hid (old.size = R.size) := HOld.out.trans HS1.out.symm
    go_wp2_with (first | (refine wpList_load_row rfl 23 (.tmp 1) rfl w.heap.size rfl 23 _ (0, 0) _ HC1.out Tryd.underlying23 rfl HI.out ?_) | (refine wpList_store_row rfl 23 (.tmp 2) (.tmp 5) rfl (w.heap.size + 1) R rfl rfl 23 _ HZ1.out HI.out HOS.out HOc.out ?_) | fail)
    refine bodyPost_ret (results_cell_row rfl _ _ (w.heap.size + 1) 23 _ _ _ rfl (setRow_heap w1 _ _ _ _ _ HZ1.out) Tryd.underlying23 rfl HI.out) rfl ?_
    exact ⟨rfl, below_setRow HB1.out (by omega) _⟩
  | false =>
    have e : R = ds := HR.out
    subst e
    have HOS : Hid (old.size = R.size) := HOld.out.trans HS2.out.symm
    go_wp2_with fail
    refine (HDef.out _ HT1.out).mono ?_
    rintro e w2 ⟨rfl, hb⟩
    have HZ2 : Hid (CellsAt w2 (w.heap.size + 1) old) := HZ1.out.below hb
    have HB2 : Hid (Below w.heap.size w w2) := HB1.out.trans (hb.mono HB1.out.size)
    clear hb HC1 HZ1 HB1 HT1 HDef
    go_wp2_with (first | (refine wpList_store_row rfl 23 (.tmp 2) (.tmp 6) rfl (w.heap.size + 1) R rfl rfl 23 _ HZ2.out HJ.out HOS.out HOd.out ?_) | fail)
    refine bodyPost_ret (results_cell_row rfl _ _ (w.heap.size + 1) 23 _ _ _ rfl (setRow_heap w2 _ _ _ _ _ HZ2.out) Tryd.underlying23 rfl HJ.out) rfl ?_
    exact ⟨rfl, below_setRow HB2.out (by omega) _⟩

set_option maxRecDepth 100000 in
set_option maxHeartbeats 4000000 in
theorem eCap_any (c : Cfg) (m : Int) (w : World) (htab : TabC w) (hz : c.zone.size ≤ 9223372036854775807) (hm : -9223372036854775808 ≤ m ∧ m ≤ 9223372036854775807) :
    Calls Tryd.prog 9 #[.agg c.arr, .int .i64 m] w fun e w' => e = .returned (.int .i64 (capE (knownC c) m)) ∧ Below w.heap.size w w' := by
  have HT : Hid (TabC w) := htab
  have HK : Hid (∀ W : World, TabC W → Calls Tryd.prog 19 #[.agg c.arr] W fun e w' => e = .returned (.agg (knownC c).arr) ∧ Below W.heap.size W w') := fun W h => eknown_any c W h hz
  have HI : Hid ((Tryd.prog.info? 23).map (·.size) = some c.arr.size) := arr_inf c
  have HJ : Hid ((Tryd.prog.info? 23).map (·.size) = some (knownC c).arr.size) := arr_inf _
  have HOS : Hid (c.arr.size = (knownC c).arr.size) := (arr_size c).trans (arr_size _).symm
  have HOd : Hid ((knownC c).arr.all (·.oneCell') = true) := arr_one _
  have b14 := may_num14 (known_may c)
  have HP : Hid (∀ W : World, Calls Tryd.prog 20 #[.int .i64 m, .int .i64 (knownC c).f14] W fun e w' => e = .returned (.int .i64 (mdV m (knownC c).f14 100)) ∧ Below W.heap.size W w') := fun W => percent_any m _ W (by omega) (by omega)
  have HE : Hid (capE (knownC c) m = if (knownC c).one = true ∧ 0 < m then (if mdV m (knownC c).f14 100 < 1 then 1 else mdV m (knownC c).f14 100) else mdV m (knownC c).f14 100) := rfl
  have hp0 := mdV_nonneg m (knownC c).f14 100
  have c14 : (knownC c).arr[14]? = some (.int .i64 (knownC c).f14) := rfl
  have c15 : (knownC c).arr[15]? = some (.bool (knownC c).one) := rfl
  have HC14 : Hid _ := c14
  have HC15 : Hid _ := c15
  clear c14 c15 htab b14
  generalize capE (knownC c) m = R at HE ⊢
  generalize mdV m (knownC c).f14 100 = P at *
  generalize (knownC c).f14 = n14 at HC14 HP
  generalize (knownC c).one = q at HC15 HE
  generalize (knownC c).arr = ds at HK HJ HOS HOd HC14 HC15
  generalize c.arr = cs at HK HI HOS ⊢
  by_cases h0 : P = 0
  rotate_left
  · have hR : R = P := by
      rw [HE.out]
      split
      · rw [if_neg (by omega)]
      · rfl
    subst hR
    have e0 : (R == 0) = false := beq_eq_false_iff_ne.2 h0
    clear HE hp0 h0
    go_enter Tryd.func9, Tryd.ntmps9
    go_upto_region 1 with fail
    generalize hW0 : w.alloc _ = W0
    have HC0 : Hid (HasBox W0 w.heap.size 23 cs) := by show HasBox _ _ _ _; rw [← hW0]; exact hasBox_new w _ _
    have HB0 : Hid (Below w.heap.size w W0) := by show Below _ _ _; rw [← hW0]; exact (Below.refl _ _).alloc (Nat.le_refl _) _
    clear hW0
    go_wp2_with (first | (refine wpList_load_bx rfl 23 (.tmp 2) rfl w.heap.size rfl 23 _ _ HC0.out Tryd.underlying23 rfl HI.out ?_) | fail)
    refine (HK.out _ (HT.out.below HB0.out)).mono ?_
    rintro e w1 ⟨rfl, hb⟩
    have HC1 : Hid (HasBox w1 w.heap.size 23 cs) := HC0.out.below hb
    have HB1 : Hid (Below w.heap.size w w1) := HB0.out.trans (hb.mono HB0.out.size)
    clear hb HC0 HB0 HK HT
    go_wp2_with (first | (refine wpList_store_row rfl 23 (.tmp 2) (.tmp 7) rfl w.heap.size ds rfl rfl 23 _ HC1.out HJ.out HOS.out HOd.out ?_; generalize hW2 : World.setRow _ _ _ = W2; have HC2 : Hid (HasBox W2 w.heap.size 23 ds) := (by show HasBox _ _ _ _; rw [← hW2]; exact setRow_heap _ _ _ _ _ _ HC1.out); have q14 : W2.cell? ⟨w.heap.size, 14, none⟩ = some (.int .i64 n14) := (HC2.out.cell 14).trans HC14.out; have HB2 : Hid (Below w.heap.size w W2) := (by show Below _ _ _; rw [← hW2]; exact below_setRow HB1.out (Nat.le_refl _) _); clear hW2) | fail)
    refine (HP.out _).mono ?_
    rintro e w3 ⟨rfl, hb⟩
    have q15 : w3.cell? ⟨w.heap.size, 15, none⟩ = some (.bool q) := ((HC2.out.below hb).cell 15).trans HC15.out
    have HB3 : Hid (Below w.heap.size w w3) := HB2.out.trans (hb.mono HB2.out.size)
    clear hb HC2 HC1 HB1 HB2 HP q14
    go_wp2
    go_ret
    exact ⟨rfl, HB3.out⟩
  subst h0
  cases q with
  | false =>
    have hR : R = 0 := by rw [HE.out, if_neg (by simp)]
    subst hR
    clear HE hp0
    go_enter Tryd.func9, Tryd.ntmps9
    go_upto_region 1 with fail
    generalize hW0 : w.alloc _ = W0
    have HC0 : Hid (HasBox W0 w.heap.size 23 cs) := by show HasBox _ _ _ _; rw [← hW0]; exact hasBox_new w _ _
    have HB0 : Hid (Below w.heap.size w W0) := by show Below _ _ _; rw [← hW0]; exact (Below.refl _ _).alloc (Nat.le_refl _) _
    clear hW0
    go_wp2_with (first | (refine wpList_load_bx rfl 23 (.tmp 2) rfl w.heap.size rfl 23 _ _ HC0.out Tryd.underlying23 rfl HI.out ?_) | fail)
    refine (HK.out _ (HT.out.below HB0.out)).mono ?_
    rintro e w1 ⟨rfl, hb⟩
    have HC1 : Hid (HasBox w1 w.heap.size 23 cs) := HC0.out.below hb
    have HB1 : Hid (Below w.heap.size w w1) := HB0.out.trans (hb.mono HB0.out.size)
    clear hb HC0 HB0 HK HT
    go_wp2_with (first | (refine wpList_store_row rfl 23 (.tmp 2) (.tmp 7) rfl w.heap.size ds rfl rfl 23 _ HC1.out HJ.out HOS.out HOd.out ?_; generalize hW2 : World.setRow _ _ _ = W2; have HC2 : Hid (HasBox W2 w.heap.size 23 ds) := (by show HasBox _ _ _ _; rw [← hW2]; exact setRow_heap _ _ _ _ _ _ HC1.out); have q14 : W2.cell? ⟨w.heap.size, 14, none⟩ = some (.int .i64 n14) := (HC2.out.cell 14).trans HC14.out; have HB2 : Hid (Below w.heap.size w W2) := (by show Below _ _ _; rw [← hW2]; exact below_setRow HB1.out (Nat.le_refl _) _); clear hW2) | fail)
    refine (HP.out _).mono ?_
    rintro e w3 ⟨rfl, hb⟩
    have q15 : w3.cell? ⟨w.heap.size, 15, none⟩ = some (.bool false) := ((HC2.out.below hb).cell 15).trans HC15.out
    have HB3 : Hid (Below w.heap.size w w3) := HB2.out.trans (hb.mono HB2.out.size)
    clear hb HC2 HC1 HB1 HB2 HP q14
    go_wp2
    go_ret
    exact ⟨rfl, HB3.out⟩
  | true =>
    by_cases hm0 : 0 < m
    · have hR : R = 1 := by rw [HE.out, if_pos ⟨rfl, hm0⟩, if_pos (by omega)]
      subst hR
      clear HE hp0
      go_enter Tryd.func9, Tryd.ntmps9
      go_upto_region 1 with fail
      generalize hW0 : w.alloc _ = W0
      have HC0 : Hid (HasBox W0 w.heap.size 23 cs) := by show HasBox _ _ _ _; rw [← hW0]; exact hasBox_new w _ _
      have HB0 : Hid (Below w.heap.size w W0) := by show Below _ _ _; rw [← hW0]; exact (Below.refl _ _).alloc (Nat.le_refl _) _
      clear hW0
      go_wp2_with (first | (refine wpList_load_bx rfl 23 (.tmp 2) rfl w.heap.size rfl 23 _ _ HC0.out Tryd.underlying23 rfl HI.out ?_) | fail)
      refine (HK.out _ (HT.out.below HB0.out)).mono ?_
      rintro e w1 ⟨rfl, hb⟩
      have HC1 : Hid (HasBox w1 w.heap.size 23 cs) := HC0.out.below hb
      have HB1 : Hid (Below w.heap.size w w1) := HB0.out.trans (hb.mono HB0.out.size)
      clear hb HC0 HB0 HK HT
      go_wp2_with (first | (refine wpList_store_row rfl 23 (.tmp 2) (.tmp 7) rfl w.heap.size ds rfl rfl 23 _ HC1.out HJ.out HOS.out HOd.out ?_; generalize hW2 : World.setRow _ _ _ = W2; have HC2 : Hid (HasBox W2 w.heap.size 23 ds) := (by show HasBox _ _ _ _; rw [← hW2]; exact setRow_heap _ _ _ _ _ _ HC1.out); have q14 : W2.cell? ⟨w.heap.size, 14, none⟩ = some (.int .i64 n14) := (HC2.out.cell 14).trans HC14.out; have HB2 : Hid (Below w.heap.size w W2) := (by show Below _ _ _; rw [← hW2]; exact below_setRow HB1.out (Nat.le_refl _) _); clear hW2) | fail)
      refine (HP.out _).mono ?_
      rintro e w3 ⟨rfl, hb⟩
      have q15 : w3.cell? ⟨w.heap.size, 15, none⟩ = some (.bool true) := ((HC2.out.below hb).cell 15).trans HC15.out
      have HB3 : Hid (Below w.heap.size w w3) := HB2.out.trans (hb.mono HB2.out.size)
      clear hb HC2 HC1 HB1 HB2 HP q14
      go_wp2
      go_ret
      exact ⟨rfl, HB3.out⟩
    · have hR : R = 0 := by rw [HE.out, if_neg (by simp [hm0])]
      subst hR
      clear HE hp0
      go_enter Tryd.func9, Tryd.ntmps9
      go_upto_region 1 with fail
      generalize hW0 : w.alloc _ = W0
      have HC0 : Hid (HasBox W0 w.heap.size 23 cs) := by show HasBox _ _ _ _; rw [← hW0]; exact hasBox_new w _ _
      have HB0 : Hid (Below w.heap.size w W0) := by show Below _ _ _; rw [← hW0]; exact (Below.refl _ _).alloc (Nat.le_refl _) _
      clear hW0
      go_wp2_with (first | (refine wpList_load_bx rfl 23 (.tmp 2) rfl w.heap.size rfl 23 _ _ HC0.out Tryd.underlying23 rfl HI.out ?_) | fail)
      refine (HK.out _ (HT.out.below HB0.out)).mono ?_
      rintro e w1 ⟨rfl, hb⟩
      have HC1 : Hid (HasBox w1 w.heap.size 23 cs) := HC0.out.below hb
      have HB1 : Hid (Below w.heap.size w w1) := HB0.out.trans (hb.mono HB0.out.size)
      clear hb HC0 HB0 HK HT
      go_wp2_with (first | (refine wpList_store_row rfl 23 (.tmp 2) (.tmp 7) rfl w.heap.size ds rfl rfl 23 _ HC1.out HJ.out HOS.out HOd.out ?_; generalize hW2 : World.setRow _ _ _ = W2; have HC2 : Hid (HasBox W2 w.heap.size 23 ds) := (by show HasBox _ _ _ _; rw [← hW2]; exact setRow_heap _ _ _ _ _ _ HC1.out); have q14 : W2.cell? ⟨w.heap.size, 14, none⟩ = some (.int .i64 n14) := (HC2.out.cell 14).trans HC14.out; have HB2 : Hid (Below w.heap.size w W2) := (by show Below _ _ _; rw [← hW2]; exact below_setRow HB1.out (Nat.le_refl _) _); clear hW2) | fail)
      refine (HP.out _).mono ?_
      rintro e w3 ⟨rfl, hb⟩
      have q15 : w3.cell? ⟨w.heap.size, 15, none⟩ = some (.bool true) := ((HC2.out.below hb).cell 15).trans HC15.out
      have HB3 : Hid (Below w.heap.size w w3) := HB2.out.trans (hb.mono HB2.out.size)
      clear hb HC2 HC1 HB1 HB2 HP q14
      go_wp2
      go_ret
      exact ⟨rfl, HB3.out⟩

theorem capE_any (c : Cfg) (m : Int) : 0 ≤ capE c m ∧ capE c m ≤ 4611686018427387904 := by
  have h0 := mdV_nonneg m c.f14 100
  have h1 : mdV m c.f14 100 ≤ 4611686018427387904 := by
    unfold mdV
    split
    · rename_i h
      apply Classical.byContradiction
      intro hc
      have := (md_over m c.f14 100 (by omega)).2
      rw [h] at this
      cases this
    · omega
  unfold capE
  split
  · split <;> omega
  · omega

set_option maxRecDepth 100000 in
set_option maxHeartbeats 4000000 in
theorem eRoom_any (c : Cfg) (m o : Int) (w : World) (htab : TabC w) (hz : c.zone.size ≤ 9223372036854775807) (hm : -9223372036854775808 ≤ m ∧ m ≤ 9223372036854775807) (ho : -9223372036854775808 ≤ o ∧ o ≤ 9223372036854775807) :
    Calls Tryd.prog 10 #[.agg c.arr, .int .i64 m, .int .i64 o] w fun e w' => e = .returned (.int .i64 (roomE (knownC c) m o)) ∧ Below w.heap.size w w' := by
  have HT : Hid (TabC w) := htab
  have HCap : Hid (∀ W : World, TabC W → Calls Tryd.prog 9 #[.agg c.arr, .int .i64 m] W fun e w' => e = .returned (.int .i64 (capE (knownC c) m)) ∧ Below W.heap.size W w') := fun W h => eCap_any c m W h hz hm
  have HI : Hid ((Tryd.prog.info? 23).map (·.size) = some c.arr.size) := arr_inf c
  have hc0 := capE_any (knownC c) m
  obtain ⟨R, hR⟩ : ∃ R, roomE (knownC c) m o = R := ⟨_, rfl⟩
  rw [hR]
  unfold roomE at hR
  generalize capE (knownC c) m = C at HCap hR hc0
  generalize c.arr = cs at HCap HI ⊢
  obtain ⟨o1, ho1⟩ : ∃ x, (if o < 0 then 0 else o) = x := ⟨_, rfl⟩
  rw [ho1] at hR
  have hb1 : 0 ≤ o1 ∧ o1 ≤ 9223372036854775807 := by rw [← ho1]; split <;> omega
  obtain ⟨d1, hd1⟩ : ∃ x, C - o1 = x := ⟨_, rfl⟩
  rw [hd1] at hR
  have HO : Hid ((if o < 0 then 0 else o) = o1) := ho1
  have HD : Hid (IntKind.i64.wrap (C - o1) = d1) := (wrap_in (by omega) (by omega)).trans hd1
  have HR : Hid ((if d1 < 0 then 0 else d1) = R) := hR
  clear ho1 hd1 hR hb1 hc0 htab hm ho
  go_enter Tryd.func10, Tryd.ntmps10
  go_upto_region 1 with fail
  generalize hW0 : w.alloc _ = W0
  have HC0 : Hid (HasBox W0 w.heap.size 23 cs) := by show HasBox _ _ _ _; rw [← hW0]; exact hasBox_new w _ _
  have HB0 : Hid (Below w.heap.size w W0) := by show Below _ _ _; rw [← hW0]; exact (Below.refl _ _).alloc (Nat.le_refl _) _
  clear hW0
  have e1 := HO.out
  have e2 := HD.out
  have e3 := HR.out
  clear HO HD HR
  go_wp2_with (first | (refine wpList_load_bx rfl 23 (.tmp 3) rfl w.heap.size rfl 23 _ _ HC0.out Tryd.underlying23 rfl HI.out ?_) | fail)
  refine (HCap.out _ (HT.out.below HB0.out)).mono ?_
  rintro e w1 ⟨rfl, hb⟩
  have HB1 : Hid (Below w.heap.size w w1) := HB0.out.trans (hb.mono HB0.out.size)
  clear hb HC0 HB0 HCap HT
  go_wp2
  go_ret
  exact ⟨rfl, HB1.out⟩

set_option maxRecDepth 100000 in
set_option maxHeartbeats 4000000 in
theorem run_field13 (c : Cfg) (w : World) : (Instr.field 23 (.agg c.arr) 13).run Tryd.prog w = .ok (.int .i64 c.f13) w := by
  unfold Cfg.arr Cfg.cells
  simp [Instr.field, run_underlying Tryd.underlying23, part, isAgg, run_underlying Tryd.underlying3, asAgg, go_sem]

set_option maxRecDepth 100000 in
set_option maxHeartbeats 4000000 in
theorem eOut_any (c : Cfg) (o : Og) (now : Int) (w : World) (htab : TabC w) (hz : c.zone.size ≤ 9223372036854775807) (_ : inOg o) (_ : -9223372036854775808 ≤ now ∧ now ≤ 9223372036854775807) :
    Calls Tryd.prog 11 #[.agg c.arr, ogval o, .int .i64 now] w fun e w' => e = .returned (ogval (outE (knownC c) o now)) ∧ Below w.heap.size w w' := by
  have HT : Hid (TabC w) := htab
  have HK' : Hid (∀ W : World, TabC W → Calls Tryd.prog 19 #[.agg c.arr] W fun e w' => e = .returned (.agg (knownC c).arr) ∧ Below W.heap.size W w') := fun W h => eknown_any c W h hz
  have HI : Hid ((Tryd.prog.info? 23).map (·.size) = some c.arr.size) := arr_inf c
  have HF13 : Hid (∀ W : World, (Instr.field 23 (.agg (knownC c).arr) 13).run Tryd.prog W = .ok (.int .i64 (knownC c).f13) W) := run_field13 _
  obtain ⟨b1, b2⟩ := may_num13 (known_may c)
  obtain ⟨s1, s2⟩ := timeE_bd now
  obtain ⟨s3, s4⟩ := moreE_bd o.times
  obtain ⟨s5, s6⟩ := timesE_bd o.times
  have HWi : Hid (∀ W : World, Calls Tryd.prog 21 #[.int .i64 o.times] W fun e w' => e = .returned (.int .i64 (timesE o.times)) ∧ w' = W) := fun W => ewithin_any _ W
  obtain ⟨t1, ht1⟩ : ∃ x, (if now < 0 then 0 else now) = x := ⟨_, rfl⟩
  obtain ⟨t0, ht0⟩ : ∃ x, timeE now = x := ⟨_, rfl⟩
  have ht2 : (if 4611686018427387904 < t1 then 4611686018427387904 else t1) = t0 := by
    rw [← ht0, ← ht1]; unfold timeE; split
    · rw [if_neg (by omega)]
    · rfl
  obtain ⟨r1, hr1⟩ : ∃ x, timesE o.times + 1 = x := ⟨_, rfl⟩
  have HW1 : Hid (IntKind.i64.wrap (timesE o.times + 1) = r1) := (wrap_in (by omega) (by omega)).trans hr1
  have HRes' : Hid (ogcells (outE (knownC c) o now) = #[.bool true, .int .i64 (timeE now), .int .i64 (if 4611686018427387904 < timeE now + (knownC c).f13 * moreE o.times then 4611686018427387904 else timeE now + (knownC c).f13 * moreE o.times), .int .i64 (moreE o.times)]) := rfl
  unfold ogval
  generalize ogcells (outE (knownC c) o now) = fin at HRes' ⊢
  obtain ⟨T, hT⟩ : ∃ x, moreE o.times = x := ⟨_, rfl⟩
  have hT2 : (if 10 < r1 then 10 else r1) = T := by rw [← hT, ← hr1]; rfl
  rw [hT, ht0] at HRes'
  rw [hT] at s3 s4
  rw [ht0] at s1 s2
  generalize (knownC c).f13 = b at HF13 HRes' b1 b2
  have h4 : 0 ≤ b * T := Int.mul_nonneg (by omega) (by omega)
  have h5 : b * T ≤ 10000 * 10 := Int.mul_le_mul b2 s4 (by omega) (by omega)
  obtain ⟨x, hx⟩ : ∃ x, b * T = x := ⟨_, rfl⟩
  rw [hx] at HRes' h4 h5
  have hsum := sum_two s1 h4
  obtain ⟨S, hS⟩ : ∃ z, (if 4611686018427387904 < t0 + x then 4611686018427387904 else t0 + x) = z := ⟨_, rfl⟩
  rw [hS] at hsum HRes'
  have HS' : Hid (∀ (v : Value) (W : World), IsInts W v [t0, x] → Calls Tryd.prog 22 #[v] W fun e w' => e = .returned (.int .i64 S) ∧ Below W.heap.size W w') := fun v W h => by
    have := sum_any [t0, x] v W h
    rw [hsum] at this
    exact this.mono fun e w' ⟨h1, h2⟩ => ⟨h1, by subst h2; exact Below.refl _ _⟩
  have HMul : Hid (IntKind.i64.wrap (b * T) = x) := by show _ = _; rw [hx]; exact wrap_in (by omega) (by omega)
  have HF : Hid (-9223372036854775808 ≤ t0 ∧ t0 ≤ 9223372036854775807) := by show _ ∧ _; omega
  have HXb : Hid (-9223372036854775808 ≤ x ∧ x ≤ 9223372036854775807) := by show _ ∧ _; omega
  obtain ⟨res, hres⟩ : ∃ r : Array Value, #[.bool true, .int .i64 t0, .int .i64 S, .int .i64 T] = r := ⟨_, rfl⟩
  have HIr : Hid ((Tryd.prog.info? 32).map (·.size) = some res.size) := by show _ = _; rw [← hres]; exact infoOuting
  have HZr : Hid ((ogcells noOg).size = res.size) := by show _ = _; rw [← hres]; rfl
  have HOr : Hid (res.all (·.oneCell') = true) := by show _ = _; rw [← hres]; simp [Value.oneCell']
  have HRes : Hid (#[.bool true, .int .i64 t0, .int .i64 S, .int .i64 T] = res) := hres
  have HEnd : Hid (res = fin) := by show _ = _; rw [HRes'.out, hres]
  generalize timesE o.times = r0 at HWi HW1
  obtain ⟨ob, of_, ou, ot⟩ := o
  simp only at HWi ⊢
  clear hz htab b1 b2 s1 s2 s3 s4 s5 s6 ht0 hr1 HRes' hT h4 h5 hx hsum hS hres
  generalize (knownC c).arr = ds at HK' HF13
  generalize c.arr = cs at HK' HI ⊢
  go_enter Tryd.func11, Tryd.ntmps11
  go_upto_region 1 with fail
  generalize hW0 : World.alloc _ _ = W0
  have HX : Hid (HasBox W0 w.heap.size 23 cs) := by show HasBox _ _ _ _; rw [← hW0]; exact ((hasBox_new w _ _).alloc _).alloc _
  have HOb : Hid (HasBox W0 (w.heap.size + 1) 32 #[.bool ob, .int .i64 of_, .int .i64 ou, .int .i64 ot]) := by show HasBox _ _ _ _; rw [← hW0]; exact (hasBox_new' _ _ _ _ (by simp)).alloc _
  have HZ : Hid (HasBox W0 (w.heap.size + 2) 32 (ogcells noOg)) := by show HasBox _ _ _ _; rw [← hW0]; exact hasBox_new' _ _ _ _ (by simp)
  have HB0 : Hid (Below w.heap.size w W0) := by show Below _ _ _; rw [← hW0]; exact (((Below.refl _ _).alloc (Nat.le_refl _) _).alloc (by simp) _).alloc (by simp; omega) _
  have HK : Hid (Calls Tryd.prog 19 #[.agg cs] W0 fun e w' => e = .returned (.agg ds) ∧ Below W0.heap.size W0 w') := HK'.out W0 (HT.out.below HB0.out)
  have HS := HS'.out
  clear hW0 HK' HT HS'
  have c3 : W0.cell? ⟨w.heap.size + 1, 3, none⟩ = some (.int .i64 ot) := HOb.out.cell 3
  go_wp2_with fail
  refine (HWi.out _).mono ?_
  rintro e w1 ⟨rfl, hw⟩
  subst w1
  have e9 := HW1.out
  clear HOb c3 ht1 ht2
  go_upto_region 3 with fail
  clear e9 hT2
  go_wp2_with (first | (refine wpList_load_bx rfl 23 (.tmp 3) rfl w.heap.size rfl 23 _ _ HX.out Tryd.underlying23 rfl HI.out ?_) | fail)
  refine (HK.out).mono ?_
  rintro e w1 ⟨rfl, hb⟩
  have HB1 : Hid (Below w.heap.size w w1) := HB0.out.trans (hb.mono HB0.out.size)
  have HZ1 : Hid (HasBox w1 (w.heap.size + 2) 32 (ogcells noOg)) := HZ.out.below hb
  have e13 := HF13.out w1
  have em := HMul.out
  clear hb HX HZ HB0 HK HMul HF13
  go_wp2_with fail
  refine (HS _ _ (two_ints w1 t0 x _ _ rfl HF.out HXb.out)).mono ?_
  rintro e w2 ⟨rfl, hb⟩
  have HB2 : Hid (Below w.heap.size w w2) := (HB1.out.alloc HB1.out.size _).trans (hb.mono (by have := HB1.out.size; simp; omega))
  have HZ2 : Hid (HasBox w2 (w.heap.size + 2) 32 (ogcells noOg)) := (HZ1.out.alloc _).below hb
  clear hb HZ1 HB1 HS e13 em
  have er := HRes.out
  go_wp2_with (first | (refine wpList_store_row rfl 32 (.tmp 6) (.tmp 27) rfl (w.heap.size + 2) res rfl rfl 32 _ HZ2.out HIr.out HZr.out HOr.out ?_) | fail)
  refine bodyPost_ret (results_cell_row rfl _ _ (w.heap.size + 2) 32 _ _ _ rfl (setRow_heap w2 _ _ _ _ _ HZ2.out) Tryd.underlying32 rfl HIr.out) rfl ?_
  exact ⟨congrArg _ (congrArg _ HEnd.out), below_setRow HB2.out (by omega) _⟩

set_option maxHeartbeats 1000000 in
theorem eBack_any (o : Og) (w : World) (_ : inOg o) : Calls Tryd.prog 13 #[ogval o] w fun e w' => e = .returned (ogval (backE o)) ∧ Below w.heap.size w w' := by
  have HWi : Hid (∀ W : World, Calls Tryd.prog 21 #[.int .i64 o.times] W fun e w' => e = .returned (.int .i64 (timesE o.times)) ∧ w' = W) := fun W => ewithin_any _ W
  unfold backE
  generalize timesE o.times = T at HWi ⊢
  obtain ⟨ob, of_, ou, ot⟩ := o
  unfold ogval ogcells
  simp only at HWi ⊢
  go_enter Tryd.func13, Tryd.ntmps13
  go_upto_region 1 with fail
  generalize hW0 : World.alloc _ _ = W0
  have HX : Hid (HasBox W0 w.heap.size 32 #[.bool ob, .int .i64 of_, .int .i64 ou, .int .i64 ot]) := by show HasBox _ _ _ _; rw [← hW0]; exact (hasBox_new w _ _).alloc _
  have HZ : Hid (HasBox W0 (w.heap.size + 1) 32 #[.bool false, .int .i64 0, .int .i64 0, .int .i64 0]) := by show HasBox _ _ _ _; rw [← hW0]; exact hasBox_new' _ _ _ _ (by simp)
  have HB0 : Hid (Below w.heap.size w W0) := by show Below _ _ _; rw [← hW0]; exact ((Below.refl _ _).alloc (Nat.le_refl _) _).alloc (by simp) _
  clear hW0
  have c3 : W0.cell? ⟨w.heap.size, 3, none⟩ = some (.int .i64 ot) := HX.out.cell 3
  go_wp2_with fail
  refine (HWi.out _).mono ?_
  rintro e w1 ⟨rfl, hw⟩
  subst w1
  go_wp2_with (first | (refine wpList_store_row rfl 32 (.tmp 2) (.tmp 6) rfl (w.heap.size + 1) (#[.bool false, .int .i64 0, .int .i64 0, .int .i64 T] : Array Value) rfl rfl 32 _ HZ.out infoOuting rfl (ogcells_one ⟨false, 0, 0, T⟩) ?_) | fail)
  refine bodyPost_ret (results_cell_row rfl _ _ (w.heap.size + 1) 32 _ _ _ rfl (setRow_heap W0 _ _ _ _ _ HZ.out) Tryd.underlying32 rfl infoOuting) rfl ?_
  exact ⟨rfl, below_setRow HB0.out (by omega) _⟩

set_option maxHeartbeats 1000000 in
theorem eFade_any (o : Og) (w : World) (_ : inOg o) : Calls Tryd.prog 12 #[ogval o] w fun e w' => e = .returned (ogval (fadeE o)) ∧ Below w.heap.size w w' := by
  have HWi : Hid (∀ W : World, Calls Tryd.prog 21 #[.int .i64 o.times] W fun e w' => e = .returned (.int .i64 (timesE o.times)) ∧ w' = W) := fun W => ewithin_any _ W
  obtain ⟨b1, b2⟩ := timesE_bd o.times
  unfold fadeE
  generalize timesE o.times = T at HWi b1 b2 ⊢
  obtain ⟨d, hd⟩ : ∃ d, T - 1 = d := ⟨_, rfl⟩
  have hw1 : IntKind.i64.wrap (T - 1) = d := (wrap_in (by omega) (by omega)).trans hd
  rw [hd]
  clear hd b1 b2
  obtain ⟨ob, of_, ou, ot⟩ := o
  unfold ogval ogcells
  simp only at HWi ⊢
  obtain ⟨y, hy⟩ : ∃ y, (if ob = true then T else if d < 0 then 0 else d) = y := ⟨_, rfl⟩
  rw [hy]
  have HY : Hid ((if ob = true then T else if d < 0 then 0 else d) = y) := hy
  clear hy
  go_enter Tryd.func12, Tryd.ntmps12
  go_upto_region 1 with fail
  generalize hW0 : World.alloc _ _ = W0
  have HX : Hid (HasBox W0 w.heap.size 32 #[.bool ob, .int .i64 of_, .int .i64 ou, .int .i64 ot]) := by show HasBox _ _ _ _; rw [← hW0]; exact (hasBox_new w _ _).alloc _
  have HZ : Hid (HasBox W0 (w.heap.size + 1) 32 #[.bool false, .int .i64 0, .int .i64 0, .int .i64 0]) := by show HasBox _ _ _ _; rw [← hW0]; exact hasBox_new' _ _ _ _ (by simp)
  have HB0 : Hid (Below w.heap.size w W0) := by show Below _ _ _; rw [← hW0]; exact ((Below.refl _ _).alloc (Nat.le_refl _) _).alloc (by simp) _
  clear hW0
  have c3 : W0.cell? ⟨w.heap.size, 3, none⟩ = some (.int .i64 ot) := HX.out.cell 3
  go_wp2_with fail
  refine (HWi.out _).mono ?_
  rintro e w1 ⟨rfl, hw⟩
  subst w1
  have f3 : W0.frozen? ⟨w.heap.size, 3, none⟩ = false := HX.out.frozen 3
  go_upto_region 2 with fail
  generalize hW1 : W0.setCell _ _ = W1
  have HX1 : Hid (HasBox W1 w.heap.size 32 #[.bool ob, .int .i64 of_, .int .i64 ou, .int .i64 T]) := by show HasBox _ _ _ _; rw [← hW1]; simpa using HX.out.set 3 (.int .i64 T)
  have HZ1 : Hid (HasBox W1 (w.heap.size + 1) 32 #[.bool false, .int .i64 0, .int .i64 0, .int .i64 0]) := by show HasBox _ _ _ _; rw [← hW1]; exact HZ.out.setOther _ (by simp) _
  have HB1 : Hid (Below w.heap.size w W1) := by show Below _ _ _; rw [← hW1]; exact HB0.out.setCell (Nat.le_refl _) _
  clear hW1 HX HZ HB0 HWi f3 c3
  cases ob with
  | true =>
    obtain rfl : T = y := HY.out
    have c0 : W1.cell? ⟨w.heap.size, 0, none⟩ = some (.bool true) := HX1.out.cell 0
    go_wp2_with (first | (refine wpList_load_bx rfl 32 (.tmp 1) rfl w.heap.size rfl 32 _ _ HX1.out Tryd.underlying32 rfl infoOuting ?_) | (refine wpList_store_row rfl 32 (.tmp 2) (.tmp 15) rfl (w.heap.size + 1) (#[.bool true, .int .i64 of_, .int .i64 ou, .int .i64 T] : Array Value) rfl rfl 32 _ HZ1.out infoOuting rfl (ogcells_one ⟨true, of_, ou, T⟩) ?_) | fail)
    refine bodyPost_ret (results_cell_row rfl _ _ (w.heap.size + 1) 32 _ _ _ rfl (setRow_heap W1 _ _ _ _ _ HZ1.out) Tryd.underlying32 rfl infoOuting) rfl ?_
    exact ⟨rfl, below_setRow HB1.out (by omega) _⟩
  | false =>
    have c0 : W1.cell? ⟨w.heap.size, 0, none⟩ = some (.bool false) := HX1.out.cell 0
    have c3 : W1.cell? ⟨w.heap.size, 3, none⟩ = some (.int .i64 T) := HX1.out.cell 3
    have f3 : W1.frozen? ⟨w.heap.size, 3, none⟩ = false := HX1.out.frozen 3
    have hy : (if d < 0 then 0 else d) = y := by have := HY.out; rwa [if_neg (by simp)] at this
    go_upto_region 4 with fail
    generalize hW2 : W1.setCell _ _ = W2
    have HX2 : Hid (HasBox W2 w.heap.size 32 #[.bool false, .int .i64 of_, .int .i64 ou, .int .i64 y]) := by show HasBox _ _ _ _; rw [← hW2]; simpa using HX1.out.set 3 (.int .i64 y)
    have HZ2 : Hid (HasBox W2 (w.heap.size + 1) 32 #[.bool false, .int .i64 0, .int .i64 0, .int .i64 0]) := by show HasBox _ _ _ _; rw [← hW2]; exact HZ1.out.setOther _ (by simp) _
    have HB2 : Hid (Below w.heap.size w W2) := by show Below _ _ _; rw [← hW2]; exact HB1.out.setCell (Nat.le_refl _) _
    clear hW2 HX1 HZ1 HB1 c0 c3 f3
    go_wp2_with (first | (refine wpList_load_bx rfl 32 (.tmp 1) rfl w.heap.size rfl 32 _ _ HX2.out Tryd.underlying32 rfl infoOuting ?_) | (refine wpList_store_row rfl 32 (.tmp 2) (.tmp 15) rfl (w.heap.size + 1) (#[.bool false, .int .i64 of_, .int .i64 ou, .int .i64 y] : Array Value) rfl rfl 32 _ HZ2.out infoOuting rfl (ogcells_one ⟨false, of_, ou, y⟩) ?_) | fail)
    refine bodyPost_ret (results_cell_row rfl _ _ (w.heap.size + 1) 32 _ _ _ rfl (setRow_heap W2 _ _ _ _ _ HZ2.out) Tryd.underlying32 rfl infoOuting) rfl ?_
    exact ⟨rfl, below_setRow HB2.out (by omega) _⟩

def fkeys (l : List TimerT) : List (Int × Int) := l.map fun t => (t.at_, t.id)
theorem fkeys_length (l : List TimerT) : (fkeys l).length = l.length := by simp [fkeys]
theorem fkeys_get (l : List TimerT) (k : Nat) (h : k < l.length) : (fkeys l).getD k (0, 0) = ((l.getD k noTimer).at_, (l.getD k noTimer).id) := by simp [fkeys, h]
theorem infoKeyE : (Tryd.prog.info? 54).map (fun i => (i.zero, i.size, i.bytes)) = some (some (.agg #[.int .i64 0, .int .i64 0]), 2, 16) := by kernel_rfl
theorem infoNumE : (Tryd.prog.info? 3).map (fun i => (i.zero, i.size, i.bytes)) = some (some (.int .i64 0), 1, 8) := by kernel_rfl
theorem take_moreE {α : Type} (l : List α) (k : Nat) (h : k < l.length) (d : α) : l.take (k + 1) = l.take k ++ [l.getD k d] := by
  rw [List.take_succ_eq_append_getElem h]
  simp [h]
set_option maxRecDepth 100000 in
set_option maxHeartbeats 4000000 in
theorem eFirst_any (l : List TimerT) (k : Int) (v : Value) (w : World) (hv : IsTimers w v l) (hlen : l.length ≤ 1000) (hk : -9223372036854775808 ≤ k ∧ k ≤ 9223372036854775807) :
    Calls Tryd.prog 14 #[v, .int .i64 k] w fun e w' => ∃ v', e = .returned v' ∧ IsInts w' v' (firstE l k) ∧ Below w.heap.size w w' := by
  obtain ⟨ao, cap, rfl⟩ := hv.shaped
  have HL : Hid (IsTimers w (.slice ao l.length cap) l) := hv
  have HLen : Hid (l.length ≤ 1000) := hlen
  obtain ⟨k1, hk1⟩ : ∃ x, (if k < 0 then 0 else k) = x := ⟨_, rfl⟩
  obtain ⟨K, hK⟩ : ∃ K : Nat, (if (l.length : Int) < k1 then (l.length : Int) else k1) = (K : Int) := by
    refine ⟨min k.toNat l.length, ?_⟩
    rw [← hk1]
    split <;> split <;> omega
  have HKl : Hid (K ≤ l.length) := by show _ ≤ _; split at hK <;> omega
  have hKk : K = min k.toNat l.length := by rw [← hk1] at hK; split at hK <;> split at hK <;> omega
  have HE : Hid (firstE l k = ((sortV (fkeys l)).take K).map (·.2)) := by
    show firstE l k = _
    unfold firstE
    have hs : (sortV (fkeys l)).length = l.length := by rw [sortV_length, fkeys_length]
    have : (sortV (fkeys l)).take K = (sortV (fkeys l)).take k.toNat := by
      rw [hKk, ← hs]
      rcases Nat.le_total k.toNat (sortV (fkeys l)).length with h | h
      · rw [Nat.min_eq_left h]
      · rw [Nat.min_eq_right h, List.take_of_length_le (Nat.le_refl _), List.take_of_length_le h]
    rw [this]
    rfl
  have HH1 : Hid ((if k < 0 then 0 else k) = k1) := hk1
  have HH2 : Hid ((if (l.length : Int) < k1 then (l.length : Int) else k1) = (K : Int)) := hK
  have HIn : Hid (∀ q ∈ fkeys l, inK q) := fun q hq => by
    obtain ⟨x, hx, rfl⟩ := List.mem_map.1 hq
    have := HL.out.ok x hx
    exact ⟨this.1, this.2.2⟩
  have hm := run_make_flat (P := Tryd.prog) 50 54 (.agg #[.int .i64 0, .int .i64 0]) (.int .i64 0) 2 16 Tryd.underlying50 infoKeyE rfl (by omega) l.length (by have := HLen.out; omega) (by have := HLen.out; omega)
  have hmax := hv.row.2.1.1
  unfold maxLen at hmax
  generalize firstE l k = R at HE ⊢
  clear hk1 hK hKk hv hk
  obtain ⟨i0, hi, hz0, hz1, hz2⟩ := info_parts infoNumE
  go_enter Tryd.func14, Tryd.ntmps14
  go_upto_region 2 with fail
  generalize hW3 : World.alloc _ _ = W3
  have HX : Hid (HasBox W3 w.heap.size 54 (fillV (keyCells (fkeys l)) (.int .i64 0) (0 * 2))) := by
    show HasBox _ _ _ _
    rw [← hW3, Nat.zero_mul, fill_start, keyCells_length, fkeys_length]
    simpa using hasBox_new w 54 (List.replicate (l.length * 2) (Value.int .i64 0)).toArray
  have HB3 : Hid (Below w.heap.size w W3) := by show Below _ _ _; rw [← hW3]; exact (Below.refl _ _).alloc (Nat.le_refl _) _
  clear hW3 hm
  go_wp2
  clear hmax hlen
  go_loopw [16] (fun i wr => ∃ j : Nat, j ≤ l.length ∧ i = .int .i64 j ∧ HasBox wr w.heap.size 54 (fillV (keyCells (fkeys l)) (.int .i64 0) (j * 2)) ∧ Below w.heap.size w wr) (fun i _ => l.length - (intOf i).toNat)
  case atStart => exact ⟨0, Nat.zero_le _, rfl, HX.out, HB3.out⟩
  case round =>
    obtain ⟨j, hj, rfl, hx, hb⟩ := hrel
    have HXr : Hid (HasBox wr w.heap.size 54 (fillV (keyCells (fkeys l)) (.int .i64 0) (j * 2))) := hx
    have HB : Hid (Below w.heap.size w wr) := hb
    clear hx hb HX HB3
    have hlen := HLen.out
    by_cases hlt : j < l.length
    · obtain ⟨b, off, rfl, hbl, g0, g1, g2⟩ := (HL.out.below HB.out).at j hlt
      have hkl : (keyCells (fkeys l)).length = l.length * 2 := by rw [keyCells_length, fkeys_length]
      obtain ⟨q0, q1⟩ := keyCells_at (fkeys l) j (by rw [fkeys_length]; exact hlt)
      rw [fkeys_get l j hlt] at q0 q1
      have HA0 : Hid ((fillV (keyCells (fkeys l)) (.int .i64 0) (j * 2))[j * 2]? = some (.int .i64 0)) := fill_at (by omega)
      have HA1 : Hid ((fillV (keyCells (fkeys l)) (.int .i64 0) (j * 2 + 1))[j * 2 + 1]? = some (.int .i64 0)) := fill_at (by omega)
      have HT0 : Hid ((fillV (keyCells (fkeys l)) (.int .i64 0) (j * 2)).setIfInBounds (j * 2) (.int .i64 (l.getD j noTimer).at_) = fillV (keyCells (fkeys l)) (.int .i64 0) (j * 2 + 1)) := fill_set (by omega) q0
      have HT1 : Hid ((fillV (keyCells (fkeys l)) (.int .i64 0) (j * 2 + 1)).setIfInBounds (j * 2 + 1) (.int .i64 (l.getD j noTimer).id) = fillV (keyCells (fkeys l)) (.int .i64 0) ((j + 1) * 2)) := by have := fill_set (L := keyCells (fkeys l)) (d := .int .i64 0) (k := j * 2 + 1) (by omega) q1; rwa [show j * 2 + 1 + 1 = (j + 1) * 2 by omega] at this
      generalize hA2 : fillV (keyCells (fkeys l)) (.int .i64 0) ((j + 1) * 2) = A2 at *
      generalize fillV (keyCells (fkeys l)) (.int .i64 0) (j * 2 + 1) = A1 at *
      generalize fillV (keyCells (fkeys l)) (.int .i64 0) (j * 2) = A0 at *
      generalize l.getD j noTimer = x at *
      obtain ⟨ta, tk, ti⟩ := x
      simp only at g0 g1 g2 HT0 HT1 q0 q1
      clear q0 q1 hkl
      have j1 : (j : Int) < (l.length : Int) := by omega
      have j2 : (0 : Int) ≤ (j : Int) := by omega
      go_upto_region 5 with fail
      generalize hW5 : World.alloc _ _ = w1
      have HX1 : Hid (HasBox w1 w.heap.size 54 A0) := by show HasBox _ _ _ _; rw [← hW5]; exact HXr.out.alloc _
      have HI1 : Hid (HasBox w1 wr.heap.size 52 #[.int .i64 ta, .int .i64 tk, .int .i64 ti]) := by show HasBox _ _ _ _; rw [← hW5]; exact hasBox_new wr _ _
      have HB1 : Hid (Below w.heap.size w w1) := by show Below _ _ _; rw [← hW5]; exact HB.out.alloc HB.out.size _
      have HLt : Hid (w.heap.size < wr.heap.size) := HXr.out.lt
      clear hW5 HXr HB g0 g1 g2 hbl
      have c0 : w1.cell? ⟨wr.heap.size, 0, none⟩ = some (.int .i64 ta) := HI1.out.cell 0
      have c2 : w1.cell? ⟨wr.heap.size, 2, none⟩ = some (.int .i64 ti) := HI1.out.cell 2
      have k0 : w1.cell? ⟨w.heap.size, j * 2, none⟩ = some (.int .i64 0) := (HX1.out.cell _).trans HA0.out
      have k1 : w1.cell? ⟨w.heap.size, j * 2 + 1, none⟩ = some (.int .i64 0) := (HX1.out.cell (j * 2 + 1)).trans (by rw [← HA1.out, ← HT0.out, Array.getElem?_setIfInBounds, if_neg (by omega)])
      have f0 : w1.frozen? ⟨w.heap.size, j * 2, none⟩ = false := HX1.out.frozen _
      have f1 : w1.frozen? ⟨w.heap.size, j * 2 + 1, none⟩ = false := HX1.out.frozen _
      go_wp2
      have HX2 : Hid (HasBox ((w1.setCell ⟨w.heap.size, j * 2, none⟩ (.int .i64 ta)).setCell ⟨w.heap.size, j * 2 + 1, none⟩ (.int .i64 ti)) w.heap.size 54 A2) := by
        show HasBox _ _ _ _
        rw [← HT1.out, ← HT0.out]
        exact (HX1.out.set _ _).set _ _
      have HB2 : Hid (Below w.heap.size w ((w1.setCell ⟨w.heap.size, j * 2, none⟩ (.int .i64 ta)).setCell ⟨w.heap.size, j * 2 + 1, none⟩ (.int .i64 ti))) := (HB1.out.setCell (by simp) _).setCell (by simp) _
      go_roundw
      case rel => exact ⟨j + 1, by omega, by go_num, by rw [hA2]; exact HX2.out, HB2.out⟩
      case measure => simp [intOf]; omega
    · obtain rfl : j = l.length := by omega
      have HK : Hid (IsKeys wr (.slice (some ⟨w.heap.size, 0, none⟩) l.length l.length) (fkeys l)) := by
        show IsKeys _ _ _
        have h1 := HXr.out
        have e : fillV (keyCells (fkeys l)) (.int .i64 0) (l.length * 2) = (keyCells (fkeys l)).toArray := by
          have := fill_end (keyCells (fkeys l)) (.int .i64 0)
          rwa [keyCells_length, fkeys_length] at this
        rw [e] at h1
        have hr := row_box (sz := 2) (n := l.length) h1 (by rw [keyCells_length, fkeys_length]) (by omega)
        have := IsRow.keys (ks := fkeys l) (by rw [fkeys_length]; exact hr) HIn.out (by rw [fkeys_length]; omega)
        exact this
      have HKm : Hid ((fkeys l).length ≤ 1000000) := by show _ ≤ _; rw [fkeys_length]; omega
      have HSl : Hid ((sortV (fkeys l)).length = l.length) := by show _ = _; rw [sortV_length, fkeys_length]
      clear HXr HIn
      go_wp2_with fail
      refine (sort_any (fkeys l) _ _ HK.out HKm.out).mono ?_
      rintro e w1 ⟨v1, rfl, hk1, hb1⟩
      obtain ⟨a1, c1, rfl⟩ := hk1.shape
      have HK1 : Hid (IsKeys w1 (.slice a1 (sortV (fkeys l)).length c1) (sortV (fkeys l))) := hk1
      have HB1 : Hid (Below w.heap.size w w1) := HB.out.trans (hb1.mono HB.out.size)
      clear hk1 hb1 HK HB HKm
      generalize sortV (fkeys l) = ks at *
      have HT1 : Hid (IsKeys w1 (.slice a1 K c1) (ks.take K)) := keys_upto HK1.out K (by rw [HSl.out]; exact HKl.out)
      have hc1 := HK1.out.2.1.2.1
      rw [HSl.out] at hc1
      have hkl := HKl.out
      have HTl : Hid ((ks.take K).length = K) := by show _ = _; rw [List.length_take, HSl.out]; omega
      rw [HSl.out]
      generalize ks.take K = ks1 at *
      have e1 := HH1.out
      have e2 := HH2.out
      have j1 : (0 : Int) ≤ (K : Int) := by omega
      have j2 : (K : Int) ≤ (l.length : Int) := by omega
      have j3 : (K : Int) ≤ (c1 : Int) := by omega
      clear HK1 HSl
      go_wp2
      clear e1 e2 j1 j2 j3 hc1 HH1 HH2
      go_loopw [8, 40] (fun o i wr => ∃ j : Nat, j ≤ K ∧ i = .int .i64 j ∧ wr.ownsRow w1.heap.size 3 1 o j (((ks1.take j).map (·.2)).map (Value.int .i64)) ∧ Below w1.heap.size w1 wr) (fun _ i _ => K - (intOf i).toNat)
      case atStart => exact ⟨0, Nat.zero_le _, rfl, World.ownsRow_nil _ _ _ _, Below.refl _ _⟩
      case round =>
        obtain ⟨j, hj, rfl, ho, hb⟩ := hrel
        have HO : Hid (wr.ownsRow w1.heap.size 3 1 u8 j (((ks1.take j).map (·.2)).map (Value.int .i64))) := ho
        have HB : Hid (Below w1.heap.size w1 wr) := hb
        clear ho hb
        by_cases hlt : j < K
        · have hjl : j < ks1.length := by rw [HTl.out]; exact hlt
          obtain ⟨b, off, rfl, hbl, g1, g2⟩ := (HT1.out.below HB.out).at j hjl
          have HN : Hid (((ks1.take (j + 1)).map (·.2)).map (Value.int .i64) = ((ks1.take j).map (·.2)).map (Value.int .i64) ++ [.int .i64 (ks1.getD j (0, 0)).2]) := by
            show _ = _
            rw [take_moreE ks1 j hjl (0, 0)]
            simp
          generalize ((ks1.take j).map (·.2)).map (Value.int .i64) = E at *
          generalize ks1.getD j (0, 0) = x at g1 g2 HN
          obtain ⟨x1, x2⟩ := x
          simp only at g1 g2 HN
          have j1 : (j : Int) < (K : Int) := by omega
          have j2 : (0 : Int) ≤ (j : Int) := by omega
          go_wp2_with (at_builtin; refine wpList_append_row rfl (.tmp 44) (.tmp 47) 24 rfl w1.heap.size 3 i0 _ 1 8 Tryd.underlying24 hi hz0 hz1 hz2 rfl (by decide) _ j _ rfl ((HO.out.alloc _).alloc _) _ 1 [.int .i64 x2] rfl (one_val _ _ _ _ (by simp)) (by simp [Value.oneCell']) (by unfold maxLen; omega) (by omega) (by have := HB.out.size; simp; omega) ?_)
          intro v' w2 hown hgrow _
          have HO2 : Hid (w2.ownsRow w1.heap.size 3 1 v' (j + 1) (((ks1.take (j + 1)).map (·.2)).map (Value.int .i64))) := by
            show World.ownsRow _ _ _ _ _ _ _
            rw [HN.out]; exact hown
          have HB2 : Hid (Below w1.heap.size w1 w2) := ((HB.out.alloc HB.out.size _).alloc (by have := HB.out.size; simp; omega) _).grown hgrow (by have := HB.out.size; simp; omega) (own_base HO.out)
          clear hown hgrow HO HB
          go_wp2
          go_roundw
          case rel => exact ⟨j + 1, by omega, by go_num, HO2.out, HB2.out⟩
          case measure => simp [intOf]; omega
        · go_wp2
          go_ret
          have hh := HO.out
          obtain rfl : j = K := by omega
          rw [List.take_of_length_le (by rw [HTl.out]; omega)] at hh
          refine ⟨_, rfl, ?_, HB1.out.trans (HB.out.mono HB1.out.size)⟩
          rw [HE.out]
          exact isInts_own hh (by rw [List.length_map, HTl.out]) (by rw [List.length_map, HTl.out]; omega) (fun x hx => by
            obtain ⟨q, hq, rfl⟩ := List.mem_map.1 hx
            exact (HT1.out.1 q hq).2)

end Go.Proofs.YtomhmndpjkfppaaDoor

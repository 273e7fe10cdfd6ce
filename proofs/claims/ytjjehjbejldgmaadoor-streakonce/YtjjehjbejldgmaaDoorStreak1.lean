/-
  Contracts of package streak: within, next, enough, Note, All.
-/
import Derived.Test.YtjjehjbejldgmaaDoorStreakMath
import Derived.Test.YtjjehjbejldgmaaDoorKnownKit
import Derived.Test.YtjjehjbejldgmaaDoorBoolsOpen
import Derived.Laws.Rows
import Derived.Laws.Small
import Derived.Deep.CutRange
namespace Go.Proofs.YtjjehjbejldgmaaDoor
open Go.RowKit

set_option maxHeartbeats 1000000 in
theorem within_any (n : Int) (w : World) : Calls Tryd.prog 15 #[.int .i64 n] w fun e w' => e = .returned (.int .i64 (capS n)) ∧ w' = w := by
  obtain ⟨R, hR⟩ : ∃ R, capS n = R := ⟨_, rfl⟩
  rw [hR]
  unfold capS topS at hR
  go_enter Tryd.func15, Tryd.ntmps15
  by_cases h0 : n < 0
  · rw [if_pos h0] at hR
    subst hR
    go_wp2
    go_ret
    exact ⟨rfl, rfl⟩
  · rw [if_neg h0] at hR
    by_cases h1 : 4611686018427387904 < n
    · rw [if_pos h1] at hR
      subst hR
      go_wp2
      go_ret
      exact ⟨rfl, rfl⟩
    · rw [if_neg h1] at hR
      subst hR
      go_wp2
      go_ret
      exact ⟨rfl, rfl⟩

set_option maxHeartbeats 1000000 in
theorem next_any (e n : Int) (ok : Bool) (h0 : 0 ≤ n) (w : World) : Calls Tryd.prog 13 #[.int .i64 e, .int .i64 n, .bool ok] w fun x w' => x = .returned (.tuple #[.int .i64 (nextS e n ok).1, .bool (nextS e n ok).2]) ∧ w' = w := by
  cases ok with
  | true =>
    have hn : nextS e n true = (0, false) := rfl
    rw [hn]
    clear hn
    go_enter Tryd.func13, Tryd.ntmps13
    go_wp2
    go_ret2
    exact ⟨rfl, rfl⟩
  | false =>
    obtain ⟨M, hM⟩ : ∃ M, moreS n = M := ⟨_, rfl⟩
    have hn : nextS e n false = (M, decide (0 < e) && decide (e ≤ M)) := by unfold nextS; rw [if_neg (by decide), hM]
    rw [hn]
    clear hn
    simp only
    unfold moreS topS at hM
    have hM1 : (if (4611686018427387903 : Int) < n then (4611686018427387903 : Int) else n) = M - 1 := by
      by_cases h : n < 4611686018427387904
      · rw [if_pos h] at hM; rw [if_neg (by omega)]; omega
      · rw [if_neg h] at hM; rw [if_pos (by omega)]; omega
    have hM2 : IntKind.i64.wrap (M - 1 + 1) = M := by
      rw [show M - 1 + 1 = M by omega]
      refine wrap_in ?_ ?_ <;> (by_cases h : n < 4611686018427387904 <;> simp only [h, if_true, if_false] at hM <;> omega)
    clear hM
    go_enter Tryd.func13, Tryd.ntmps13
    by_cases h1 : 0 < e
    · rw [decide_eq_true h1, Bool.true_and]
      by_cases h2 : e ≤ M
      · rw [decide_eq_true h2]
        go_wp2
        go_ret2
        exact ⟨rfl, rfl⟩
      · rw [decide_eq_false h2]
        go_wp2
        go_ret2
        exact ⟨rfl, rfl⟩
    · rw [decide_eq_false h1, Bool.false_and]
      go_wp2
      go_ret2
      exact ⟨rfl, rfl⟩

set_option maxRecDepth 100000 in
set_option maxHeartbeats 2000000 in
theorem enough_any (c : Cfg) (w : World) (htab : TabC w) (hz : c.zone.size ≤ 9223372036854775807) :
    Calls Tryd.prog 14 #[.agg c.arr] w fun e w' => e = .returned (.int .i64 (knownC c).f7) ∧ Below w.heap.size w w' := by
  have HT : Hid (TabC w) := htab
  clear htab
  have HMay : Hid (∀ W : World, TabC W → Calls Tryd.prog 21 #[.agg c.arr] W fun e w' => e = .returned (.bool (mayC c)) ∧ Below W.heap.size W w') := fun W h => may_any c W h hz
  have HI : Hid ((Tryd.prog.info? 23).map (·.size) = some c.arr.size) := arr_inf c
  have HJ : Hid ((Tryd.prog.info? 23).map (·.size) = some defC.arr.size) := arr_inf defC
  have HOd : Hid (defC.arr.all (·.oneCell') = true) := arr_one defC
  have HDef : Hid (∀ W : World, TabC W → Calls Tryd.prog 22 #[] W fun e w' => e = .returned (.agg defC.arr) ∧ Below W.heap.size W w') := default_any
  have HC7 : Hid (c.arr[7]? = some (.int .i64 c.f7)) := rfl
  have HD7 : Hid (defC.arr[7]? = some (.int .i64 defC.f7)) := rfl
  have HR : Hid ((knownC c).f7 = if mayC c then c.f7 else defC.f7) := by show _ = _; unfold knownC; split <;> rfl
  have HOS : Hid (c.arr.size = defC.arr.size) := (arr_size c).trans (arr_size defC).symm
  generalize (knownC c).f7 = R at HR ⊢
  generalize c.f7 = x7 at HC7 HR
  generalize defC.f7 = d7 at HD7 HR
  generalize c.arr = cs at HMay HI HC7 HOS ⊢
  generalize defC.arr = ds at HDef HJ HOd HD7 HOS
  generalize mayC c = q at HMay HR
  go_enter Tryd.func14, Tryd.ntmps14
  go_upto_region 1 with fail
  generalize hW0 : w.alloc _ = W0
  have HC0 : Hid (CellsAt W0 w.heap.size cs) := by show CellsAt _ _ _; rw [← hW0]; exact heap_alloc_new w _
  have HB0 : Hid (Below w.heap.size w W0) := by show Below _ _ _; rw [← hW0]; exact (Below.refl _ _).alloc (Nat.le_refl _) _
  have HT0 : Hid (TabC W0) := HT.out.below HB0.out
  clear hW0 HT
  go_wp2_with (first | (refine wpList_load_row rfl 23 (.tmp 1) rfl w.heap.size rfl 23 _ (0, 0) _ HC0.out Tryd.underlying23 rfl HI.out ?_) | fail)
  refine (HMay.out _ HT0.out).mono ?_
  rintro e w1 ⟨rfl, hb⟩
  have HC1 : Hid (CellsAt w1 w.heap.size cs) := HC0.out.below hb
  have HB1 : Hid (Below w.heap.size w w1) := HB0.out.trans (hb.mono HB0.out.size)
  have HT1 : Hid (TabC w1) := HT0.out.below hb
  clear hb HC0 HB0 HT0 HMay
  cases q with
  | true =>
    have e : R = x7 := HR.out
    subst e
    have g7 : w1.cell? ⟨w.heap.size, 7, none⟩ = some (.int .i64 R) := (HasBox.cell HC1.out 7).trans HC7.out
    go_wp2
    go_ret
    exact ⟨rfl, HB1.out⟩
  | false =>
    have e : R = d7 := HR.out
    subst e
    go_wp2_with fail
    refine (HDef.out _ HT1.out).mono ?_
    rintro e w2 ⟨rfl, hb⟩
    have HC2 : Hid (CellsAt w2 w.heap.size cs) := HC1.out.below hb
    have HB2 : Hid (Below w.heap.size w w2) := HB1.out.trans (hb.mono HB1.out.size)
    clear hb HC1 HB1 HT1 HDef
    go_wp2_with (first | (refine wpList_store_row rfl 23 (.tmp 1) (.tmp 6) rfl w.heap.size ds rfl rfl 23 _ HC2.out HJ.out HOS.out HOd.out ?_; generalize hW : World.setRow _ _ _ = W3; have HB3 : Hid (Below w.heap.size w W3) := (by show Below _ _ _; rw [← hW]; exact below_setRow HB2.out (Nat.le_refl _) _); have g7 : W3.cell? ⟨w.heap.size, 7, none⟩ = some (.int .i64 R) := (by rw [← hW]; exact (HasBox.cell (HasBox.row HC2.out) 7).trans HD7.out); clear hW) | fail)
    go_ret
    exact ⟨rfl, HB3.out⟩

set_option maxHeartbeats 1000000 in
theorem note_any (c : Cfg) (n : Int) (ok : Bool) (w : World) (htab : TabC w) (hz : c.zone.size ≤ 9223372036854775807) :
    Calls Tryd.prog 7 #[.agg c.arr, .int .i64 n, .bool ok] w fun e w' => e = .returned (.tuple #[.int .i64 (nextS (knownC c).f7 (capS n) ok).1, .bool (nextS (knownC c).f7 (capS n) ok).2]) ∧ Below w.heap.size w w' := by
  have HT : Hid (TabC w) := htab
  clear htab
  have HEn : Hid (∀ W : World, TabC W → Calls Tryd.prog 14 #[.agg c.arr] W fun e w' => e = .returned (.int .i64 (knownC c).f7) ∧ Below W.heap.size W w') := fun W h => enough_any c W h hz
  have HI : Hid ((Tryd.prog.info? 23).map (·.size) = some c.arr.size) := arr_inf c
  have HNx : Hid (∀ W : World, Calls Tryd.prog 13 #[.int .i64 (knownC c).f7, .int .i64 (capS n), .bool ok] W fun x w' => x = .returned (.tuple #[.int .i64 (nextS (knownC c).f7 (capS n) ok).1, .bool (nextS (knownC c).f7 (capS n) ok).2]) ∧ w' = W) := next_any _ _ _ (capS_in n).1
  have HWi : Hid (∀ W : World, Calls Tryd.prog 15 #[.int .i64 n] W fun e w' => e = .returned (.int .i64 (capS n)) ∧ w' = W) := within_any n
  generalize nextS (knownC c).f7 (capS n) ok = R at HNx ⊢
  generalize (knownC c).f7 = E at HEn HNx
  generalize capS n = m at HNx HWi
  generalize c.arr = cs at HEn HI ⊢
  go_enter Tryd.func7, Tryd.ntmps7
  go_upto_region 1 with fail
  generalize hW0 : w.alloc _ = W0
  have HC0 : Hid (CellsAt W0 w.heap.size cs) := by show CellsAt _ _ _; rw [← hW0]; exact heap_alloc_new w _
  have HB0 : Hid (Below w.heap.size w W0) := by show Below _ _ _; rw [← hW0]; exact (Below.refl _ _).alloc (Nat.le_refl _) _
  clear hW0
  go_wp2_with (first | (refine wpList_load_row rfl 23 (.tmp 3) rfl w.heap.size rfl 23 _ (0, 0) _ HC0.out Tryd.underlying23 rfl HI.out ?_) | fail)
  refine (HEn.out _ (HT.out.below HB0.out)).mono ?_
  rintro e w1 ⟨rfl, hb⟩
  have HB1 : Hid (Below w.heap.size w w1) := HB0.out.trans (hb.mono HB0.out.size)
  clear hb HC0 HB0 HEn
  go_wp2_with fail
  refine (HWi.out _).mono ?_
  rintro e w2 ⟨rfl, hw⟩
  subst w2
  go_wp2_with fail
  refine (HNx.out _).mono ?_
  rintro e w2 ⟨rfl, hw⟩
  subst w2
  go_wp2
  go_ret2
  exact ⟨rfl, HB1.out⟩

set_option maxHeartbeats 4000000 in
theorem all_any (c : Cfg) (n : Int) (l : List Bool) (v : Value) (hlen : l.length ≤ 1000000) (w : World) (htab : TabC w) (hz : c.zone.size ≤ 9223372036854775807) (hl : IsBools w v l) :
    Calls Tryd.prog 9 #[.agg c.arr, .int .i64 n, v] w fun e w' => e = .returned (.tuple #[.int .i64 (runS (knownC c).f7 (capS n) l).1, .int .i64 (runS (knownC c).f7 (capS n) l).2]) ∧ Below w.heap.size w w' := by
  obtain ⟨ao, cap, rfl⟩ := hl.shaped
  have HT : Hid (TabC w) := htab
  have HL : Hid (IsBools w (.slice ao l.length cap) l) := hl
  clear htab hl
  have HEn : Hid (∀ W : World, TabC W → Calls Tryd.prog 14 #[.agg c.arr] W fun e w' => e = .returned (.int .i64 (knownC c).f7) ∧ Below W.heap.size W w') := fun W h => enough_any c W h hz
  have HI : Hid ((Tryd.prog.info? 23).map (·.size) = some c.arr.size) := arr_inf c
  have HWi : Hid (∀ W : World, Calls Tryd.prog 15 #[.int .i64 n] W fun e w' => e = .returned (.int .i64 (capS n)) ∧ w' = W) := within_any n
  have HIn : Hid (0 ≤ capS n ∧ capS n ≤ topS) := capS_in n
  generalize (knownC c).f7 = E at HEn ⊢
  generalize capS n = m at HWi HIn ⊢
  generalize c.arr = cs at HEn HI ⊢
  have HNx : Hid (∀ (k : Int) (ok : Bool) (r : Int × Bool), 0 ≤ k → nextS E k ok = r → ∀ W : World, Calls Tryd.prog 13 #[.int .i64 E, .int .i64 k, .bool ok] W fun x w' => x = .returned (.tuple #[.int .i64 r.1, .bool r.2]) ∧ w' = W) := fun k ok r hk hr W => by rw [← hr]; exact next_any E k ok hk W
  go_enter Tryd.func9, Tryd.ntmps9
  go_upto_region 1 with fail
  generalize hW0 : w.alloc _ = W0
  have HC0 : Hid (CellsAt W0 w.heap.size cs) := by show CellsAt _ _ _; rw [← hW0]; exact heap_alloc_new w _
  have HB0 : Hid (Below w.heap.size w W0) := by show Below _ _ _; rw [← hW0]; exact (Below.refl _ _).alloc (Nat.le_refl _) _
  clear hW0
  go_wp2_with (first | (refine wpList_load_row rfl 23 (.tmp 3) rfl w.heap.size rfl 23 _ (0, 0) _ HC0.out Tryd.underlying23 rfl HI.out ?_) | fail)
  refine (HEn.out _ (HT.out.below HB0.out)).mono ?_
  rintro e w1 ⟨rfl, hb⟩
  have HB1 : Hid (Below w.heap.size w w1) := HB0.out.trans (hb.mono HB0.out.size)
  have HL1 : Hid (IsBools w1 (.slice ao l.length cap) l) := HL.out.below HB1.out
  clear hb HC0 HB0 HEn HT HL
  go_wp2_with fail
  refine (HWi.out _).mono ?_
  rintro e w2 ⟨rfl, hw⟩
  subst w2
  have HLen : Hid (l.length ≤ 1000000) := hlen
  clear hlen hz HWi
  go_wp2
  go_loopw [1, 9, 20] (fun a t i wr => wr = w1 ∧ ∃ k : Nat, k ≤ l.length ∧ i = .int .i64 k ∧ a = .int .i64 (runS E m (l.take k)).1 ∧ t = .int .i64 (runS E m (l.take k)).2) (fun _ _ i _ => l.length - (intOf i).toNat)
  case atStart => exact ⟨rfl, 0, Nat.zero_le _, rfl, rfl, rfl⟩
  case round =>
    obtain ⟨rfl, k, hk, rfl, rfl, rfl⟩ := hrel
    obtain ⟨⟨b0, b1⟩, b2, b3⟩ := runS_upto E m l k hk HIn.out.1 HIn.out.2
    by_cases hlt : k < l.length
    · obtain ⟨bl, ol, rfl, hbl, gx⟩ := HL1.out.at k hlt
      have HS : Hid (runS E m (l.take (k + 1)) = oneS E (runS E m (l.take k)) (l.getD k false)) := runS_next E m l k hlt
      generalize l.getD k false = x at gx HS
      obtain ⟨⟨M, y⟩, hr⟩ : ∃ r, nextS E (runS E m (l.take k)).1 x = r := ⟨_, rfl⟩
      have HC : Hid _ := HNx.out _ x (M, y) b0 hr
      have HR : Hid (nextS E (runS E m (l.take k)).1 x = (M, y)) := hr
      have hlen := HLen.out
      have HSw : Hid (IntKind.i64.wrap ((runS E m (l.take k)).2 + 1) = (runS E m (l.take k)).2 + 1) := wrap_in (by omega) (by omega)
      have HS2 : Hid (runS E m (l.take k) = ((runS E m (l.take k)).1, (runS E m (l.take k)).2)) := rfl
      clear hr b0 b1 b2 b3
      rw [HS2.out] at HS
      clear HS2
      generalize (runS E m (l.take k)).1 = a at *
      generalize (runS E m (l.take k)).2 = t at *
      go_wp2_with fail
      refine (HC.out _).mono ?_
      rintro e w3 ⟨rfl, hw⟩
      subst w3
      cases y with
      | true =>
        have e := HS.out.trans (oneS_yes HR.out)
        have hsw := HSw.out
        clear HSw HS HR HC gx hbl
        go_wp2
        go_roundw
        case rel => exact ⟨trivial, k + 1, by omega, by go_num, by rw [e], by rw [e]⟩
        case measure => simp [intOf]; omega
      | false =>
        have e := HS.out.trans (oneS_no HR.out)
        clear HSw HS HR HC gx hbl
        go_wp2
        go_roundw
        case rel => exact ⟨trivial, k + 1, by omega, by go_num, by rw [e], by rw [e]⟩
        case measure => simp [intOf]; omega
    · have hk2 : l.take k = l := List.take_of_length_le (by omega)
      rw [hk2]
      clear hk2 b0 b1 b2 b3
      go_wp2
      go_ret2
      exact ⟨rfl, HB1.out⟩

end Go.Proofs.YtjjehjbejldgmaaDoor

/-
  Contracts of package table: Change.
-/
import Derived.Test.YtcafjjfaamjipaaTableSplit
namespace Go.Proofs.Ytcafjjfaamjipaa
open Go.RowKit

set_option maxRecDepth 100000 in
set_option maxHeartbeats 8000000 in
theorem tchange_any (hs ts : List HostT) (v u : Value) (vs us : List Value) (w : World) (hv : IsHosts w v vs hs) (hu : IsHosts w u us ts) :
    Calls Try.prog 15 #[v, u] w fun e w' => Changed (changeR hs ts) e w' ∧ Below w.heap.size w w' := by
  obtain ⟨lo, lc, rfl⟩ := hv.shaped
  obtain ⟨so, sc, rfl⟩ := hu.shaped
  have HS0 : Hid (IsHosts w (.slice lo hs.length lc) vs hs) := hv
  have HT0 : Hid (IsHosts w (.slice so ts.length sc) us ts) := hu
  have KM := fun W q => tmay_any hs (.slice lo hs.length lc) vs W q
  have KN := fun W q => tmay_any ts (.slice so ts.length sc) us W q
  clear hv hu
  obtain ⟨R, hR⟩ : ∃ R, changeR hs ts = R := ⟨_, rfl⟩
  rw [hR]
  have HR : Hid (changeR hs ts = R) := hR
  clear hR
  go_enter Try.func15, Try.ntmps15
  go_wp2_with fail
  refine (KM _ HS0.out).mono ?_
  rintro e w1 ⟨rfl, hb⟩
  have HB1 : Hid (Below w.heap.size w w1) := hb
  clear hb KM
  cases hm : mayTab hs with
  | false =>
    have HF : Hid (R = ([], [], [], 1)) := by show R = _; rw [← HR.out]; unfold changeR; rw [hm]; rfl
    go_wp2
    go_returns
    exact ⟨by rw [HF.out]; exact ⟨_, _, _, rfl, isInts_nil _, isInts_nil _, isInts_nil _⟩, HB1.out⟩
  | true =>
    go_wp2_with fail
    refine (KN _ (HT0.out.below HB1.out)).mono ?_
    rintro e w2 ⟨rfl, hb⟩
    have HB2 : Hid (Below w.heap.size w w2) := HB1.out.trans (hb.mono HB1.out.size)
    clear hb KN HB1
    cases hn : mayTab ts with
    | false =>
      have HF : Hid (R = ([], [], [], 1)) := by show R = _; rw [← HR.out]; unfold changeR; rw [hm, hn]; rfl
      go_wp2
      go_returns
      exact ⟨by rw [HF.out]; exact ⟨_, _, _, rfl, isInts_nil _, isInts_nil _, isInts_nil _⟩, HB2.out⟩
    | true =>
      have HF : Hid (R = (comeH hs ts, comeH ts hs, stayH hs ts, 0)) := by show R = _; rw [← HR.out]; unfold changeR; rw [hm, hn]; rfl
      have K1 := fun W p q => split_any ts hs (.slice so ts.length sc) (.slice lo hs.length lc) us vs W p q hn hm
      have K2 := fun W p q => split_any hs ts (.slice lo hs.length lc) (.slice so ts.length sc) vs us W p q hm hn
      clear hm hn HR
      go_wp2_with fail
      refine (K1 _ (HT0.out.below HB2.out) (HS0.out.below HB2.out)).mono ?_
      rintro e w3 ⟨a, b, rfl, ha, hb', hb⟩
      have HB3 : Hid (Below w.heap.size w w3) := HB2.out.trans (hb.mono HB2.out.size)
      have HA : Hid (IsInts w3 a (stayH hs ts)) := ha
      have HBB : Hid (IsInts w3 b (comeH hs ts)) := hb'
      clear ha hb' hb K1
      go_wp2_with fail
      refine (K2 _ (HS0.out.below HB3.out) (HT0.out.below HB3.out)).mono ?_
      rintro e w4 ⟨c, d, rfl, _, hd, hb⟩
      have HB4 : Hid (Below w.heap.size w w4) := HB3.out.trans (hb.mono HB3.out.size)
      have HD : Hid (IsInts w4 d (comeH ts hs)) := hd
      have HA4 : Hid (IsInts w4 a (stayH hs ts)) := HA.out.below hb
      have HBB4 : Hid (IsInts w4 b (comeH hs ts)) := HBB.out.below hb
      clear hd hb K2
      go_wp2
      go_returns
      exact ⟨by rw [HF.out]; exact ⟨_, _, _, rfl, HBB4.out, HD.out, HA4.out⟩, HB4.out⟩

end Go.Proofs.Ytcafjjfaamjipaa

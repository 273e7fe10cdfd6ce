/-
  Contracts of package table: what may be a table, the place of a host.
-/
import Derived.Test.YtcafjjfaamjipaaTableKeys
namespace Go.Proofs.Ytcafjjfaamjipaa
open Go.RowKit

theorem may_long {hs : List HostT} (h : 64 < hs.length) : mayTab hs = false := by unfold mayTab; rw [decide_eq_false (by omega), Bool.and_false]
theorem may_bad {hs : List HostT} {k : Nat} (hk : k < hs.length) (h : mayHost (hs.getD k noHost) = false) : mayTab hs = false := by
  unfold mayTab
  rw [Bool.and_eq_false_iff, List.all_eq_false]
  exact .inl ⟨k, List.mem_range.2 hk, by unfold okAt; rw [h]; simp⟩
theorem ltK_key (a b : HostT) : ltK (keyH a) (keyH b) = decide (a.id < b.id) := by unfold ltK keyH; simp
theorem may_rises {hs : List HostT} (hl : hs.length ≤ 64) (h : ∀ i, i < hs.length → mayHost (hs.getD i noHost) = true) : mayTab hs = risingV (keysH hs) := by
  unfold mayTab risingV
  rw [decide_eq_true hl, Bool.and_true, Bool.eq_iff_iff, List.all_eq_true, List.all_eq_true]
  have hk : (keysH hs).length = hs.length := by simp [keysH]
  constructor
  · intro H i hi
    rw [hk] at hi
    have hi := List.mem_range.1 hi
    have := H (i + 1) (List.mem_range.2 (by omega))
    unfold okAt at this
    rw [Bool.and_eq_true] at this
    rw [keysH_at (by omega), keysH_at (by omega), ltK_key]
    simpa using this.2
  · intro H i hi
    have hi := List.mem_range.1 hi
    unfold okAt
    rw [h i hi, Bool.true_and]
    cases i with
    | zero => rfl
    | succ i =>
      have := H i (List.mem_range.2 (by rw [hk]; omega))
      rw [keysH_at (by omega), keysH_at (by omega), ltK_key] at this
      simpa using this
theorem may_key {h : HostT} (hm : mayHost h = true) : inK (keyH h) := by
  unfold mayHost at hm
  simp only [Bool.and_eq_true, decide_eq_true_eq] at hm
  have := hm.1.1.1.1.1.1
  unfold inK keyH
  simp only
  omega

set_option maxRecDepth 100000 in
set_option maxHeartbeats 4000000 in
theorem tmay_any (hs : List HostT) (v : Value) (vs : List Value) (w : World) (hv : IsHosts w v vs hs) :
    Calls Try.prog 19 #[v] w fun e w' => e = .returned (.bool (mayTab hs)) ∧ Below w.heap.size w w' := by
  obtain ⟨ao, cap, rfl⟩ := hv.shaped
  have hlen := hv.len
  have HV : Hid (IsHosts w (.slice ao hs.length cap) vs hs) := hv
  clear hv
  by_cases h64 : 64 < hs.length
  · have HF : Hid (mayTab hs = false) := may_long h64
    go_enter Try.func19, Try.ntmps19
    go_wp2
    go_ret
    exact ⟨by rw [HF.out]; rfl, Below.refl _ _⟩
  · go_enter Try.func19, Try.ntmps19
    go_wp2
    go_loopw [10] (fun i wr => ∃ k : Nat, k ≤ hs.length ∧ i = .int .i64 k ∧ (∀ j, j < k → mayHost (hs.getD j noHost) = true) ∧ Below w.heap.size w wr) (fun i _ => hs.length - (intOf i).toNat)
    case atStart => exact ⟨0, Nat.zero_le _, rfl, fun j h => by omega, Below.refl _ _⟩
    case round =>
      obtain ⟨k, hk, rfl, ht, hb⟩ := hrel
      have HT : Hid (∀ j, j < k → mayHost (hs.getD j noHost) = true) := ht
      have HB : Hid (Below w.heap.size w wr) := hb
      clear ht hb
      by_cases hlt : k < hs.length
      · have hx := HV.out.below HB.out
        obtain ⟨b, off, rfl, hbl, c0, c1, c2, c3, c4, c5⟩ := hx.at k hlt
        obtain ⟨to, tc, htv⟩ := (hx.tags k hlt).shaped
        have htg := hx.tags k hlt
        rw [htv] at c5 htg
        have hok := hx.ok k hlt
        have HN : Hid (mayHost (hs.getD k noHost) = true → ∀ j, j < k + 1 → mayHost (hs.getD j noHost) = true) := fun h j hj => by
          rcases Nat.lt_or_ge j k with h1 | h1
          · exact HT.out j h1
          · obtain rfl : j = k := by omega
            exact h
        have HX : Hid (mayHost (hs.getD k noHost) = false → mayTab hs = false) := may_bad hlt
        generalize hs.getD k noHost = x at c0 c1 c2 c3 c4 c5 htg hok HN HX htv
        have HTg : Hid (IsPairs wr (.slice to x.tags.length tc) x.tags) := htg
        have KM := fun W q => may_any x (.slice to x.tags.length tc) W hok q
        clear hx htv htg
        cases hm : mayHost x with
        | false =>
          have HF : Hid (mayTab hs = false) := HX.out hm
          rw [hm] at KM
          clear hm HN HX
          go_wp2_with (first | (refine wpList_load_box rfl 25 (.tmp 4) rfl wr.heap.size rfl 25 _ _ (hasBox_new wr _ _) Try.underlying25 rfl sizeHost ?_) | fail)
          refine (KM _ (HTg.out.below ((Below.refl _ _).alloc (Nat.le_refl _) _))).mono ?_
          rintro e w3 ⟨rfl, hb⟩
          have HB3 : Hid (Below w.heap.size w w3) := HB.out.trans ((((Below.refl _ _).alloc (Nat.le_refl _) _).trans (hb.mono (by simp))).mono HB.out.size)
          clear hb
          go_wp2
          go_ret
          exact ⟨by rw [HF.out]; rfl, HB3.out⟩
        | true =>
          have HF : Hid (∀ j, j < k + 1 → mayHost (hs.getD j noHost) = true) := HN.out hm
          rw [hm] at KM
          clear hm HN HX
          go_wp2_with (first | (refine wpList_load_box rfl 25 (.tmp 4) rfl wr.heap.size rfl 25 _ _ (hasBox_new wr _ _) Try.underlying25 rfl sizeHost ?_) | fail)
          refine (KM _ (HTg.out.below ((Below.refl _ _).alloc (Nat.le_refl _) _))).mono ?_
          rintro e w3 ⟨rfl, hb⟩
          have HB3 : Hid (Below w.heap.size w w3) := HB.out.trans ((((Below.refl _ _).alloc (Nat.le_refl _) _).trans (hb.mono (by simp))).mono HB.out.size)
          clear hb
          go_wp2
          go_roundw
          case rel => exact ⟨k + 1, by omega, by go_num, HF.out, HB3.out⟩
          case measure => simp [intOf]; omega
      · have hall : ∀ i, i < hs.length → mayHost (hs.getD i noHost) = true := fun i hi => HT.out i (by omega)
        have HM : Hid (mayTab hs = risingV (keysH hs)) := may_rises (by omega) hall
        have KK := fun W q => keys_any hs (.slice ao hs.length cap) vs W q (fun i hi => may_key (hall i hi)) (by omega)
        have hkl : (keysH hs).length ≤ 1000000 := by simp [keysH]; omega
        clear hall
        go_wp2_with fail
        refine (KK _ (HV.out.below HB.out)).mono ?_
        rintro e w3 ⟨kv, rfl, hk3, hb⟩
        have HB3 : Hid (Below w.heap.size w w3) := HB.out.trans (hb.mono HB.out.size)
        have KR := rising_any (keysH hs) kv w3 hk3 hkl
        clear hb hk3 KK
        go_wp2_with fail
        refine KR.mono ?_
        rintro e w4 ⟨rfl, hb⟩
        have HB4 : Hid (Below w.heap.size w w4) := HB3.out.trans (hb.mono HB3.out.size)
        clear hb KR
        go_wp2
        go_ret
        exact ⟨by rw [HM.out]; rfl, HB4.out⟩

end Go.Proofs.Ytcafjjfaamjipaa

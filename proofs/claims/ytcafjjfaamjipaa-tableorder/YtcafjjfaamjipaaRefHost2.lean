/-
  The reference's answers to chapter 7: Has, MayHost.
-/
import Derived.Test.YtcafjjfaamjipaaRefHost
namespace Go.Proofs.Ytcafjjfaamjipaa
open Go.RowKit

theorem mayH_no (h : HostT) (hn : h.id < 1 ∨ 1000000 < h.id ∨ nameOK h.addr = false ∨ ((h.zone.toList == []) = false ∧ nameOK h.zone = false) ∨ h.prio < 0 ∨ 3 < h.prio ∨ h.weight < 1 ∨ 20 < h.weight ∨ mayPairs h.tags = false ∨ risesP h.tags = false) : mayHost h = false := by
  cases hm : mayHost h with
  | false => rfl
  | true =>
    unfold mayHost at hm
    simp only [Bool.and_eq_true, Bool.or_eq_true, decide_eq_true_eq] at hm
    obtain ⟨⟨⟨⟨⟨⟨⟨h1, h2⟩, h3⟩, h4, h5⟩, h6⟩, h7, h8⟩, h9⟩, h10⟩ := hm
    rcases hn with h | h | h | ⟨h, h'⟩ | h | h | h | h | h | h
    · omega
    · omega
    · rw [h3] at h; cases h
    · rw [h, h'] at h6; simp at h6
    · omega
    · omega
    · omega
    · omega
    · rw [h9] at h; cases h
    · rw [h10] at h; cases h
theorem mayH_yes (h : HostT) (h1 : ¬ h.id < 1) (h2 : ¬ 1000000 < h.id) (h3 : nameOK h.addr = true) (h4 : (h.zone.toList == []) = true ∨ nameOK h.zone = true) (h5 : ¬ h.prio < 0) (h6 : ¬ 3 < h.prio) (h7 : ¬ h.weight < 1) (h8 : ¬ 20 < h.weight) (h9 : mayPairs h.tags = true) (h10 : risesP h.tags = true) : mayHost h = true := by
  unfold mayHost
  simp only [Bool.and_eq_true, Bool.or_eq_true, decide_eq_true_eq]
  exact ⟨⟨⟨⟨⟨⟨⟨by omega, by omega⟩, h3⟩, by omega, by omega⟩, h4⟩, by omega, by omega⟩, h9⟩, h10⟩

set_option maxRecDepth 100000 in
set_option maxHeartbeats 4000000 in
theorem rMayHost_any (h : HostT) (mv : Value) (w : World) (ho : okHost h) (hm : IsPairs w mv h.tags) :
    Calls Try.prog 24 #[hval h mv] w fun e w' => e = .returned (.bool (mayHost h)) ∧ Below w.heap.size w w' := by
  obtain ⟨mo, mc, rfl⟩ := hm.shaped
  have hlen := hm.len
  have HM : Hid (IsPairs w (.slice mo h.tags.length mc) h.tags) := hm
  have HO : Hid (okHost h) := ho
  clear hm ho
  have K1 := fun w => rWord_any h.addr w HO.out.1
  have K3 := fun w => rWord_any h.zone w HO.out.2
  have K5 := fun w (H : IsPairs w (.slice mo h.tags.length mc) h.tags) => rMaySubset_any h.tags _ w H
  by_cases i1 : h.id < 1
  · have HF : Hid (mayHost h = false) := mayH_no h (.inl i1)
    go_enter Try.func24, Try.ntmps24
    go_wp2
    go_ret
    exact ⟨by rw [HF.out]; rfl, (Below.refl _ _).alloc (Nat.le_refl _) _⟩
  by_cases i2 : 1000000 < h.id
  · have HF : Hid (mayHost h = false) := mayH_no h (.inr (.inl i2))
    go_enter Try.func24, Try.ntmps24
    go_wp2
    go_ret
    exact ⟨by rw [HF.out]; rfl, (Below.refl _ _).alloc (Nat.le_refl _) _⟩
  go_enter Try.func24, Try.ntmps24
  go_wp2_with fail
  refine (K1 _).mono ?_
  rintro e w1 ⟨rfl, hw⟩; subst w1
  cases b1 : nameOK h.addr with
  | false =>
    have HF : Hid (mayHost h = false) := mayH_no h (.inr (.inr (.inl b1)))
    go_wp2
    go_ret
    exact ⟨by rw [HF.out]; rfl, (Below.refl _ _).alloc (Nat.le_refl _) _⟩
  | true =>
  clear K1
  cases bz : (h.zone.toList == ([] : List UInt8)) with
  | false =>
    go_wp2_with fail
    refine (K3 _).mono ?_
    rintro e w1 ⟨rfl, hw⟩; subst w1
    cases b3 : nameOK h.zone with
    | false =>
      have HF : Hid (mayHost h = false) := mayH_no h (.inr (.inr (.inr (.inl ⟨bz, b3⟩))))
      go_wp2
      go_ret
      exact ⟨by rw [HF.out]; rfl, (Below.refl _ _).alloc (Nat.le_refl _) _⟩
    | true =>
      have hzz : Hid ((h.zone.toList == ([] : List UInt8)) = true ∨ nameOK h.zone = true) := .inr b3
      clear b3 bz K3
      by_cases i3 : h.prio < 0
      · have HF : Hid (mayHost h = false) := mayH_no h (.inr (.inr (.inr (.inr (.inl i3)))))
        go_wp2
        go_ret
        exact ⟨by rw [HF.out]; rfl, (Below.refl _ _).alloc (Nat.le_refl _) _⟩
      by_cases i4 : 3 < h.prio
      · have HF : Hid (mayHost h = false) := mayH_no h (.inr (.inr (.inr (.inr (.inr (.inl i4))))))
        go_wp2
        go_ret
        exact ⟨by rw [HF.out]; rfl, (Below.refl _ _).alloc (Nat.le_refl _) _⟩
      by_cases i5 : h.weight < 1
      · have HF : Hid (mayHost h = false) := mayH_no h (.inr (.inr (.inr (.inr (.inr (.inr (.inl i5)))))))
        go_wp2
        go_ret
        exact ⟨by rw [HF.out]; rfl, (Below.refl _ _).alloc (Nat.le_refl _) _⟩
      by_cases i6 : 20 < h.weight
      · have HF : Hid (mayHost h = false) := mayH_no h (.inr (.inr (.inr (.inr (.inr (.inr (.inr (.inl i6))))))))
        go_wp2
        go_ret
        exact ⟨by rw [HF.out]; rfl, (Below.refl _ _).alloc (Nat.le_refl _) _⟩
      have d3 : decide (h.prio < 0) = false := decide_eq_false (by omega)
      have d4 : decide (3 < h.prio) = false := decide_eq_false (by omega)
      have d5 : decide (h.weight < 1) = false := decide_eq_false (by omega)
      have d6 : decide (20 < h.weight) = false := decide_eq_false (by omega)
      go_wp2_with fail
      refine (K5 _ (HM.out.below ((Below.refl _ _).alloc (Nat.le_refl _) _))).mono ?_
      rintro e w1 ⟨rfl, hb⟩
      have HX1 : Hid (HasBox w1 w.heap.size 25 (hcells h (.slice mo h.tags.length mc))) := (hasBox_new w _ _).below hb
      have HB : Hid (Below w.heap.size w w1) := ((Below.refl _ _).alloc (Nat.le_refl _) _).trans (hb.mono (by simp))
      clear hb
      cases b5 : mayPairs h.tags with
      | false =>
        have HF : Hid (mayHost h = false) := mayH_no h (.inr (.inr (.inr (.inr (.inr (.inr (.inr (.inr (.inl b5)))))))))
        go_wp2
        go_ret
        exact ⟨by rw [HF.out]; rfl, HB.out⟩
      | true =>
        have HF : Hid (risesP h.tags = true → mayHost h = true) := mayH_yes h (by omega) (by omega) b1 hzz.out (by omega) (by omega) (by omega) (by omega) b5
        have HG : Hid (risesP h.tags = false → mayHost h = false) := fun hr => mayH_no h (.inr (.inr (.inr (.inr (.inr (.inr (.inr (.inr (.inr hr)))))))))
        clear b1 b5 K5 hzz
        go_wp2
        go_loopw [3] (fun i wr => ∃ m k : Nat, m = k + 1 ∧ k ≤ h.tags.length ∧ i = .int .i64 (m : Nat) ∧ (∀ j, j + 1 < m → j + 1 < h.tags.length → ltS (h.tags.getD j noP).1 (h.tags.getD (j + 1) noP).1 = true) ∧ Below w1.heap.size w1 wr) (fun i _ => h.tags.length + 1 - (intOf i).toNat)
        case atStart => exact ⟨1, 0, rfl, Nat.zero_le _, rfl, fun j h => by omega, Below.refl _ _⟩
        case round =>
          obtain ⟨m, k, hm, hk, rfl, ht, hb⟩ := hrel
          have HT : Hid (∀ j, j + 1 < m → j + 1 < h.tags.length → ltS (h.tags.getD j noP).1 (h.tags.getD (j + 1) noP).1 = true) := ht
          have HXr : HasBox wr w.heap.size 25 (hcells h (.slice mo h.tags.length mc)) := HX1.out.below hb
          have HBr : Hid (Below w.heap.size w wr) := HB.out.trans (hb.mono HB.out.size)
          have HB1 : Hid (Below w1.heap.size w1 wr) := hb
          have c5 : wr.cell? ⟨w.heap.size, 5, none⟩ = some (.slice mo h.tags.length mc) := HXr.cell 5
          have hz : w.heap.size < wr.heap.size := HXr.lt
          clear ht hb HXr
          by_cases hlt : m < h.tags.length
          · obtain ⟨b, off, rfl, hbl, g1, g2⟩ := (HM.out.below HBr.out).at k (by omega)
            obtain ⟨b', off', e, _, g3, g4⟩ := (HM.out.below HBr.out).at m hlt
            simp only [Option.some.injEq, Addr.mk.injEq, and_true] at e
            obtain ⟨rfl, rfl⟩ := e
            have HFa : Hid (ltS (h.tags.getD k noP).1 (h.tags.getD m noP).1 = false → risesP h.tags = false) := by subst hm; exact risesP_false hlt
            have HN : Hid (ltS (h.tags.getD k noP).1 (h.tags.getD m noP).1 = true → ∀ j, j + 1 < m + 1 → j + 1 < h.tags.length → ltS (h.tags.getD j noP).1 (h.tags.getD (j + 1) noP).1 = true) := fun h j h1 h2 => by
              rcases Nat.lt_or_ge j k with h3 | h3
              · exact HT.out j (by omega) h2
              · obtain rfl : j = k := by omega
                rw [← hm]; exact h
            generalize (h.tags.getD k noP).1 = x at g1 HFa HN
            generalize (h.tags.getD m noP).1 = y at g3 HFa HN
            clear g2 g4
            have hk0 : k < h.tags.length := by omega
            have e1 : (m : Int) - 1 = k := by omega
            have e2 : IntKind.i64.wrap (k : Int) = (k : Int) := by rw [IntKind.wrap_i64]; omega
            have HMk : Hid (m = k + 1) := hm
            clear hm
            have hgq := leq_str 9 y x
            rw [← bytesLess_tri] at hgq
            cases hc : Op.bytesLess x.toList y.toList with
            | true =>
              rw [hc] at hgq
              have HR : Hid (∀ j, j + 1 < m + 1 → j + 1 < h.tags.length → ltS (h.tags.getD j noP).1 (h.tags.getD (j + 1) noP).1 = true) := HN.out hc
              clear HFa HN
              go_wp2
              go_quiet (fail)
              go_wp2
              go_roundw
              case rel => exact ⟨m + 1, k + 1, by have := HMk.out; omega, by omega, by go_num, HR.out, below_drewN HB1.out _⟩
              case measure => simp [intOf]; omega
            | false =>
              rw [hc] at hgq
              have HR : Hid (mayHost h = false) := HG.out (HFa.out hc)
              clear HFa HN
              go_wp2
              go_quiet (fail)
              go_wp2
              go_ret
              exact ⟨by rw [HR.out]; rfl, below_drewN HBr.out _⟩
          · have HR : Hid (mayHost h = true) := HF.out (risesP_true HT.out (by omega))
            go_wp2
            go_ret
            exact ⟨by rw [HR.out]; rfl, HBr.out⟩
  | true =>
    have hzz : Hid ((h.zone.toList == ([] : List UInt8)) = true ∨ nameOK h.zone = true) := .inl bz
    clear K3
    by_cases i3 : h.prio < 0
    · have HF : Hid (mayHost h = false) := mayH_no h (.inr (.inr (.inr (.inr (.inl i3)))))
      go_wp2
      go_ret
      exact ⟨by rw [HF.out]; rfl, (Below.refl _ _).alloc (Nat.le_refl _) _⟩
    by_cases i4 : 3 < h.prio
    · have HF : Hid (mayHost h = false) := mayH_no h (.inr (.inr (.inr (.inr (.inr (.inl i4))))))
      go_wp2
      go_ret
      exact ⟨by rw [HF.out]; rfl, (Below.refl _ _).alloc (Nat.le_refl _) _⟩
    by_cases i5 : h.weight < 1
    · have HF : Hid (mayHost h = false) := mayH_no h (.inr (.inr (.inr (.inr (.inr (.inr (.inl i5)))))))
      go_wp2
      go_ret
      exact ⟨by rw [HF.out]; rfl, (Below.refl _ _).alloc (Nat.le_refl _) _⟩
    by_cases i6 : 20 < h.weight
    · have HF : Hid (mayHost h = false) := mayH_no h (.inr (.inr (.inr (.inr (.inr (.inr (.inr (.inl i6))))))))
      go_wp2
      go_ret
      exact ⟨by rw [HF.out]; rfl, (Below.refl _ _).alloc (Nat.le_refl _) _⟩
    have d3 : decide (h.prio < 0) = false := decide_eq_false (by omega)
    have d4 : decide (3 < h.prio) = false := decide_eq_false (by omega)
    have d5 : decide (h.weight < 1) = false := decide_eq_false (by omega)
    have d6 : decide (20 < h.weight) = false := decide_eq_false (by omega)
    go_wp2_with fail
    refine (K5 _ (HM.out.below ((Below.refl _ _).alloc (Nat.le_refl _) _))).mono ?_
    rintro e w1 ⟨rfl, hb⟩
    have HX1 : Hid (HasBox w1 w.heap.size 25 (hcells h (.slice mo h.tags.length mc))) := (hasBox_new w _ _).below hb
    have HB : Hid (Below w.heap.size w w1) := ((Below.refl _ _).alloc (Nat.le_refl _) _).trans (hb.mono (by simp))
    clear hb
    cases b5 : mayPairs h.tags with
    | false =>
      have HF : Hid (mayHost h = false) := mayH_no h (.inr (.inr (.inr (.inr (.inr (.inr (.inr (.inr (.inl b5)))))))))
      go_wp2
      go_ret
      exact ⟨by rw [HF.out]; rfl, HB.out⟩
    | true =>
      have HF : Hid (risesP h.tags = true → mayHost h = true) := mayH_yes h (by omega) (by omega) b1 hzz.out (by omega) (by omega) (by omega) (by omega) b5
      have HG : Hid (risesP h.tags = false → mayHost h = false) := fun hr => mayH_no h (.inr (.inr (.inr (.inr (.inr (.inr (.inr (.inr (.inr hr)))))))))
      clear b1 b5 K5 hzz
      go_wp2
      go_loopw [3] (fun i wr => ∃ m k : Nat, m = k + 1 ∧ k ≤ h.tags.length ∧ i = .int .i64 (m : Nat) ∧ (∀ j, j + 1 < m → j + 1 < h.tags.length → ltS (h.tags.getD j noP).1 (h.tags.getD (j + 1) noP).1 = true) ∧ Below w1.heap.size w1 wr) (fun i _ => h.tags.length + 1 - (intOf i).toNat)
      case atStart => exact ⟨1, 0, rfl, Nat.zero_le _, rfl, fun j h => by omega, Below.refl _ _⟩
      case round =>
        obtain ⟨m, k, hm, hk, rfl, ht, hb⟩ := hrel
        have HT : Hid (∀ j, j + 1 < m → j + 1 < h.tags.length → ltS (h.tags.getD j noP).1 (h.tags.getD (j + 1) noP).1 = true) := ht
        have HXr : HasBox wr w.heap.size 25 (hcells h (.slice mo h.tags.length mc)) := HX1.out.below hb
        have HBr : Hid (Below w.heap.size w wr) := HB.out.trans (hb.mono HB.out.size)
        have HB1 : Hid (Below w1.heap.size w1 wr) := hb
        have c5 : wr.cell? ⟨w.heap.size, 5, none⟩ = some (.slice mo h.tags.length mc) := HXr.cell 5
        have hz : w.heap.size < wr.heap.size := HXr.lt
        clear ht hb HXr
        by_cases hlt : m < h.tags.length
        · obtain ⟨b, off, rfl, hbl, g1, g2⟩ := (HM.out.below HBr.out).at k (by omega)
          obtain ⟨b', off', e, _, g3, g4⟩ := (HM.out.below HBr.out).at m hlt
          simp only [Option.some.injEq, Addr.mk.injEq, and_true] at e
          obtain ⟨rfl, rfl⟩ := e
          have HFa : Hid (ltS (h.tags.getD k noP).1 (h.tags.getD m noP).1 = false → risesP h.tags = false) := by subst hm; exact risesP_false hlt
          have HN : Hid (ltS (h.tags.getD k noP).1 (h.tags.getD m noP).1 = true → ∀ j, j + 1 < m + 1 → j + 1 < h.tags.length → ltS (h.tags.getD j noP).1 (h.tags.getD (j + 1) noP).1 = true) := fun h j h1 h2 => by
            rcases Nat.lt_or_ge j k with h3 | h3
            · exact HT.out j (by omega) h2
            · obtain rfl : j = k := by omega
              rw [← hm]; exact h
          generalize (h.tags.getD k noP).1 = x at g1 HFa HN
          generalize (h.tags.getD m noP).1 = y at g3 HFa HN
          clear g2 g4
          have hk0 : k < h.tags.length := by omega
          have e1 : (m : Int) - 1 = k := by omega
          have e2 : IntKind.i64.wrap (k : Int) = (k : Int) := by rw [IntKind.wrap_i64]; omega
          have HMk : Hid (m = k + 1) := hm
          clear hm
          have hgq := leq_str 9 y x
          rw [← bytesLess_tri] at hgq
          cases hc : Op.bytesLess x.toList y.toList with
          | true =>
            rw [hc] at hgq
            have HR : Hid (∀ j, j + 1 < m + 1 → j + 1 < h.tags.length → ltS (h.tags.getD j noP).1 (h.tags.getD (j + 1) noP).1 = true) := HN.out hc
            clear HFa HN
            go_wp2
            go_quiet (fail)
            go_wp2
            go_roundw
            case rel => exact ⟨m + 1, k + 1, by have := HMk.out; omega, by omega, by go_num, HR.out, below_drewN HB1.out _⟩
            case measure => simp [intOf]; omega
          | false =>
            rw [hc] at hgq
            have HR : Hid (mayHost h = false) := HG.out (HFa.out hc)
            clear HFa HN
            go_wp2
            go_quiet (fail)
            go_wp2
            go_ret
            exact ⟨by rw [HR.out]; rfl, below_drewN HBr.out _⟩
        · have HR : Hid (mayHost h = true) := HF.out (risesP_true HT.out (by omega))
          go_wp2
          go_ret
          exact ⟨by rw [HR.out]; rfl, HBr.out⟩

end Go.Proofs.Ytcafjjfaamjipaa

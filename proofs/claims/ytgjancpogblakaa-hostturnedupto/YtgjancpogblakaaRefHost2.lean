/-
  The reference's answers to chapter 7: Has, MayHost.
-/
import Derived.Test.YtgjancpogblakaaRefHost
namespace Go.Proofs.Ytgjancpogblakaa
open Go.RowKit

def inP (p : PairT) (l : List PairT) : Bool := l.any fun q => decide (p = q)
theorem inP_mem {p : PairT} {l : List PairT} : inP p l = true ↔ p ∈ l := by
  unfold inP
  rw [List.any_eq_true]
  constructor
  · rintro ⟨q, hq, e⟩; rw [of_decide_eq_true e]; exact hq
  · intro h; exact ⟨p, h, decide_eq_true rfl⟩
theorem inP_take {p : PairT} {l : List PairT} {k : Nat} (h : k < l.length) : inP p (l.take (k + 1)) = (inP p (l.take k) || decide (p = l.getD k noP)) := by
  rw [List.take_succ_eq_append_getElem h]
  unfold inP
  rw [List.any_append, List.getD_eq_getElem?_getD, List.getElem?_eq_getElem h]
  simp

set_option maxRecDepth 100000 in
set_option maxHeartbeats 2000000 in
theorem rHas_any (h : HostT) (sub : List PairT) (mv v : Value) (w : World) (hm : IsPairs w mv h.tags) (hv : IsPairs w v sub) :
    Calls Try.prog 15 #[hval h mv, v] w fun e w' => e = .returned (.bool (hasPairs h.tags sub)) ∧ Below w.heap.size w w' := by
  obtain ⟨ao, cap, rfl⟩ := hv.shaped
  obtain ⟨mo, mc, rfl⟩ := hm.shaped
  have hlen := hv.len
  have hmen := hm.len
  have HV : Hid (IsPairs w (.slice ao sub.length cap) sub) := hv
  have HM : Hid (IsPairs w (.slice mo h.tags.length mc) h.tags) := hm
  clear hv hm
  go_enter Try.func15, Try.ntmps15
  go_wp2
  generalize hW0 : World.alloc w _ = W0
  have HB0 : Hid (Below w.heap.size w W0) := by rw [← hW0]; exact (Below.refl _ _).alloc (Nat.le_refl _) _
  have HX0 : Hid (HasBox W0 w.heap.size 24 (hcells h (.slice mo h.tags.length mc))) := by rw [← hW0]; exact hasBox_new w _ _
  clear hW0
  go_loopw [12] (fun i wr => ∃ k : Nat, k ≤ sub.length ∧ i = .int .i64 k ∧ (∀ p ∈ sub.take k, p ∈ h.tags) ∧ Below W0.heap.size W0 wr) (fun i _ => sub.length - (intOf i).toNat)
  case atStart => exact ⟨0, Nat.zero_le _, rfl, by simp, Below.refl _ _⟩
  case round =>
    rename World => wo
    obtain ⟨k, hk, rfl, ht, hb⟩ := hrel
    have HT : Hid (∀ p ∈ sub.take k, p ∈ h.tags) := ht
    have HB : Hid (Below W0.heap.size W0 wo) := hb
    have HBB : Hid (Below w.heap.size w wo) := HB0.out.trans (hb.mono HB0.out.size)
    clear ht hb
    by_cases hlt : k < sub.length
    · obtain ⟨b1, o1, rfl, hbl1, g1, g2⟩ := (HV.out.below HBB.out).at k hlt
      have HXr : HasBox wo w.heap.size 24 (hcells h (.slice mo h.tags.length mc)) := HX0.out.below HB.out
      have c5 : wo.cell? ⟨w.heap.size, 5, none⟩ = some (.slice mo h.tags.length mc) := HXr.cell 5
      have hz : w.heap.size < wo.heap.size := HXr.lt
      clear HXr
      have HN : Hid (sub.getD k noP ∈ h.tags → ∀ p ∈ sub.take (k + 1), p ∈ h.tags) := fun h => mem_take_succ noP hlt HT.out h
      have HX : Hid (sub.getD k noP ∉ h.tags → hasPairs h.tags sub = false) := hasPairs_bad hlt
      generalize sub.getD k noP = pq at g1 g2 HN HX
      obtain ⟨x, y⟩ := pq
      simp only at g1 g2
      go_wp2
      generalize hW1 : World.alloc wo _ = W1
      have HB1 : Hid (Below wo.heap.size wo W1) := by rw [← hW1]; exact (Below.refl _ _).alloc (Nat.le_refl _) _
      have HX1 : Hid (HasBox W1 wo.heap.size 34 #[.string x, .string y]) := by rw [← hW1]; exact hasBox_new wo _ _
      have HG1 : Hid (Below w.heap.size w W1) := HBB.out.trans (HB1.out.mono HBB.out.size)
      clear hW1 c5 g1 g2
      go_loopw [7, 19] (fun c i wq => ∃ j : Nat, j ≤ h.tags.length ∧ i = .int .i64 j ∧ c = .bool (inP (x, y) (h.tags.take j)) ∧ Below W1.heap.size W1 wq) (fun _ i _ => h.tags.length - (intOf i).toNat)
      case atStart => exact ⟨0, Nat.zero_le _, rfl, by simp [inP], Below.refl _ _⟩
      case round =>
        obtain ⟨j, hj, rfl, rfl, hb⟩ := hrel
        have HBq : Hid (Below W1.heap.size W1 wr) := hb
        have HGq : Hid (Below w.heap.size w wr) := HG1.out.trans (hb.mono HG1.out.size)
        clear hb
        by_cases hjt : j < h.tags.length
        · obtain ⟨b2, o2, rfl, hbl2, g3, g4⟩ := (HM.out.below HGq.out).at j hjt
          have HXq : HasBox wr wo.heap.size 34 #[.string x, .string y] := HX1.out.below HBq.out
          have p0 : wr.cell? ⟨wo.heap.size, 0, none⟩ = some (.string x) := HXq.cell 0
          have p1 : wr.cell? ⟨wo.heap.size, 1, none⟩ = some (.string y) := HXq.cell 1
          have hzq : wo.heap.size < wr.heap.size := HXq.lt
          clear HXq
          have HI : Hid (inP (x, y) (h.tags.take (j + 1)) = (inP (x, y) (h.tags.take j) || decide ((x, y) = h.tags.getD j noP))) := inP_take hjt
          generalize h.tags.getD j noP = pr at g3 g4 HI
          obtain ⟨z, t⟩ := pr
          simp only at g3 g4
          cases hin : inP (x, y) (h.tags.take j) with
          | true =>
            have HR : Hid (inP (x, y) (h.tags.take (j + 1)) = true) := by
              have := HI.out; rw [hin, Bool.true_or] at this; exact this
            clear hin HI
            go_wp2
            go_roundw
            case rel => exact ⟨j + 1, by omega, by go_num, by rw [HR.out], HBq.out.trans (((Below.refl _ _).alloc (Nat.le_refl _) _).mono HBq.out.size)⟩
            case measure => simp [intOf]; omega
          | false =>
            rcases pair_cases x y z t with ⟨a1, a2, a3⟩ | ⟨a1, a2⟩ | ⟨a1, a2, a3⟩
            · have HR : Hid (inP (x, y) (h.tags.take (j + 1)) = true) := by
                have := HI.out; rw [hin, Bool.false_or, decide_eq_true a1] at this; exact this
              clear hin HI a1
              go_wp2
              go_roundw
              case rel => exact ⟨j + 1, by omega, by go_num, by rw [HR.out], HBq.out.trans (((Below.refl _ _).alloc (Nat.le_refl _) _).mono HBq.out.size)⟩
              case measure => simp [intOf]; omega
            all_goals
              have HR : Hid (inP (x, y) (h.tags.take (j + 1)) = false) := by
                have := HI.out; rw [hin, Bool.false_or, decide_eq_false a1] at this; exact this
              clear hin HI a1
              go_wp2
              go_roundw
              case rel => exact ⟨j + 1, by omega, by go_num, by rw [HR.out], HBq.out.trans (((Below.refl _ _).alloc (Nat.le_refl _) _).mono HBq.out.size)⟩
              case measure => simp [intOf]; omega
        · have hall : h.tags.take j = h.tags := List.take_of_length_le (by omega)
          rw [hall]
          clear hall
          cases hin : inP (x, y) h.tags with
          | true =>
            have HR : Hid (∀ p ∈ sub.take (k + 1), p ∈ h.tags) := HN.out (inP_mem.1 hin)
            clear hin HN HX
            go_wp2
            go_roundw
            case rel => exact ⟨k + 1, by omega, by go_num, HR.out, HB.out.trans ((HB1.out.trans (HBq.out.mono HB1.out.size)).mono HB.out.size)⟩
            case measure => simp [intOf]; omega
          | false =>
            have HR : Hid (hasPairs h.tags sub = false) := HX.out fun hm => by rw [inP_mem.2 hm] at hin; cases hin
            clear hin HN HX
            go_wp2
            go_ret
            exact ⟨by rw [HR.out]; rfl, HGq.out⟩
    · have hall := HT.out
      rw [List.take_of_length_le (by omega)] at hall
      have HR : Hid (hasPairs h.tags sub = true) := hasPairs_end hall
      clear hall
      go_wp2
      go_ret
      exact ⟨by rw [HR.out]; rfl, HBB.out⟩

theorem mayH_no (h : HostT) (hn : h.id < 1 ∨ 1000000 < h.id ∨ nameOK h.addr = false ∨ ((h.zone.toList == []) = false ∧ nameOK h.zone = false) ∨ h.prio < 0 ∨ 3 < h.prio ∨ h.weight < 1 ∨ 20 < h.weight ∨ mayPairs h.tags = false ∨ risesP h.tags = false) : mayHost h = false := by
  cases hm : mayHost h with
  | false => rfl
  | true =>
    unfold mayHost at hm
    simp only [Bool.and_eq_true, Bool.or_eq_true, decide_eq_true_eq] at hm
    obtain ⟨⟨⟨⟨⟨⟨⟨h1, h2⟩, h3⟩, h4, h5⟩, h6⟩, h7, h8⟩, h9⟩, h10⟩ := hm
    rcases hn with h | h | h | ⟨h, h'⟩ | h | h | h | h | h | h
    · omega
    · omega
    · rw [h3] at h; cases h
    · rw [h, h'] at h6; simp at h6
    · omega
    · omega
    · omega
    · omega
    · rw [h9] at h; cases h
    · rw [h10] at h; cases h
theorem mayH_yes (h : HostT) (h1 : ¬ h.id < 1) (h2 : ¬ 1000000 < h.id) (h3 : nameOK h.addr = true) (h4 : (h.zone.toList == []) = true ∨ nameOK h.zone = true) (h5 : ¬ h.prio < 0) (h6 : ¬ 3 < h.prio) (h7 : ¬ h.weight < 1) (h8 : ¬ 20 < h.weight) (h9 : mayPairs h.tags = true) (h10 : risesP h.tags = true) : mayHost h = true := by
  unfold mayHost
  simp only [Bool.and_eq_true, Bool.or_eq_true, decide_eq_true_eq]
  exact ⟨⟨⟨⟨⟨⟨⟨by omega, by omega⟩, h3⟩, by omega, by omega⟩, h4⟩, by omega, by omega⟩, h9⟩, h10⟩

set_option maxRecDepth 100000 in
set_option maxHeartbeats 4000000 in
theorem rMayHost_any (h : HostT) (mv : Value) (w : World) (ho : okHost h) (hm : IsPairs w mv h.tags) :
    Calls Try.prog 11 #[hval h mv] w fun e w' => e = .returned (.bool (mayHost h)) ∧ Below w.heap.size w w' := by
  obtain ⟨mo, mc, rfl⟩ := hm.shaped
  have hlen := hm.len
  have HM : Hid (IsPairs w (.slice mo h.tags.length mc) h.tags) := hm
  have HO : Hid (okHost h) := ho
  clear hm ho
  have K1 := fun w => rWord_any h.addr w HO.out.1
  have K3 := fun w => rWord_any h.zone w HO.out.2
  have K5 := fun w (H : IsPairs w (.slice mo h.tags.length mc) h.tags) => rMaySubset_any h.tags _ w H
  by_cases i1 : h.id < 1
  · have HF : Hid (mayHost h = false) := mayH_no h (.inl i1)
    go_enter Try.func11, Try.ntmps11
    go_wp2
    go_ret
    exact ⟨by rw [HF.out]; rfl, (Below.refl _ _).alloc (Nat.le_refl _) _⟩
  by_cases i2 : 1000000 < h.id
  · have HF : Hid (mayHost h = false) := mayH_no h (.inr (.inl i2))
    go_enter Try.func11, Try.ntmps11
    go_wp2
    go_ret
    exact ⟨by rw [HF.out]; rfl, (Below.refl _ _).alloc (Nat.le_refl _) _⟩
  go_enter Try.func11, Try.ntmps11
  go_wp2_with fail
  refine (K1 _).mono ?_
  rintro e w1 ⟨rfl, hw⟩; subst w1
  cases b1 : nameOK h.addr with
  | false =>
    have HF : Hid (mayHost h = false) := mayH_no h (.inr (.inr (.inl b1)))
    go_wp2
    go_ret
    exact ⟨by rw [HF.out]; rfl, (Below.refl _ _).alloc (Nat.le_refl _) _⟩
  | true =>
  clear K1
  cases bz : (h.zone.toList == ([] : List UInt8)) with
  | false =>
    go_wp2_with fail
    refine (K3 _).mono ?_
    rintro e w1 ⟨rfl, hw⟩; subst w1
    cases b3 : nameOK h.zone with
    | false =>
      have HF : Hid (mayHost h = false) := mayH_no h (.inr (.inr (.inr (.inl ⟨bz, b3⟩))))
      go_wp2
      go_ret
      exact ⟨by rw [HF.out]; rfl, (Below.refl _ _).alloc (Nat.le_refl _) _⟩
    | true =>
      have hzz : Hid ((h.zone.toList == ([] : List UInt8)) = true ∨ nameOK h.zone = true) := .inr b3
      clear b3 bz K3
      by_cases i3 : h.prio < 0
      · have HF : Hid (mayHost h = false) := mayH_no h (.inr (.inr (.inr (.inr (.inl i3)))))
        go_wp2
        go_ret
        exact ⟨by rw [HF.out]; rfl, (Below.refl _ _).alloc (Nat.le_refl _) _⟩
      by_cases i4 : 3 < h.prio
      · have HF : Hid (mayHost h = false) := mayH_no h (.inr (.inr (.inr (.inr (.inr (.inl i4))))))
        go_wp2
        go_ret
        exact ⟨by rw [HF.out]; rfl, (Below.refl _ _).alloc (Nat.le_refl _) _⟩
      by_cases i5 : h.weight < 1
      · have HF : Hid (mayHost h = false) := mayH_no h (.inr (.inr (.inr (.inr (.inr (.inr (.inl i5)))))))
        go_wp2
        go_ret
        exact ⟨by rw [HF.out]; rfl, (Below.refl _ _).alloc (Nat.le_refl _) _⟩
      by_cases i6 : 20 < h.weight
      · have HF : Hid (mayHost h = false) := mayH_no h (.inr (.inr (.inr (.inr (.inr (.inr (.inr (.inl i6))))))))
        go_wp2
        go_ret
        exact ⟨by rw [HF.out]; rfl, (Below.refl _ _).alloc (Nat.le_refl _) _⟩
      have d3 : decide (h.prio < 0) = false := decide_eq_false (by omega)
      have d4 : decide (3 < h.prio) = false := decide_eq_false (by omega)
      have d5 : decide (h.weight < 1) = false := decide_eq_false (by omega)
      have d6 : decide (20 < h.weight) = false := decide_eq_false (by omega)
      go_wp2_with fail
      refine (K5 _ (HM.out.below ((Below.refl _ _).alloc (Nat.le_refl _) _))).mono ?_
      rintro e w1 ⟨rfl, hb⟩
      have HX1 : Hid (HasBox w1 w.heap.size 24 (hcells h (.slice mo h.tags.length mc))) := (hasBox_new w _ _).below hb
      have HB : Hid (Below w.heap.size w w1) := ((Below.refl _ _).alloc (Nat.le_refl _) _).trans (hb.mono (by simp))
      clear hb
      cases b5 : mayPairs h.tags with
      | false =>
        have HF : Hid (mayHost h = false) := mayH_no h (.inr (.inr (.inr (.inr (.inr (.inr (.inr (.inr (.inl b5)))))))))
        go_wp2
        go_ret
        exact ⟨by rw [HF.out]; rfl, HB.out⟩
      | true =>
        have HF : Hid (risesP h.tags = true → mayHost h = true) := mayH_yes h (by omega) (by omega) b1 hzz.out (by omega) (by omega) (by omega) (by omega) b5
        have HG : Hid (risesP h.tags = false → mayHost h = false) := fun hr => mayH_no h (.inr (.inr (.inr (.inr (.inr (.inr (.inr (.inr (.inr hr)))))))))
        clear b1 b5 K5 hzz
        go_wp2
        go_loopw [3] (fun i wr => ∃ m k : Nat, m = k + 1 ∧ k ≤ h.tags.length ∧ i = .int .i64 (m : Nat) ∧ (∀ j, j + 1 < m → j + 1 < h.tags.length → ltS (h.tags.getD j noP).1 (h.tags.getD (j + 1) noP).1 = true) ∧ Below w1.heap.size w1 wr) (fun i _ => h.tags.length + 1 - (intOf i).toNat)
        case atStart => exact ⟨1, 0, rfl, Nat.zero_le _, rfl, fun j h => by omega, Below.refl _ _⟩
        case round =>
          obtain ⟨m, k, hm, hk, rfl, ht, hb⟩ := hrel
          have HT : Hid (∀ j, j + 1 < m → j + 1 < h.tags.length → ltS (h.tags.getD j noP).1 (h.tags.getD (j + 1) noP).1 = true) := ht
          have HXr : HasBox wr w.heap.size 24 (hcells h (.slice mo h.tags.length mc)) := HX1.out.below hb
          have HBr : Hid (Below w.heap.size w wr) := HB.out.trans (hb.mono HB.out.size)
          have HB1 : Hid (Below w1.heap.size w1 wr) := hb
          have c5 : wr.cell? ⟨w.heap.size, 5, none⟩ = some (.slice mo h.tags.length mc) := HXr.cell 5
          have hz : w.heap.size < wr.heap.size := HXr.lt
          clear ht hb HXr
          by_cases hlt : m < h.tags.length
          · obtain ⟨b, off, rfl, hbl, g1, g2⟩ := (HM.out.below HBr.out).at k (by omega)
            obtain ⟨b', off', e, _, g3, g4⟩ := (HM.out.below HBr.out).at m hlt
            simp only [Option.some.injEq, Addr.mk.injEq, and_true] at e
            obtain ⟨rfl, rfl⟩ := e
            have HFa : Hid (ltS (h.tags.getD k noP).1 (h.tags.getD m noP).1 = false → risesP h.tags = false) := by subst hm; exact risesP_false hlt
            have HN : Hid (ltS (h.tags.getD k noP).1 (h.tags.getD m noP).1 = true → ∀ j, j + 1 < m + 1 → j + 1 < h.tags.length → ltS (h.tags.getD j noP).1 (h.tags.getD (j + 1) noP).1 = true) := fun h j h1 h2 => by
              rcases Nat.lt_or_ge j k with h3 | h3
              · exact HT.out j (by omega) h2
              · obtain rfl : j = k := by omega
                rw [← hm]; exact h
            generalize (h.tags.getD k noP).1 = x at g1 HFa HN
            generalize (h.tags.getD m noP).1 = y at g3 HFa HN
            clear g2 g4
            have hk0 : k < h.tags.length := by omega
            have e1 : (m : Int) - 1 = k := by omega
            have e2 : IntKind.i64.wrap (k : Int) = (k : Int) := by rw [IntKind.wrap_i64]; omega
            have HMk : Hid (m = k + 1) := hm
            clear hm
            have hgq := leq_str 9 y x
            rw [← bytesLess_tri] at hgq
            cases hc : Op.bytesLess x.toList y.toList with
            | true =>
              rw [hc] at hgq
              have HR : Hid (∀ j, j + 1 < m + 1 → j + 1 < h.tags.length → ltS (h.tags.getD j noP).1 (h.tags.getD (j + 1) noP).1 = true) := HN.out hc
              clear HFa HN
              go_wp2
              go_quiet (fail)
              go_wp2
              go_roundw
              case rel => exact ⟨m + 1, k + 1, by have := HMk.out; omega, by omega, by go_num, HR.out, below_drewN HB1.out _⟩
              case measure => simp [intOf]; omega
            | false =>
              rw [hc] at hgq
              have HR : Hid (mayHost h = false) := HG.out (HFa.out hc)
              clear HFa HN
              go_wp2
              go_quiet (fail)
              go_wp2
              go_ret
              exact ⟨by rw [HR.out]; rfl, below_drewN HBr.out _⟩
          · have HR : Hid (mayHost h = true) := HF.out (risesP_true HT.out (by omega))
            go_wp2
            go_ret
            exact ⟨by rw [HR.out]; rfl, HBr.out⟩
  | true =>
    have hzz : Hid ((h.zone.toList == ([] : List UInt8)) = true ∨ nameOK h.zone = true) := .inl bz
    clear K3
    by_cases i3 : h.prio < 0
    · have HF : Hid (mayHost h = false) := mayH_no h (.inr (.inr (.inr (.inr (.inl i3)))))
      go_wp2
      go_ret
      exact ⟨by rw [HF.out]; rfl, (Below.refl _ _).alloc (Nat.le_refl _) _⟩
    by_cases i4 : 3 < h.prio
    · have HF : Hid (mayHost h = false) := mayH_no h (.inr (.inr (.inr (.inr (.inr (.inl i4))))))
      go_wp2
      go_ret
      exact ⟨by rw [HF.out]; rfl, (Below.refl _ _).alloc (Nat.le_refl _) _⟩
    by_cases i5 : h.weight < 1
    · have HF : Hid (mayHost h = false) := mayH_no h (.inr (.inr (.inr (.inr (.inr (.inr (.inl i5)))))))
      go_wp2
      go_ret
      exact ⟨by rw [HF.out]; rfl, (Below.refl _ _).alloc (Nat.le_refl _) _⟩
    by_cases i6 : 20 < h.weight
    · have HF : Hid (mayHost h = false) := mayH_no h (.inr (.inr (.inr (.inr (.inr (.inr (.inr (.inl i6))))))))
      go_wp2
      go_ret
      exact ⟨by rw [HF.out]; rfl, (Below.refl _ _).alloc (Nat.le_refl _) _⟩
    have d3 : decide (h.prio < 0) = false := decide_eq_false (by omega)
    have d4 : decide (3 < h.prio) = false := decide_eq_false (by omega)
    have d5 : decide (h.weight < 1) = false := decide_eq_false (by omega)
    have d6 : decide (20 < h.weight) = false := decide_eq_false (by omega)
    go_wp2_with fail
    refine (K5 _ (HM.out.below ((Below.refl _ _).alloc (Nat.le_refl _) _))).mono ?_
    rintro e w1 ⟨rfl, hb⟩
    have HX1 : Hid (HasBox w1 w.heap.size 24 (hcells h (.slice mo h.tags.length mc))) := (hasBox_new w _ _).below hb
    have HB : Hid (Below w.heap.size w w1) := ((Below.refl _ _).alloc (Nat.le_refl _) _).trans (hb.mono (by simp))
    clear hb
    cases b5 : mayPairs h.tags with
    | false =>
      have HF : Hid (mayHost h = false) := mayH_no h (.inr (.inr (.inr (.inr (.inr (.inr (.inr (.inr (.inl b5)))))))))
      go_wp2
      go_ret
      exact ⟨by rw [HF.out]; rfl, HB.out⟩
    | true =>
      have HF : Hid (risesP h.tags = true → mayHost h = true) := mayH_yes h (by omega) (by omega) b1 hzz.out (by omega) (by omega) (by omega) (by omega) b5
      have HG : Hid (risesP h.tags = false → mayHost h = false) := fun hr => mayH_no h (.inr (.inr (.inr (.inr (.inr (.inr (.inr (.inr (.inr hr)))))))))
      clear b1 b5 K5 hzz
      go_wp2
      go_loopw [3] (fun i wr => ∃ m k : Nat, m = k + 1 ∧ k ≤ h.tags.length ∧ i = .int .i64 (m : Nat) ∧ (∀ j, j + 1 < m → j + 1 < h.tags.length → ltS (h.tags.getD j noP).1 (h.tags.getD (j + 1) noP).1 = true) ∧ Below w1.heap.size w1 wr) (fun i _ => h.tags.length + 1 - (intOf i).toNat)
      case atStart => exact ⟨1, 0, rfl, Nat.zero_le _, rfl, fun j h => by omega, Below.refl _ _⟩
      case round =>
        obtain ⟨m, k, hm, hk, rfl, ht, hb⟩ := hrel
        have HT : Hid (∀ j, j + 1 < m → j + 1 < h.tags.length → ltS (h.tags.getD j noP).1 (h.tags.getD (j + 1) noP).1 = true) := ht
        have HXr : HasBox wr w.heap.size 24 (hcells h (.slice mo h.tags.length mc)) := HX1.out.below hb
        have HBr : Hid (Below w.heap.size w wr) := HB.out.trans (hb.mono HB.out.size)
        have HB1 : Hid (Below w1.heap.size w1 wr) := hb
        have c5 : wr.cell? ⟨w.heap.size, 5, none⟩ = some (.slice mo h.tags.length mc) := HXr.cell 5
        have hz : w.heap.size < wr.heap.size := HXr.lt
        clear ht hb HXr
        by_cases hlt : m < h.tags.length
        · obtain ⟨b, off, rfl, hbl, g1, g2⟩ := (HM.out.below HBr.out).at k (by omega)
          obtain ⟨b', off', e, _, g3, g4⟩ := (HM.out.below HBr.out).at m hlt
          simp only [Option.some.injEq, Addr.mk.injEq, and_true] at e
          obtain ⟨rfl, rfl⟩ := e
          have HFa : Hid (ltS (h.tags.getD k noP).1 (h.tags.getD m noP).1 = false → risesP h.tags = false) := by subst hm; exact risesP_false hlt
          have HN : Hid (ltS (h.tags.getD k noP).1 (h.tags.getD m noP).1 = true → ∀ j, j + 1 < m + 1 → j + 1 < h.tags.length → ltS (h.tags.getD j noP).1 (h.tags.getD (j + 1) noP).1 = true) := fun h j h1 h2 => by
            rcases Nat.lt_or_ge j k with h3 | h3
            · exact HT.out j (by omega) h2
            · obtain rfl : j = k := by omega
              rw [← hm]; exact h
          generalize (h.tags.getD k noP).1 = x at g1 HFa HN
          generalize (h.tags.getD m noP).1 = y at g3 HFa HN
          clear g2 g4
          have hk0 : k < h.tags.length := by omega
          have e1 : (m : Int) - 1 = k := by omega
          have e2 : IntKind.i64.wrap (k : Int) = (k : Int) := by rw [IntKind.wrap_i64]; omega
          have HMk : Hid (m = k + 1) := hm
          clear hm
          have hgq := leq_str 9 y x
          rw [← bytesLess_tri] at hgq
          cases hc : Op.bytesLess x.toList y.toList with
          | true =>
            rw [hc] at hgq
            have HR : Hid (∀ j, j + 1 < m + 1 → j + 1 < h.tags.length → ltS (h.tags.getD j noP).1 (h.tags.getD (j + 1) noP).1 = true) := HN.out hc
            clear HFa HN
            go_wp2
            go_quiet (fail)
            go_wp2
            go_roundw
            case rel => exact ⟨m + 1, k + 1, by have := HMk.out; omega, by omega, by go_num, HR.out, below_drewN HB1.out _⟩
            case measure => simp [intOf]; omega
          | false =>
            rw [hc] at hgq
            have HR : Hid (mayHost h = false) := HG.out (HFa.out hc)
            clear HFa HN
            go_wp2
            go_quiet (fail)
            go_wp2
            go_ret
            exact ⟨by rw [HR.out]; rfl, below_drewN HBr.out _⟩
        · have HR : Hid (mayHost h = true) := HF.out (risesP_true HT.out (by omega))
          go_wp2
          go_ret
          exact ⟨by rw [HR.out]; rfl, HBr.out⟩

end Go.Proofs.Ytgjancpogblakaa

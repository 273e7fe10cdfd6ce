/-
  The reference's answers to chapter 7.
-/
import Derived.Test.YthmfmeibjpgokaaHost3
import Derived.Test.YthmfmeibjpgokaaRefWord
namespace Go.Proofs.Ythmfmeibjpgokaa
open Go.RowKit

theorem mayPairs_all {ps : List PairT} (hall : ∀ p ∈ ps, nameOK p.1 = true ∧ nameOK p.2 = true) : mayPairs ps = decide (ps.length ≤ 6) := by
  by_cases h6 : ps.length ≤ 6
  · rw [mayPairs_end h6 hall, decide_eq_true h6]
  · rw [mayPairs_long (by omega), decide_eq_false h6]


set_option maxHeartbeats 1000000 in
theorem rSamePairs_any (ps qs : List PairT) (v u : Value) (w : World) (hv : IsPairs w v ps) (hu : IsPairs w u qs) :
    Calls Try.prog 16 #[v, u] w fun e w' => e = .returned (.bool (decide (ps = qs))) ∧ Below w.heap.size w w' := by
  obtain ⟨ao, c1, rfl⟩ := hv.shaped
  obtain ⟨bo, c2, rfl⟩ := hu.shaped
  have hl1 := hv.len
  have hl2 := hu.len
  have HV : Hid (IsPairs w (.slice ao ps.length c1) ps) := hv
  have HU : Hid (IsPairs w (.slice bo qs.length c2) qs) := hu
  clear hv hu
  by_cases hl : ps.length = qs.length
  · go_enter Try.func16, Try.ntmps16
    go_wp2
    have HL : Hid (ps.length = qs.length) := hl
    clear hl
    go_loopw [13] (fun i wr => ∃ k : Nat, k ≤ ps.length ∧ i = .int .i64 k ∧ ps.take k = qs.take k ∧ Below w.heap.size w wr) (fun i _ => ps.length - (intOf i).toNat)
    case atStart => exact ⟨0, Nat.zero_le _, rfl, by simp, Below.refl _ _⟩
    case round =>
      obtain ⟨k, hk, rfl, ht, hb⟩ := hrel
      have HT : Hid (ps.take k = qs.take k) := ht
      have HB : Hid (Below w.heap.size w wr) := hb
      clear ht hb
      by_cases hlt : k < ps.length
      · have hlj : k < qs.length := by have := HL.out; omega
        obtain ⟨b1, o1, rfl, hbl1, g1, g2⟩ := (HV.out.below HB.out).at k hlt
        obtain ⟨b2, o2, rfl, hbl2, g3, g4⟩ := (HU.out.below HB.out).at k hlj
        have HN : Hid (ps.getD k noP = qs.getD k noP → ps.take (k + 1) = qs.take (k + 1)) := take_more noP hlt hlj HT.out
        have HX : Hid (ps.getD k noP ≠ qs.getD k noP → decide (ps = qs) = false) := list_ne noP
        generalize ps.getD k noP = pq at g1 g2 HN HX
        generalize qs.getD k noP = pr at g3 g4 HN HX
        obtain ⟨x, y⟩ := pq
        obtain ⟨z, t⟩ := pr
        simp only at g1 g2 g3 g4
        rcases pair_cases x y z t with ⟨a1, a2, a3⟩ | ⟨a1, a2⟩ | ⟨a1, a2, a3⟩
        · have HR : Hid (ps.take (k + 1) = qs.take (k + 1)) := HN.out a1
          clear HN HX a1
          go_wp2
          go_quiet (fail)
          go_wp2
          go_roundw
          case rel => exact ⟨k + 1, by omega, by go_num, HR.out, below_drewN HB.out _⟩
          case measure => simp [intOf]; omega
        all_goals
          have HR : Hid (decide (ps = qs) = false) := HX.out a1
          clear HN HX a1
          go_wp2
          go_quiet (fail)
          go_wp2
          go_ret
          exact ⟨by rw [HR.out]; rfl, below_drewN HB.out _⟩
      · have HR : Hid (decide (ps = qs) = true) := list_eq HL.out (by omega) HT.out
        have hlj : ¬ k < qs.length := by have := HL.out; omega
        go_wp2
        go_ret
        exact ⟨by rw [HR.out]; rfl, HB.out⟩
  · have HR : Hid (decide (ps = qs) = false) := list_len hl
    have hne : ((ps.length : Int) != (qs.length : Int)) = true := by rw [bne_iff_ne]; omega
    clear hl
    go_enter Try.func16, Try.ntmps16
    go_wp2
    go_ret
    exact ⟨by rw [HR.out]; rfl, Below.refl _ _⟩

set_option maxHeartbeats 1000000 in
theorem rSameHost_any (a b : HostT) (mv nv : Value) (w : World) (hm : IsPairs w mv a.tags) (hn : IsPairs w nv b.tags) :
    Calls Try.prog 14 #[hval a mv, hval b nv] w fun e w' => e = .returned (.bool (sameH a b)) ∧ Below w.heap.size w w' := by
  have HM : Hid (IsPairs w mv a.tags) := hm
  have HN : Hid (IsPairs w nv b.tags) := hn
  clear hm hn
  rw [sameH_parts]
  have K := fun w (H1 : IsPairs w mv a.tags) (H2 : IsPairs w nv b.tags) => rSamePairs_any a.tags b.tags mv nv w H1 H2
  generalize decide (a.tags = b.tags) = z5 at K ⊢
  cases h0 : (a.id == b.id) with
  | false =>
    go_enter Try.func14, Try.ntmps14
    go_wp2
    go_ret
    exact ⟨rfl, ((Below.refl _ _).alloc (Nat.le_refl _) _).alloc (by simp) _⟩
  | true =>
    cases h1 : (a.addr.toList == b.addr.toList) with
    | false =>
      go_enter Try.func14, Try.ntmps14
      go_wp2
      go_ret
      exact ⟨rfl, ((Below.refl _ _).alloc (Nat.le_refl _) _).alloc (by simp) _⟩
    | true =>
      cases h2 : (a.prio == b.prio) with
      | false =>
        go_enter Try.func14, Try.ntmps14
        go_wp2
        go_ret
        exact ⟨rfl, ((Below.refl _ _).alloc (Nat.le_refl _) _).alloc (by simp) _⟩
      | true =>
        cases h3 : (a.zone.toList == b.zone.toList) with
        | false =>
          go_enter Try.func14, Try.ntmps14
          go_wp2
          go_ret
          exact ⟨rfl, ((Below.refl _ _).alloc (Nat.le_refl _) _).alloc (by simp) _⟩
        | true =>
          cases h4 : (a.weight == b.weight) with
          | false =>
            go_enter Try.func14, Try.ntmps14
            go_wp2
            go_ret
            exact ⟨rfl, ((Below.refl _ _).alloc (Nat.le_refl _) _).alloc (by simp) _⟩
          | true =>
            go_enter Try.func14, Try.ntmps14
            go_wp2_with fail
            refine (K _ (HM.out.below (((Below.refl _ _).alloc (Nat.le_refl _) _).alloc (by simp) _)) (HN.out.below (((Below.refl _ _).alloc (Nat.le_refl _) _).alloc (by simp) _))).mono ?_
            rintro e w1 ⟨rfl, hb⟩
            have HB : Hid (Below w.heap.size w w1) := (((Below.refl _ _).alloc (Nat.le_refl _) _).alloc (by simp) _).trans (hb.mono (by simp; omega))
            clear hb
            go_wp2
            go_ret
            exact ⟨by simp, HB.out⟩


end Go.Proofs.Ythmfmeibjpgokaa

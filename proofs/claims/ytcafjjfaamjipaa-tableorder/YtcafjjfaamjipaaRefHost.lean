/-
  The reference's answers to chapter 7.
-/
import Derived.Test.YtcafjjfaamjipaaHost3
import Derived.Test.YtcafjjfaamjipaaRefWord
namespace Go.Proofs.Ytcafjjfaamjipaa
open Go.RowKit

theorem mayPairs_all {ps : List PairT} (hall : ∀ p ∈ ps, nameOK p.1 = true ∧ nameOK p.2 = true) : mayPairs ps = decide (ps.length ≤ 6) := by
  by_cases h6 : ps.length ≤ 6
  · rw [mayPairs_end h6 hall, decide_eq_true h6]
  · rw [mayPairs_long (by omega), decide_eq_false h6]

set_option maxHeartbeats 1000000 in
theorem rMaySubset_any (ps : List PairT) (v : Value) (w : World) (hv : IsPairs w v ps) :
    Calls Try.prog 40 #[v] w fun e w' => e = .returned (.bool (mayPairs ps)) ∧ Below w.heap.size w w' := by
  obtain ⟨ao, cap, rfl⟩ := hv.shaped
  have hlen := hv.len
  have HV : Hid (IsPairs w (.slice ao ps.length cap) ps) := hv
  clear hv
  go_enter Try.func40, Try.ntmps40
  go_wp2
  go_loopw [7] (fun i wr => ∃ k : Nat, k ≤ ps.length ∧ i = .int .i64 k ∧ (∀ p ∈ ps.take k, nameOK p.1 = true ∧ nameOK p.2 = true) ∧ Below w.heap.size w wr) (fun i _ => ps.length - (intOf i).toNat)
  case atStart => exact ⟨0, Nat.zero_le _, rfl, by simp, Below.refl _ _⟩
  case round =>
    obtain ⟨k, hk, rfl, ht, hb⟩ := hrel
    have HT : Hid (∀ p ∈ ps.take k, nameOK p.1 = true ∧ nameOK p.2 = true) := ht
    have HB : Hid (Below w.heap.size w wr) := hb
    clear ht hb
    by_cases hlt : k < ps.length
    · obtain ⟨b, off, rfl, hbl, g1, g2⟩ := (HV.out.below HB.out).at k hlt
      have hok := HV.out.ok k hlt
      have HN : Hid (nameOK (ps.getD k noP).1 = true → nameOK (ps.getD k noP).2 = true → ∀ p ∈ ps.take (k + 1), nameOK p.1 = true ∧ nameOK p.2 = true) := fun h1 h2 => mem_take_succ noP hlt HT.out ⟨h1, h2⟩
      have HX : Hid (nameOK (ps.getD k noP).1 = false ∨ nameOK (ps.getD k noP).2 = false → mayPairs ps = false) := mayPairs_bad hlt
      generalize ps.getD k noP = pq at g1 g2 HN HX hok
      obtain ⟨x, y⟩ := pq
      have HY : Hid (okPair (x, y)) := hok
      simp only at g1 g2
      have HO1 : ∀ w, Calls Try.prog 39 #[.string x] w fun e w' => e = .returned (.bool (nameOK x)) ∧ w' = w := fun w => rWord_any x w HY.out.1
      have HO2 : ∀ w, Calls Try.prog 39 #[.string y] w fun e w' => e = .returned (.bool (nameOK y)) ∧ w' = w := fun w => rWord_any y w HY.out.2
      clear hok
      cases h1 : nameOK x with
      | false =>
        rw [h1] at HO1
        have HF : Hid (mayPairs ps = false) := HX.out (.inl h1)
        clear h1 HO2 HN HX
        go_wp2_with fail
        refine (HO1 _).mono ?_
        rintro e w1 ⟨rfl, hw⟩; subst w1
        go_wp2
        go_ret
        exact ⟨by rw [HF.out]; rfl, HB.out.trans ((((Below.refl _ _).alloc (Nat.le_refl _) _)).mono HB.out.size)⟩
      | true =>
        rw [h1] at HO1
        have HN1 : Hid (nameOK y = true → ∀ p ∈ ps.take (k + 1), nameOK p.1 = true ∧ nameOK p.2 = true) := HN.out h1
        have HX1 : Hid (nameOK y = false → mayPairs ps = false) := fun h => HX.out (.inr h)
        clear h1 HN HX
        cases h2 : nameOK y with
        | false =>
          rw [h2] at HO2
          have HF : Hid (mayPairs ps = false) := HX1.out h2
          clear h2 HN1 HX1
          go_wp2_with fail
          refine (HO1 _).mono ?_
          rintro e w1 ⟨rfl, hw⟩; subst w1
          go_wp2_with fail
          refine (HO2 _).mono ?_
          rintro e w1 ⟨rfl, hw⟩; subst w1
          go_wp2
          go_ret
          exact ⟨by rw [HF.out]; rfl, HB.out.trans ((((Below.refl _ _).alloc (Nat.le_refl _) _)).mono HB.out.size)⟩
        | true =>
          rw [h2] at HO2
          have HF : Hid (∀ p ∈ ps.take (k + 1), nameOK p.1 = true ∧ nameOK p.2 = true) := HN1.out h2
          clear h2 HN1 HX1
          go_wp2_with fail
          refine (HO1 _).mono ?_
          rintro e w1 ⟨rfl, hw⟩; subst w1
          go_wp2_with fail
          refine (HO2 _).mono ?_
          rintro e w1 ⟨rfl, hw⟩; subst w1
          go_wp2
          go_roundw
          case rel => exact ⟨k + 1, by omega, by go_num, HF.out, HB.out.trans ((((Below.refl _ _).alloc (Nat.le_refl _) _)).mono HB.out.size)⟩
          case measure => simp [intOf]; omega
    · have hall := HT.out
      rw [List.take_of_length_le (by omega)] at hall
      have HF : Hid (mayPairs ps = decide (ps.length ≤ 6)) := mayPairs_all hall
      clear hall
      by_cases h6 : ps.length ≤ 6
      · have HF2 : Hid (mayPairs ps = true) := HF.out.trans (decide_eq_true h6)
        go_wp2
        go_ret
        exact ⟨by rw [HF2.out]; simp; omega, HB.out⟩
      · have HF2 : Hid (mayPairs ps = false) := HF.out.trans (decide_eq_false h6)
        go_wp2
        go_ret
        exact ⟨by rw [HF2.out]; simp; omega, HB.out⟩

set_option maxHeartbeats 1000000 in
theorem rSamePairs_any (ps qs : List PairT) (v u : Value) (w : World) (hv : IsPairs w v ps) (hu : IsPairs w u qs) :
    Calls Try.prog 38 #[v, u] w fun e w' => e = .returned (.bool (decide (ps = qs))) ∧ Below w.heap.size w w' := by
  obtain ⟨ao, c1, rfl⟩ := hv.shaped
  obtain ⟨bo, c2, rfl⟩ := hu.shaped
  have hl1 := hv.len
  have hl2 := hu.len
  have HV : Hid (IsPairs w (.slice ao ps.length c1) ps) := hv
  have HU : Hid (IsPairs w (.slice bo qs.length c2) qs) := hu
  clear hv hu
  by_cases hl : ps.length = qs.length
  · go_enter Try.func38, Try.ntmps38
    go_wp2
    have HL : Hid (ps.length = qs.length) := hl
    clear hl
    go_loopw [13] (fun i wr => ∃ k : Nat, k ≤ ps.length ∧ i = .int .i64 k ∧ ps.take k = qs.take k ∧ Below w.heap.size w wr) (fun i _ => ps.length - (intOf i).toNat)
    case atStart => exact ⟨0, Nat.zero_le _, rfl, by simp, Below.refl _ _⟩
    case round =>
      obtain ⟨k, hk, rfl, ht, hb⟩ := hrel
      have HT : Hid (ps.take k = qs.take k) := ht
      have HB : Hid (Below w.heap.size w wr) := hb
      clear ht hb
      by_cases hlt : k < ps.length
      · have hlj : k < qs.length := by have := HL.out; omega
        obtain ⟨b1, o1, rfl, hbl1, g1, g2⟩ := (HV.out.below HB.out).at k hlt
        obtain ⟨b2, o2, rfl, hbl2, g3, g4⟩ := (HU.out.below HB.out).at k hlj
        have HN : Hid (ps.getD k noP = qs.getD k noP → ps.take (k + 1) = qs.take (k + 1)) := take_more noP hlt hlj HT.out
        have HX : Hid (ps.getD k noP ≠ qs.getD k noP → decide (ps = qs) = false) := list_ne noP
        generalize ps.getD k noP = pq at g1 g2 HN HX
        generalize qs.getD k noP = pr at g3 g4 HN HX
        obtain ⟨x, y⟩ := pq
        obtain ⟨z, t⟩ := pr
        simp only at g1 g2 g3 g4
        rcases pair_cases x y z t with ⟨a1, a2, a3⟩ | ⟨a1, a2⟩ | ⟨a1, a2, a3⟩
        · have HR : Hid (ps.take (k + 1) = qs.take (k + 1)) := HN.out a1
          clear HN HX a1
          go_wp2
          go_quiet (fail)
          go_wp2
          go_roundw
          case rel => exact ⟨k + 1, by omega, by go_num, HR.out, below_drewN HB.out _⟩
          case measure => simp [intOf]; omega
        all_goals
          have HR : Hid (decide (ps = qs) = false) := HX.out a1
          clear HN HX a1
          go_wp2
          go_quiet (fail)
          go_wp2
          go_ret
          exact ⟨by rw [HR.out]; rfl, below_drewN HB.out _⟩
      · have HR : Hid (decide (ps = qs) = true) := list_eq HL.out (by omega) HT.out
        have hlj : ¬ k < qs.length := by have := HL.out; omega
        go_wp2
        go_ret
        exact ⟨by rw [HR.out]; rfl, HB.out⟩
  · have HR : Hid (decide (ps = qs) = false) := list_len hl
    have hne : ((ps.length : Int) != (qs.length : Int)) = true := by rw [bne_iff_ne]; omega
    clear hl
    go_enter Try.func38, Try.ntmps38
    go_wp2
    go_ret
    exact ⟨by rw [HR.out]; rfl, Below.refl _ _⟩

set_option maxHeartbeats 1000000 in
theorem rSameHost_any (a b : HostT) (mv nv : Value) (w : World) (hm : IsPairs w mv a.tags) (hn : IsPairs w nv b.tags) :
    Calls Try.prog 23 #[hval a mv, hval b nv] w fun e w' => e = .returned (.bool (sameH a b)) ∧ Below w.heap.size w w' := by
  have HM : Hid (IsPairs w mv a.tags) := hm
  have HN : Hid (IsPairs w nv b.tags) := hn
  clear hm hn
  rw [sameH_parts]
  have K := fun w (H1 : IsPairs w mv a.tags) (H2 : IsPairs w nv b.tags) => rSamePairs_any a.tags b.tags mv nv w H1 H2
  generalize decide (a.tags = b.tags) = z5 at K ⊢
  cases h0 : (a.id == b.id) with
  | false =>
    go_enter Try.func23, Try.ntmps23
    go_wp2
    go_ret
    exact ⟨rfl, ((Below.refl _ _).alloc (Nat.le_refl _) _).alloc (by simp) _⟩
  | true =>
    cases h1 : (a.addr.toList == b.addr.toList) with
    | false =>
      go_enter Try.func23, Try.ntmps23
      go_wp2
      go_ret
      exact ⟨rfl, ((Below.refl _ _).alloc (Nat.le_refl _) _).alloc (by simp) _⟩
    | true =>
      cases h2 : (a.prio == b.prio) with
      | false =>
        go_enter Try.func23, Try.ntmps23
        go_wp2
        go_ret
        exact ⟨rfl, ((Below.refl _ _).alloc (Nat.le_refl _) _).alloc (by simp) _⟩
      | true =>
        cases h3 : (a.zone.toList == b.zone.toList) with
        | false =>
          go_enter Try.func23, Try.ntmps23
          go_wp2
          go_ret
          exact ⟨rfl, ((Below.refl _ _).alloc (Nat.le_refl _) _).alloc (by simp) _⟩
        | true =>
          cases h4 : (a.weight == b.weight) with
          | false =>
            go_enter Try.func23, Try.ntmps23
            go_wp2
            go_ret
            exact ⟨rfl, ((Below.refl _ _).alloc (Nat.le_refl _) _).alloc (by simp) _⟩
          | true =>
            go_enter Try.func23, Try.ntmps23
            go_wp2_with fail
            refine (K _ (HM.out.below (((Below.refl _ _).alloc (Nat.le_refl _) _).alloc (by simp) _)) (HN.out.below (((Below.refl _ _).alloc (Nat.le_refl _) _).alloc (by simp) _))).mono ?_
            rintro e w1 ⟨rfl, hb⟩
            have HB : Hid (Below w.heap.size w w1) := (((Below.refl _ _).alloc (Nat.le_refl _) _).alloc (by simp) _).trans (hb.mono (by simp; omega))
            clear hb
            go_wp2
            go_ret
            exact ⟨by simp, HB.out⟩

set_option maxHeartbeats 1000000 in
theorem rCopy_any (h : HostT) (mv : Value) (w : World) (hv : IsPairs w mv h.tags) (hlen : h.tags.length ≤ maxRow) :
    Calls Try.prog 32 #[hval h mv] w fun e w' => ∃ mv', e = .returned (hval h mv') ∧ w'.ownsRow w.heap.size 48 2 mv' h.tags.length (pairCells h.tags) ∧ Below w.heap.size w w' := by
  have HV : Hid (IsPairs w mv h.tags) := hv
  have hlen' : h.tags.length ≤ 4398046510976 := hlen
  obtain ⟨i0, hi, hz0, hz1, hz2⟩ := info_of infoPair
  clear hv hlen
  go_enter Try.func32, Try.ntmps32
  go_wp2_with (at_builtin; refine wpList_append_row rfl (.const (.slice none 0 0)) (.tmp 4) 23 rfl (w.heap.size + 2) 48 i0 _ 2 32 Try.underlying23 hi hz0 hz1 hz2 rfl (by decide) _ 0 [] rfl ⟨rfl, .inl ⟨rfl, rfl⟩⟩ _ h.tags.length (pairCells h.tags) rfl (HV.out.below (((Below.refl _ _).alloc (Nat.le_refl _) _).alloc (by simp) _)).2 (pairCells_one _) (by unfold maxLen; omega) (by omega) (by simp) ?_)
  intro v' w1 hown hgrow hat
  have HO : Hid (w1.ownsRow (w.heap.size + 2) 48 2 v' h.tags.length (pairCells h.tags)) := by
    show World.ownsRow _ _ _ _ _ _ _
    simpa using hown
  obtain ⟨ao, c, rfl⟩ := (isRow_own HO.out).shaped
  have hnb : (Value.slice none 0 0).ownBlock = none := rfl
  have HBx : Hid (HasBox w1 w.heap.size 25 (hcells h mv)) := ((hasBox_new w _ _).alloc _).grown hgrow (by simp [Value.ownBlock])
  have HBy : Hid (HasBox w1 (w.heap.size + 1) 25 (hcells noHost nilW)) := (hasBox_new' (w.alloc _) _ _ _ (by simp)).grown hgrow (by simp [Value.ownBlock])
  have HB : Hid (Below w.heap.size w w1) := (((Below.refl _ _).alloc (Nat.le_refl _) _).alloc (by simp) _).grown hgrow (by simp; omega) (fun q hq => by simp [Value.ownBlock] at hq)
  clear hown hgrow hat
  have hf : w1.frozen? ⟨w.heap.size, 5, none⟩ = false := HBx.out.frozen 5
  have hc : w1.cell? ⟨w.heap.size, 5, none⟩ = some mv := HBx.out.cell 5
  have HX2 : Hid (HasBox (w1.setCell ⟨w.heap.size, 5, none⟩ (.slice ao h.tags.length c)) w.heap.size 25 (hcells h (.slice ao h.tags.length c))) := HBx.out.set 5 _
  have HY2 : Hid (HasBox (w1.setCell ⟨w.heap.size, 5, none⟩ (.slice ao h.tags.length c)) (w.heap.size + 1) 25 (hcells noHost nilW)) := HBy.out.setOther _ (by simp) _
  go_wp2_with (first | (refine wpList_load_row rfl 25 (.tmp 1) rfl w.heap.size rfl 25 (hcells h (.slice ao h.tags.length c)) (0, 0) _ HX2.out Try.underlying25 rfl sizeHost ?_) | (refine wpList_store_row rfl 25 (.tmp 2) (.tmp 7) rfl (w.heap.size + 1) (hcells h (.slice ao h.tags.length c)) rfl rfl 25 _ HY2.out sizeHost rfl (one_host _ _ _ _) ?_))
  refine bodyPost_ret (results_cell_row rfl _ _ (w.heap.size + 1) 25 (hcells h (.slice ao h.tags.length c)) _ _ rfl (HY2.out.row) Try.underlying25 rfl sizeHost) rfl ?_
  refine ⟨_, rfl, ?_, ?_⟩
  · refine own_from (own_on HO.out fun g hg _ => ?_) (by omega)
    rw [setRow_other _ _ _ _ (by omega)]
    simp [World.setCell, Array.getElem?_modify]
    omega
  · exact below_setRow (HB.out.setCell (by simp) _) (by omega) _

end Go.Proofs.Ytcafjjfaamjipaa

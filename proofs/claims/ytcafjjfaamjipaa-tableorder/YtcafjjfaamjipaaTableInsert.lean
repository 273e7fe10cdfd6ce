/-
  Contracts of package slices at hosts: one put into a row that is just full.
-/
import Derived.Test.YtcafjjfaamjipaaTableEdit
namespace Go.Proofs.Ytcafjjfaamjipaa
open Go.RowKit

theorem OwnHosts.cur {w : World} {base hT pT g n : Nat} {vs : List Value} {hs : List HostT} (ho : OwnHosts w base hT pT (.slice (some ⟨g, 0, none⟩) n n) vs hs) (hn : n = hs.length) :
    w.heap[g]? = some (.cells (hostCells hs vs).toArray hT (0, 0)) ∧ base ≤ g ∧ g < w.heap.size := by
  subst hn
  rcases ho.row.2 with ⟨h, _⟩ | ⟨g', cap, cur, h, hb, hg, hn, hm, hs', ht⟩
  · simp at h
  · simp only [Value.slice.injEq, Option.some.injEq, Addr.mk.injEq, and_true] at h
    obtain ⟨rfl, _, rfl⟩ := h
    refine ⟨?_, hb, (Array.getElem?_eq_some_iff.1 hg).1⟩
    rw [hg, ← ht, List.take_of_length_le (by simp [hs'])]

set_option maxRecDepth 100000 in
set_option maxHeartbeats 4000000 in
/-- slices.Insert(l, i, x), where the row is just full. -/
theorem insert_any (hs : List HostT) (vs : List Value) (i g base xb : Nat) (h : HostT) (uo : Option Addr) (un uc : Nat) (w : World) (ho : OwnHosts w base 25 48 (.slice (some ⟨g, 0, none⟩) hs.length hs.length) vs hs) (hi : i ≤ hs.length) (h64 : hs.length ≤ 64) (hb0 : base ≤ w.heap.size)
    (hx : IsRow 6 w (.slice (some ⟨xb, 0, none⟩) 1 1) 1 (hcells h (.slice uo un uc)).toList) (hu : w.ownsRow base 48 2 (.slice uo un uc) h.tags.length (pairCells h.tags)) :
    Calls Try.prog 29 #[.slice (some ⟨g, 0, none⟩) hs.length hs.length, .int .i64 i, .slice (some ⟨xb, 0, none⟩) 1 1] w fun e w' => ∃ v' vs', e = .returned v' ∧ OwnHosts w' base 25 48 v' vs' (hs.take i ++ h :: hs.drop i) ∧ Below w.heap.size w w' := by
  obtain ⟨i0, hi0, hz0, hz1, hz2⟩ := info_of infoHost
  have HO : Hid (OwnHosts w base 25 48 (.slice (some ⟨g, 0, none⟩) hs.length hs.length) vs hs) := ho
  have HX : Hid (IsRow 6 w (.slice (some ⟨xb, 0, none⟩) 1 1) 1 (hcells h (.slice uo un uc)).toList) := hx
  have HU : Hid (w.ownsRow base 48 2 (.slice uo un uc) h.tags.length (pairCells h.tags)) := hu
  clear ho hx hu
  have hb3 : (i : Int) ≤ (hs.length : Int) := by omega
  by_cases hin : i = hs.length
  · subst hin
    have hbx : ∀ j u, (hcells h (.slice uo un uc)).toList[j]? = some u → w.cell? ((⟨xb, 0, none⟩ : Addr).add j) = some u := fun j u hu => by
      have hj : j < 6 := (List.getElem?_eq_some_iff.1 hu).1
      have hadd : (⟨xb, 0, none⟩ : Addr).add j = ⟨xb, 0 + j, none⟩ := by unfold Addr.add; split <;> simp_all
      rw [hadd]
      rcases HX.out.2.2 with ⟨h, _⟩ | ⟨_, b, off, cap, e, _, hc⟩
      · omega
      · simp only [Value.slice.injEq, Option.some.injEq, Addr.mk.injEq, and_true] at e
        obtain ⟨⟨rfl, rfl⟩, _⟩ := e
        rw [hc j (by omega)]; exact hu
    obtain ⟨v', w5, hrf, hown, hb5⟩ := append_full (P := Try.prog) w 22 25 i0 _ 6 80 Try.underlying22 hi0 hz0 hz1 hz2 rfl base g hs.length 1 1 (hostCells hs vs) HO.out.row ⟨xb, 0, none⟩ (hcells h (.slice uo un uc)).toList rfl hbx (by decide) (by unfold maxLen; omega) (by omega) hb0
    have HN5 : Hid (OwnHosts w5 base 25 48 v' (vs ++ [.slice uo un uc]) (hs ++ [h])) := HO.out.snoc HU.out pair_ne_host hown (grown_of_below hb5 _)
    have HB5 : Hid (Below w.heap.size w w5) := hb5
    clear hown hb5 hbx
    go_enter Try.func29, Try.ntmps29
    go_wp2_with (at_builtin; refine Lib.wpList_append_run _ rfl _ _ _ _ rfl _ _ rfl rfl _ _ (hrf _) ?_)
    go_ret
    refine ⟨v', rfl, ⟨vs ++ [.slice uo un uc], ?_⟩, HB5.out⟩
    exact HN5.out
  · have hlt : i < hs.length := by omega
    have hne : ¬ (i : Int) = (hs.length : Int) := by omega
    obtain ⟨hg, hbg, hgl⟩ := HO.out.cur rfl
    obtain ⟨G, ROW, W1, hrz, hR1, hG1, hG2, hRl, hRt, hB1⟩ := append_zeros (P := Try.prog) w 22 3 25 i0 (hval noHost nilW) 6 80 Try.underlying22 Try.underlying3 hi0 hz0 hz1 hz2 rfl (by decide) base g hs.length i (hs.length + 1 - i) (hostCells hs vs) HO.out.row hlt rfl (by omega) (by omega)
    have hkk : ((hs.length + 1 - i : Nat) : Int) = (hs.length : Int) + 1 - (i : Int) := by omega
    rw [hkk] at hrz
    have hbw : xb < w.heap.size := by
      rcases HX.out.2.2 with ⟨h, _⟩ | ⟨_, b, off, cap, e, hlt, _⟩
      · omega
      · simp only [Value.slice.injEq, Option.some.injEq, Addr.mk.injEq, and_true] at e
        obtain ⟨⟨rfl, _⟩, _⟩ := e
        exact hlt
    have hGi : ¬ G = i := by omega
    have hGi1 : ¬ G = i + 1 := by omega
    have hz3 : (hs.length : Int) < (hs.length : Int) + 1 := by omega
    have hadd : ∀ (b o j : Nat), (⟨b, o, none⟩ : Addr).add j = ⟨b, o + j, none⟩ := fun b o j => by unfold Addr.add; split <;> simp_all
    obtain ⟨CX, hCX⟩ : ∃ CX, CX = (hcells h (.slice uo un uc)).toList := ⟨_, rfl⟩
    obtain ⟨C, hC⟩ : ∃ C, C = hostCells hs vs := ⟨_, rfl⟩
    obtain ⟨CT, hCT⟩ : ∃ CT, CT = C.drop (i * 6) := ⟨_, rfl⟩
    have hCl : C.length = hs.length * 6 := by rw [hC]; exact hostCells_length _ _ HO.out.same
    have hCTl : CT.length = (hs.length - i) * 6 := by rw [hCT, List.length_drop, hCl, Nat.sub_mul]
    have hCX6 : CX.length = 6 := by rw [hCX]; rfl
    have hm1 : Nat.min 1 (hs.length + 1 - i) = 1 := Nat.min_eq_left (by omega)
    have hm2 : Nat.min (hs.length - i) (hs.length + 1 - (i + 1)) = hs.length - i := Nat.min_eq_left (by omega)
    have h1X : ∀ v ∈ CX, v.oneCell' = true := fun v hv => by rw [hCX] at hv; exact host_row_one _ _ _ _ v hv
    have h1T : ∀ v ∈ CT, v.oneCell' = true := fun v hv => by rw [hCT, hC] at hv; exact HO.out.oneCells v (List.mem_of_mem_drop hv)
    have hsX : ∀ j v, CX[j]? = some v → W1.cell? ((⟨xb, 0, none⟩ : Addr).add j) = some v := fun j v hv => by
      have hj : j < 6 := by rw [← hCX6]; exact (List.getElem?_eq_some_iff.1 hv).1
      rw [hadd, (hB1.cell (p := ⟨xb, _, none⟩) hbw)]
      rcases HX.out.2.2 with ⟨h, _⟩ | ⟨_, b, off, cap, e, _, hc⟩
      · omega
      · simp only [Value.slice.injEq, Option.some.injEq, Addr.mk.injEq, and_true] at e
        obtain ⟨⟨rfl, rfl⟩, _⟩ := e
        rw [hc j (by omega), ← hCX]; exact hv
    have hgN : g ≠ w.heap.size := by omega
    have HsT : Hid (∀ W2 : World, W1.grownBy W2 (some w.heap.size) → ∀ j v, CT[j]? = some v → W2.drew.cell? ((⟨g, i * 6, none⟩ : Addr).add j) = some v) := fun W2 hg2 j v hv => by
      rw [hadd]
      show W2.cell? _ = _
      have hb : W2.heap[g]? = some (.cells C.toArray 25 (0, 0)) := by
        rw [hg2.block g (by have := hB1.size; omega) (by simp; omega), hB1.block g hgl, hg, hC]
      rw [cell_of_row W2 g _ C.toArray _ (0, 0) hb]
      rw [hCT, List.getElem?_drop] at hv
      simpa using hv
    have hR2l : (splice ROW (i * 6) CX).length = G * 6 := (length_splice _ _ _ (by omega)).trans hRl
    have HC : Hid (C = hostCells hs vs ∧ CT = C.drop (i * 6) ∧ CX = (hcells h (.slice uo un uc)).toList) := ⟨hC, hCT, hCX⟩
    have HRt : Hid (ROW.take (i * 6) = C.take (i * 6)) := by show _ = _; rw [hRt, hC]
    have HB1 : Hid (Below w.heap.size w W1) := hB1
    have hi1 : i + 1 ≤ hs.length + 1 := by omega
    have hb4 : (0 : Int) ≤ (i : Int) + 1 := by omega
    have hb5 : (i : Int) + 1 ≤ (hs.length : Int) + 1 := by omega
    have hb6 : (i : Int) ≤ (hs.length : Int) + 1 := by omega
    have hn1 : CX.length = Nat.min 1 (hs.length + 1 - i) * 6 := by rw [hCX6, hm1]
    have hin2 : ¬ hs.length = i := fun e => hin e.symm
    have hw1 : IntKind.i64.wrap ((i : Int) + 1) = (i : Int) + 1 := by rw [IntKind.wrap_i64]; omega
    have htn : ((i : Int) + 1).toNat = i + 1 := by omega
    clear hkk hC hCT hCX hRt hB1 hm1
    go_enter Try.func29, Try.ntmps29
    go_wp2_with (first | (at_builtin; refine Lib.wpList_append_run _ rfl _ _ _ _ rfl _ _ rfl rfl _ _ (hrz _) ?_) | (refine wpList_copy_wide rfl (.tmp 43) (.tmp 44) 22 22 rfl 25 6 Try.underlying22 sizeHost w.heap.size (i * 6) (hs.length + 1 - i) (G - i) ⟨xb, 0, none⟩ 1 1 rfl rfl ROW 25 hR1 CX hn1 hsX (by omega) h1X ?_) | fail)
    intro W2 hR2 hg2
    have HR2 : Hid _ := hR2
    have HG2 : Hid (W1.grownBy W2 (some w.heap.size)) := hg2
    clear hR2 hg2
    go_wp2_with fail
    go_region_law (refine step_copy_wide rfl (.tmp 50) (.tmp 53) 22 22 rfl 25 6 Try.underlying22 sizeHost w.heap.size ((i + 1) * 6) (hs.length + 1 - (i + 1)) (G - (i + 1)) ⟨g, i * 6, none⟩ (hs.length - i) (hs.length - i) (by simp [Act.eval, Act.put]) (by simp [Act.eval, Act.put]) (splice ROW (i * 6) CX) 25 HR2.out CT (by rw [hm2]; exact hCTl) (HsT.out W2 HG2.out) (by omega) h1T ?_; intro W3 hR3 hg3)
    have HR3 : Hid _ := hR3
    have HG3 : Hid (W2.drew.grownBy W3 (some w.heap.size)) := hg3
    clear hR3 hg3
    go_wp2
    go_ret
    have ho := HO.out
    obtain ⟨hC, hCT, hCX⟩ := HC.out
    have hz1 : w.heap.size ≤ W1.heap.size := HB1.out.size
    have HB2 : Below w.heap.size w W2 := HB1.out.grown HG2.out hz1 (fun k hk => by cases hk; exact Nat.le_refl _)
    have HB3 : Below w.heap.size w W3 := HB2.drew.grown HG3.out HB2.size (fun k hk => by cases hk; exact Nat.le_refl _)
    have hlen : (hs.take i ++ h :: hs.drop i).length = hs.length + 1 := by simp; omega
    have hlv : (vs.take i ++ .slice uo un uc :: vs.drop i).length = (hs.take i ++ h :: hs.drop i).length := by simp [ho.same]
    refine ⟨.slice (some ⟨w.heap.size, 0, none⟩) (hs.length + 1) G, vs.take i ++ .slice uo un uc :: vs.drop i, rfl, ⟨hlv, ⟨hostCells_length _ _ hlv, .inr ⟨w.heap.size, G, _, by rw [hlen], hb0, HR3.out, by omega, hG2, ?_, ?_⟩⟩, fun j hj => ?_⟩, HB3⟩
    · rw [List.size_toArray]
      exact (length_splice _ _ _ (by omega)).trans hR2l
    · rw [hlen]
      refine (take_splice_hi _ _ _ _ (by omega) (by omega)).trans ?_
      rw [take_splice_hi _ _ _ _ (by omega) (by omega), HRt.out, hostCells_append _ _ _ _ (by simp [ho.same]), hostCells_take _ _ ho.same]
      show _ = _ ++ (_ :: _ :: _ :: _ :: _ :: _ :: hostCells (hs.drop i) (vs.drop i))
      rw [hostCells_drop _ _ ho.same, hCT, hCX, hC]
      simp
    · rw [hlen] at hj
      rw [getD_more vs _ i j nilW (by rw [ho.same]; exact hi), getD_more hs h i j noHost hi]
      by_cases h1 : j < i
      · rw [if_pos h1, if_pos h1]
        exact own_on (ho.tags j (by omega)) fun g _ hl => HB3.block g hl
      · rw [if_neg h1, if_neg h1]
        by_cases h2 : j = i
        · rw [if_pos h2, if_pos h2]
          exact own_on HU.out fun g _ hl => HB3.block g hl
        · rw [if_neg h2, if_neg h2]
          exact own_on (ho.tags (j - 1) (by omega)) fun g _ hl => HB3.block g hl

end Go.Proofs.Ytcafjjfaamjipaa

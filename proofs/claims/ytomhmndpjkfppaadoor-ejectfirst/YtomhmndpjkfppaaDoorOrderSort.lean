/-
  Contracts of package order's mergePairs and Sort.
-/
import Derived.Test.YtomhmndpjkfppaaDoorOrderMerge
import Derived.Test.YtomhmndpjkfppaaDoorOrderRuns
import Derived.Test.YtomhmndpjkfppaaDoorPairKit
namespace Go.Proofs.YtomhmndpjkfppaaDoor
open Go.RowKit

set_option maxRecDepth 100000 in
set_option maxHeartbeats 2000000 in
theorem pairs_any (R : List Row) (us : List Value) (v : Value) (w : World) (hv : IsRows w v us R) (hs : ∀ r ∈ R, SortedK r) (hlen : R.flatten.length ≤ 1000000) (hrl : R.length ≤ 1000001) :
    Calls Tryd.prog 32 #[v] w fun e w' => ∃ v' vs H, e = .returned v' ∧ IsRows w' v' vs H ∧ (∀ r ∈ H, SortedK r) ∧ H.flatten.Perm R.flatten ∧ H.length = (R.length + 1) / 2 ∧ Below w.heap.size w w' := by
  obtain ⟨ao, c1, rfl⟩ := hv.shape
  obtain ⟨i0, hi, hz0, hz1, hz2⟩ := info_parts infoRow
  have HV : Hid (IsRows w (.slice ao R.length c1) us R) := hv
  have HS : Hid (∀ r ∈ R, SortedK r) := hs
  have HF : Hid (R.flatten.length ≤ 1000000) := hlen
  clear hv hs hlen
  go_enter Tryd.func32, Tryd.ntmps32
  go_wp2_with (at_make; refine wpList_make_own _ rfl _ _ 60 rfl w.heap.size 50 i0 _ 1 Tryd.underlying60 hi hz0 hz1 _ _ _ ((R.length + 1) / 2) rfl rfl (by omega) (by rw [hz2]; omega) (by unfold maxLen; omega) (Nat.le_refl _) ?_)
  intro w0 hown0 hgrow0
  have HO0 : Hid (w0.ownsRow w.heap.size 50 1 (.slice (some ⟨w.heap.size, 0, none⟩) 0 ((R.length + 1) / 2)) 0 []) := hown0
  have HB0 : Hid (Below w.heap.size w w0) := (Below.refl _ _).grown hgrow0 (Nat.le_refl _) (fun _ h => by simp at h)
  clear hown0 hgrow0
  go_wp2
  go_loopw [3, 4] (fun o i wr => ∃ (k m : Nat) (H : List Row) (vs : List Value), m = 2 * k ∧ m ≤ R.length ∧ i = .int .i64 m ∧ Paired R H k ∧ Held wr o vs H ∧ wr.ownsRow w.heap.size 50 1 o k vs ∧ Below w.heap.size w wr) (fun _ i _ => R.length - (intOf i).toNat)
  case atStart => exact ⟨0, 0, [], [], rfl, by omega, rfl, paired_start R, held_nil _ _, HO0.out, HB0.out⟩
  case round =>
    obtain ⟨k, m, H, vs, hm, hk, rfl, hp, hh, ho, hb⟩ := hrel
    have HM : Hid (m = 2 * k) := hm
    have HP : Hid (Paired R H k) := hp
    have HH : Hid (Held wr u3 vs H) := hh
    have HO : Hid (wr.ownsRow w.heap.size 50 1 u3 k vs) := ho
    have HB : Hid (Below w.heap.size w wr) := hb
    have hkl : k ≤ 1000001 := by omega
    clear hm hp hh ho hb
    by_cases hlt : m + 1 < R.length
    · obtain ⟨b, off, rfl, hblw, e1⟩ := HV.out.at m (by omega)
      obtain ⟨b', off', e, _, e2⟩ := HV.out.at (m + 1) hlt
      simp only [Option.some.injEq, Addr.mk.injEq, and_true] at e
      obtain ⟨rfl, rfl⟩ := e
      have hX := HV.out.2.2 m (by omega)
      have hY := HV.out.2.2 (m + 1) hlt
      have HP1 : Hid (Paired R (H ++ [sortV (R.getD m [] ++ R.getD (m + 1) [])]) (k + 1)) := by
        show Paired _ _ _
        have h1 := HM.out
        rw [h1]; exact paired_step HP.out (by omega)
      have HXY : Hid ((R.getD m []).length + (R.getD (m + 1) []).length ≤ 1000000) := by
        show _ ≤ _
        have h1 := HM.out
        have h2 := two_len (R := R) (k := k) (by omega)
        rw [h1]; exact Nat.le_trans h2 HF.out
      have hsX : SortedK (R.getD m []) := HS.out _ (by rw [rgetD _ (by omega)]; exact List.getElem_mem _)
      have hsY : SortedK (R.getD (m + 1) []) := HS.out _ (by rw [rgetD _ hlt]; exact List.getElem_mem _)
      generalize R.getD m [] = X at hX hsX HP1 HXY
      generalize R.getD (m + 1) [] = Y at hY hsY HP1 HXY
      generalize us.getD m nilV = a1 at e1 hX
      generalize us.getD (m + 1) nilV = a2 at e2 hY
      obtain ⟨xo, xc, rfl⟩ := hX.shape
      obtain ⟨yo, yc, rfl⟩ := hY.shape
      have HX : Hid (IsKeys w (.slice xo X.length xc) X) := hX
      have HY : Hid (IsKeys w (.slice yo Y.length yc) Y) := hY
      have HSX : Hid (SortedK X) := hsX
      have HSY : Hid (SortedK Y) := hsY
      have HEE : Hid (∀ W, Below w.heap.size w W → W.cell? ⟨b, off + m, none⟩ = some (.slice xo X.length xc) ∧ W.cell? ⟨b, off + (m + 1), none⟩ = some (.slice yo Y.length yc)) := fun W h => ⟨(h.cell (p := ⟨b, off + m, none⟩) hblw).trans e1, (h.cell (p := ⟨b, off + (m + 1), none⟩) hblw).trans e2⟩
      have d1 := (HEE.out wr HB.out).1
      have d2 := (HEE.out wr HB.out).2
      have hbl : b < wr.heap.size := Nat.lt_of_lt_of_le hblw HB.out.size
      clear hX hY hsX hsY e1 e2 hblw
      have HIN : Hid (∀ x ∈ sortV (X ++ Y), inK x) := fun x hx => by
        rcases List.mem_append.1 (sortV_mem.1 hx) with h | h
        · exact HX.out.1 x h
        · exact HY.out.1 x h
      have HLen : Hid ((sortV (X ++ Y)).length ≤ 1000000) := by
        show _ ≤ _
        rw [sortV_length, List.length_append]; exact HXY.out
      generalize hZ : sortV (X ++ Y) = Z at HP1 HIN HLen
      have HZ : Hid (sortV (X ++ Y) = Z) := hZ
      clear hZ
      have HU : Hid (∀ q, u3.ownBlock = some q → q < wr.heap.size) := fun q hq => (HO.out.lt q hq).2
      obtain ⟨m', hm'⟩ : ∃ m', m' = m + 1 := ⟨_, rfl⟩
      have HM1 : Hid (m' = m + 1) := hm'
      rw [← hm'] at HEE d2 hlt
      have n1 : m < R.length := by omega
      have j1 : (m : Int) + 1 = (m' : Int) := by omega
      have j2 : (m' : Int) < (R.length : Int) := by omega
      have j3 : IntKind.i64.wrap (m' : Int) = (m' : Int) := by rw [IntKind.wrap_i64]; omega
      have j4 : (0 : Int) ≤ (m' : Int) := by omega
      have j5 : (m : Int) < (R.length : Int) := by omega
      clear hm'
      go_wp2
      go_region_held3 (fun W => W.cell? ⟨b, off + m, none⟩ = some (.slice xo X.length xc) ∧ W.cell? ⟨b, off + m', none⟩ = some (.slice yo Y.length yc)) (first | (exact HEE.out _ HB5.out) | (exact HEE.out _ (HB.out.trans (HB4.out.mono HB.out.size))) | go_keep) (first
        | ((have := HK4; refine step_append_row (by rfl) (.tmp 17) (.tmp 28) 60 (by rfl) w.heap.size 50 i0 _ 1 24 Tryd.underlying60 hi hz0 hz1 hz2 (by rfl) (by decide) _ k _ (by rfl) ((own_below HO.out HB4.out).alloc _) _ 1 [.slice zo Z.length zc] (by rfl) (one_row _ _ _ _ (by simp)) (by simp [Value.oneCell']) (by unfold maxLen; omega) (by omega) (by have := HB.out.size; have := HB4.out.size; simp; omega) ?_; intro v2 w2 hown2 hgrow2 hat2; have HO5 : Hid (w2.ownsRow w.heap.size 50 1 v2 (k + 1) (vs ++ [.slice zo Z.length zc])) := hown2; have HB5 : Hid (Below w.heap.size w w2) := ((HB.out.trans (HB4.out.mono HB.out.size)).alloc (by have := HB.out.size; have := HB4.out.size; omega) _).grown hgrow2 (by have := HB.out.size; have := HB4.out.size; simp; omega) (own_base HO.out); have HH5 : Hid (Held w2 v2 (vs ++ [.slice zo Z.length zc]) (H ++ [Z])) := held_append ((HH.out.below HB4.out).below ((Below.refl _ _).alloc (Nat.le_refl _) _)) hgrow2 hat2 (HK4.out.below ((Below.refl _ _).alloc (Nat.le_refl _) _)) HD4.out; clear hown2 hgrow2 hat2))
        | ((go_at_call 38; refine (merge_own X Y _ _ _ ((HX.out.below HB.out).below (Below.refl _ _).drew) ((HY.out.below HB.out).below (Below.refl _ _).drew) HSX.out HSY.out HXY.out).mono ?_; rintro e w4 ⟨vb, rfl, ho4, hb4⟩; rw [HZ.out] at ho4; have hk4 : IsKeys w4 vb Z := isKeys_own ho4 rfl (by have := HLen.out; omega) HIN.out; obtain ⟨zo, zc, rfl⟩ := hk4.shape; have HK4 : Hid (IsKeys w4 (.slice zo Z.length zc) Z) := hk4; have HD4 : Hid (Z ≠ [] → blk (.slice zo Z.length zc) ≠ u3.ownBlock) := (fun hne h => by obtain ⟨q, hq, _⟩ := hk4.blk_lt hne; have h1 := own_blk ho4 q hq; have h2 := HU.out q (by rw [← h, hq]); simp at h1; omega); have HB4 : Hid (Below wr.heap.size wr w4) := (Below.refl _ _).drew.trans hb4; clear ho4 hb4 hk4)))
      go_wp2
      go_roundw
      case rel => exact ⟨k + 1, m + 2, H ++ [Z], vs ++ [.slice zo Z.length zc], by have := HM.out; omega, by have := HM1.out; omega, by go_num, HP1.out, HH5.out, HO5.out, HB5.out⟩
      case measure => simp [intOf]; omega
    · by_cases hodd : m = R.length
      · have j6 : (R.length : Int).tmod 2 = 0 := by
          rw [Int.tmod_eq_emod_of_nonneg (by omega)]
          have := HM.out; omega
        have HMR : Hid (m = R.length) := hodd
        go_wp2
        go_ret
        have h1 := HM.out
        have h2 := HMR.out
        exact ⟨_, vs, H, rfl, held_rows HH.out (by rw [HP.out.1]; exact isRow_own HO.out), HP.out.2.1, paired_even HP.out (by omega), by rw [HP.out.1]; omega, HB.out⟩
      · have hRl : R.length = m + 1 := by omega
        have j6 : (R.length : Int).tmod 2 = 1 := by
          rw [Int.tmod_eq_emod_of_nonneg (by omega)]
          have := HM.out; omega
        have HRl : Hid (R.length = m + 1) := hRl
        obtain ⟨b, off, rfl, hblw, e1⟩ := HV.out.at m (by omega)
        have hX := HV.out.2.2 m (by omega)
        have hsX : SortedK (R.getD m []) := HS.out _ (by rw [rgetD _ (by omega)]; exact List.getElem_mem _)
        have HPe : Hid ((H ++ [R.getD m []]).flatten.Perm R.flatten) := by
          show List.Perm _ _
          have h1 := HM.out
          rw [h1]; exact paired_odd HP.out (by omega)
        generalize R.getD m [] = X at hX hsX HPe
        generalize us.getD m nilV = a1 at e1 hX
        obtain ⟨xo, xc, rfl⟩ := hX.shape
        have d1 : wr.cell? ⟨b, off + m, none⟩ = some (.slice xo X.length xc) := (HB.out.cell (p := ⟨b, off + m, none⟩) hblw).trans e1
        have hbl : b < wr.heap.size := Nat.lt_of_lt_of_le hblw HB.out.size
        have HX : Hid (IsKeys w (.slice xo X.length xc) X) := hX
        have HSX : Hid (SortedK X) := hsX
        have HD : Hid (X ≠ [] → blk (.slice xo X.length xc) ≠ u3.ownBlock) := fun hne h => by
          obtain ⟨q, hq, hlq⟩ := HX.out.blk_lt hne
          have := own_base HO.out q (by rw [← h, hq])
          omega
        have n1 : m < R.length := by omega
        have j1 : (R.length : Int) - 1 = (m : Int) := by omega
        have j2 : (m : Int) < (R.length : Int) := by omega
        have j3 : (0 : Int) ≤ (m : Int) := by omega
        clear hRl hX hsX e1 hblw hodd
        go_wp2_with (at_builtin; refine wpList_append_row rfl (.tmp 34) (.tmp 41) 60 rfl w.heap.size 50 i0 _ 1 24 Tryd.underlying60 hi hz0 hz1 hz2 rfl (by decide) _ k _ rfl (HO.out.alloc _) _ 1 [.slice xo X.length xc] rfl (one_row _ _ _ _ (by simp)) (by simp [Value.oneCell']) (by unfold maxLen; omega) (by omega) (by have := HB.out.size; simp; omega) ?_)
        intro v' w1 hown hgrow hat
        have HO1 : Hid (w1.ownsRow w.heap.size 50 1 v' (k + 1) (vs ++ [.slice xo X.length xc])) := hown
        have HB1 : Hid (Below w.heap.size w w1) := (HB.out.alloc HB.out.size _).grown hgrow (by have := HB.out.size; simp; omega) (own_base HO.out)
        have HH1 : Hid (Held w1 v' (vs ++ [.slice xo X.length xc]) (H ++ [X])) := held_append (HH.out.below ((Below.refl _ _).alloc (Nat.le_refl _) _)) hgrow (by simpa using hat) ((HX.out.below HB.out).below ((Below.refl _ _).alloc (Nat.le_refl _) _)) HD.out
        clear hown hgrow hat
        go_wp2
        go_ret
        have h1 := HM.out
        have h2 := HRl.out
        refine ⟨v', vs ++ [.slice xo X.length xc], H ++ [X], rfl, held_rows HH1.out (by rw [List.length_append, HP.out.1]; exact isRow_own HO1.out), fun r hr => ?_, HPe.out, by rw [List.length_append, HP.out.1]; simp; omega, HB1.out⟩
        rcases List.mem_append.1 hr with h | h
        · exact HP.out.2.1 r h
        · rw [List.mem_singleton] at h; rw [h]; exact HSX.out

set_option maxRecDepth 100000 in
set_option maxHeartbeats 2000000 in
theorem sort_any (ks : List (Int × Int)) (v : Value) (w : World) (hv : IsKeys w v ks) (hlen : ks.length ≤ 1000000) :
    Calls Tryd.prog 23 #[v] w fun e w' => ∃ v', e = .returned v' ∧ IsKeys w' v' (sortV ks) ∧ Below w.heap.size w w' := by
  obtain ⟨ao, c1, rfl⟩ := hv.shape
  have HV : Hid (IsKeys w (.slice ao ks.length c1) ks) := hv
  clear hv
  go_enter Tryd.func23, Tryd.ntmps23
  go_wp2_with fail
  refine (clone_any ks _ _ HV.out hlen).mono ?_
  rintro e w1 ⟨v1, rfl, hk1, hb1⟩
  have HK1 : Hid (IsKeys w1 v1 ks) := hk1
  have HB1 : Hid (Below w.heap.size w w1) := hb1
  clear hk1 hb1
  go_wp2_with fail
  refine (runs_any ks _ _ HK1.out hlen).mono ?_
  rintro e w2 ⟨v2, vs2, R2, rfl, hr2, hs2, hf2, hne2, hl2, hb2⟩
  have HR2 : Hid (IsRows w2 v2 vs2 R2) := hr2
  have HS2 : Hid (∀ r ∈ R2, SortedK r) := hs2
  have HF2 : Hid (R2.flatten = ks) := hf2
  have HN2 : Hid (R2 ≠ []) := hne2
  have HL2 : Hid (R2.length ≤ ks.length + 1) := hl2
  have HB2 : Hid (Below w.heap.size w w2) := HB1.out.trans (hb2.mono HB1.out.size)
  clear hr2 hs2 hf2 hne2 hl2 hb2 HK1 HB1
  go_wp2
  go_loopg [3] (R2.length) (fun gk s3 wr => ∃ (R : List Row) (vs : List Value), R.length ≤ gk ∧ R.length ≤ 1000001 ∧ 0 < R.length ∧ IsRows wr s3 vs R ∧ (∀ r ∈ R, SortedK r) ∧ R.flatten.Perm ks ∧ Below w.heap.size w wr)
  case atStart => exact ⟨R2, vs2, Nat.le_refl _, by have := HL2.out; omega, List.length_pos_iff.2 HN2.out, HR2.out, HS2.out, by rw [HF2.out], HB2.out⟩
  case round =>
    obtain ⟨R, vs, hg, hl, hpos, hr, hs, hf, hb⟩ := hrel
    have HR : Hid (IsRows wr u3 vs R) := hr
    have HS : Hid (∀ r ∈ R, SortedK r) := hs
    have HF : Hid (R.flatten.Perm ks) := hf
    have HB : Hid (Below w.heap.size w wr) := hb
    obtain ⟨ro, rc, rfl⟩ := hr.shape
    clear hr hs hf hb
    by_cases h1 : 1 < R.length
    · have j1 : (1 : Int) < (R.length : Int) := by omega
      go_wp2_with fail
      refine (pairs_any R vs _ _ HR.out HS.out (by rw [HF.out.length_eq]; exact hlen) hl).mono ?_
      rintro e w3 ⟨v3, vs3, H, rfl, hr3, hs3, hf3, hl3, hb3⟩
      have HR3 : Hid (IsRows w3 v3 vs3 H) := hr3
      have HS3 : Hid (∀ r ∈ H, SortedK r) := hs3
      have HF3 : Hid (H.flatten.Perm ks) := hf3.trans HF.out
      have HB3 : Hid (Below w.heap.size w w3) := HB.out.trans (hb3.mono HB.out.size)
      have HL3 : Hid (H.length = (R.length + 1) / 2) := hl3
      clear hr3 hs3 hf3 hl3 hb3
      go_wp2
      go_roundg (H.length)
      case measure => have := HL3.out; omega
      case rel => exact ⟨H, vs3, Nat.le_refl _, by have := HL3.out; omega, by have := HL3.out; omega, HR3.out, HS3.out, HF3.out, HB3.out⟩
    · have j1 : ¬ (1 : Int) < (R.length : Int) := by omega
      have n0 : R.length = 1 := by omega
      obtain ⟨r, hRr⟩ : ∃ r, R = [r] := by
        match R, n0 with
        | [r], _ => exact ⟨r, rfl⟩
      subst hRr
      obtain ⟨b, off, rfl, hbl, e1⟩ := HR.out.at 0 hpos
      have hX := HR.out.2.2 0 hpos
      have hsX := HS.out r (by simp)
      have hpX : r.Perm ks := by simpa using HF.out
      have HX : Hid (r = sortV ks) := sortV_unique hpX hsX
      generalize vs.getD 0 nilV = a1 at e1 hX
      have hX' : IsKeys wr a1 r := hX
      obtain ⟨xo, xc, rfl⟩ := hX'.shape
      have HK : Hid (IsKeys wr (.slice xo r.length xc) r) := hX'
      simp only [Nat.add_zero] at e1
      clear hX hX' hsX hpX n0
      go_wp2
      go_ret
      exact ⟨_, rfl, by rw [← HX.out]; exact HK.out, HB.out⟩

end Go.Proofs.YtomhmndpjkfppaaDoor

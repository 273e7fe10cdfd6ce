/-
  The reference's answers to chapter 8: AddHost.
-/
import Derived.Test.YtcafjjfaamjipaaRefAdd
import Derived.Deep.CutRange
namespace Go.Proofs.Ytcafjjfaamjipaa
open Go.RowKit

theorem OwnHosts.lt {w : World} {base hT pT : Nat} {v : Value} {vs : List Value} {hs : List HostT} (h : OwnHosts w base hT pT v vs hs) : some w.heap.size ≠ v.ownBlock := by
  intro e
  rcases h.row.2 with ⟨rfl, _⟩ | ⟨g, cap, cur, rfl, _, h3, _⟩
  · simp [Value.ownBlock] at e
  · simp only [Value.ownBlock, Option.some.injEq] at e
    have := (Array.getElem?_eq_some_iff.1 h3).1
    omega
theorem OwnHosts.from {w : World} {base base' hT pT : Nat} {v : Value} {vs : List Value} {hs : List HostT} (h : OwnHosts w base hT pT v vs hs) (hb : base' ≤ base) : OwnHosts w base' hT pT v vs hs :=
  ⟨h.same, own_from h.row hb, fun i hi => own_from (h.tags i hi) hb⟩
/-- What AddHost tells. -/
def addR (hs : List HostT) (h : HostT) : List HostT × Int :=
  if mayTab hs && mayHost h then (if 0 ≤ findH hs h.id then ([], 3) else if 64 ≤ hs.length then ([], 6) else (moreH hs h, 0)) else ([], 1)

set_option maxRecDepth 100000 in
set_option maxHeartbeats 8000000 in
theorem rAdd_any (hs : List HostT) (h : HostT) (mv v : Value) (vs : List Value) (w : World) (hv : IsHosts w v vs hs) (oh : okHost h) (hm : IsPairs w mv h.tags) :
    Calls Try.prog 12 #[v, hval h mv] w fun e w' => Listed w (addR hs h) e w' ∧ Below w.heap.size w w' := by
  obtain ⟨ao, cap, rfl⟩ := hv.shaped
  obtain ⟨mo, mc, rfl⟩ := hm.shaped
  have hlen := hv.len
  have HV : Hid (IsHosts w (.slice ao hs.length cap) vs hs) := hv
  have HM0 : Hid (IsPairs w (.slice mo h.tags.length mc) h.tags) := hm
  have KM := fun W q => rMayTable_any hs (.slice ao hs.length cap) vs W q
  have KF := fun W q => rFind_any hs h.id (.slice ao hs.length cap) vs W q
  have KH := fun W q => rMayHost_any h (.slice mo h.tags.length mc) W oh q
  clear hv hm
  obtain ⟨i0, hi, hz0, hz1, hz2⟩ := info_of infoHost
  obtain ⟨R, hR⟩ : ∃ R, addR hs h = R := ⟨_, rfl⟩
  rw [hR]
  have HR : Hid (addR hs h = R) := hR
  clear hR
  go_enter Try.func12, Try.ntmps12
  go_wp2_with fail
  refine (KM _ (HV.out.below ((Below.refl _ _).alloc (Nat.le_refl _) _))).mono ?_
  rintro e w1 ⟨rfl, hb⟩
  have HX1 : Hid (HasBox w1 w.heap.size 25 (hcells h (.slice mo h.tags.length mc))) := (hasBox_new w _ _).below hb
  have HB1 : Hid (Below w.heap.size w w1) := ((Below.refl _ _).alloc (Nat.le_refl _) _).trans (hb.mono (by simp))
  clear hb KM
  cases hm : mayTab hs with
  | false =>
    have HF : Hid (R = ([], 1)) := by show R = _; rw [← HR.out]; unfold addR; rw [hm]; rfl
    go_wp2
    go_ret2
    exact ⟨by rw [HF.out]; exact listed_no (by decide), HB1.out⟩
  | true =>
    have h64 : hs.length ≤ 64 := mayTab_le hm
    have HMay : Hid (∀ i, i < hs.length → mayHost (hs.getD i noHost) = true) := mayTab_at hm
    have HMb : Hid (mayTab hs = true) := hm
    clear hm
    go_wp2_with (first | (refine wpList_load_box rfl 25 (.tmp 3) rfl (w.heap.size) rfl 25 _ _ HX1.out Try.underlying25 rfl sizeHost ?_) | fail)
    refine (KH _ (HM0.out.below HB1.out)).mono ?_
    rintro e w2 ⟨rfl, hb⟩
    have HX2 : Hid (HasBox w2 w.heap.size 25 (hcells h (.slice mo h.tags.length mc))) := HX1.out.below hb
    have HB2 : Hid (Below w.heap.size w w2) := HB1.out.trans (hb.mono HB1.out.size)
    clear hb KH HX1 HB1
    cases hmh : mayHost h with
    | false =>
      have HF : Hid (R = ([], 1)) := by show R = _; rw [← HR.out]; unfold addR; rw [HMb.out, hmh]; rfl
      go_wp2
      go_ret2
      exact ⟨by rw [HF.out]; exact listed_no (by decide), HB2.out⟩
    | true =>
      have h6h : h.tags.length ≤ 6 := mayHost_tags hmh
      have HMh : Hid (mayHost h = true) := hmh
      have ch : w2.cell? ⟨w.heap.size, 0, none⟩ = some (.int .i64 h.id) := HX2.out.cell 0
      clear hmh
      go_wp2_with fail
      refine (KF _ (HV.out.below HB2.out)).mono ?_
      rintro e w3 ⟨rfl, hb⟩
      have HX3 : Hid (HasBox w3 w.heap.size 25 (hcells h (.slice mo h.tags.length mc))) := HX2.out.below hb
      have HBw0 : Hid (Below w.heap.size w w3) := HB2.out.trans (hb.mono HB2.out.size)
      clear hb KF HX2 HB2 ch
      by_cases hf : 0 ≤ findH hs h.id
      · have HF : Hid (R = ([], 3)) := by show R = _; rw [← HR.out]; unfold addR; rw [HMb.out, HMh.out, Bool.and_self, if_pos rfl, if_pos hf]
        go_wp2
        go_ret2
        exact ⟨by rw [HF.out]; exact listed_no (by decide), HBw0.out⟩
      by_cases hful : 64 ≤ hs.length
      · have HF : Hid (R = ([], 6)) := by show R = _; rw [← HR.out]; unfold addR; rw [HMb.out, HMh.out, Bool.and_self, if_pos rfl, if_neg hf, if_pos hful]
        have hful' : (64 : Int) ≤ (hs.length : Int) := by omega
        go_wp2
        go_ret2
        exact ⟨by rw [HF.out]; exact listed_no (by decide), HBw0.out⟩
      have HF : Hid (R = (moreH hs h, 0)) := by show R = _; rw [← HR.out]; unfold addR; rw [HMb.out, HMh.out, Bool.and_self, if_pos rfl, if_neg hf, if_neg hful]
      have hful' : ¬ (64 : Int) ≤ (hs.length : Int) := by omega
      clear HR HMb HMh
      go_wp2
      go_loopw [6, 7, 31] (fun o d i wr => ∃ (k : Nat) (vs' : List Value) (cl : List HostT) (dn : Bool), k ≤ hs.length ∧ i = .int .i64 k ∧ d = .bool dn ∧ MoreTo hs h k dn cl ∧ OwnHosts wr w3.heap.size 25 48 o vs' cl ∧ Below w3.heap.size w3 wr) (fun _ _ i _ => hs.length - (intOf i).toNat)
      case atStart => exact ⟨0, [], [], false, Nat.zero_le _, rfl, rfl, moreTo_zero hs h, ownHosts_nil w3 w3.heap.size 25 48, Below.refl _ _⟩
      case round =>
        obtain ⟨k, vs', cl, dn, hk, rfl, rfl, hto, ho, hb⟩ := hrel
        obtain ⟨oo, oc, ho6⟩ := (isRow_own ho.row).shaped
        have hcl : cl.length ≤ 66 := moreTo_len h64 hto
        have HTo : Hid (MoreTo hs h k dn cl) := hto
        have HO : Hid (OwnHosts wr w3.heap.size 25 48 u6 vs' cl) := ho
        have HB : Hid (Below w3.heap.size w3 wr) := hb
        have HXhr : Hid (HasBox wr w.heap.size 25 (hcells h (.slice mo h.tags.length mc))) := HX3.out.below hb
        clear ho hb hto
        subst ho6
        by_cases hlt : k < hs.length
        · obtain ⟨ta, tc, htv⟩ := (HV.out.tags k hlt).shaped
          have htg := HV.out.tags k hlt
          have hx := HV.out.below (HBw0.out.trans (HB.out.mono HBw0.out.size))
          obtain ⟨b, off, rfl, hbl, c0, c1, c2, c3, c4, c5⟩ := hx.at k hlt
          rw [htv] at c5 htg
          have HTg : Hid (IsPairs w (.slice ta (hs.getD k noHost).tags.length tc) (hs.getD k noHost).tags) := htg
          have h6 : (hs.getD k noHost).tags.length ≤ 6 := mayHost_tags (HMay.out k hlt)
          have HD : Hid (∀ out, MoreTo hs h k true out → MoreTo hs h (k + 1) true (out ++ [hs.getD k noHost])) := fun out => moreTo_done hlt
          have HN : Hid (MoreTo hs h k false cl → h.id < (hs.getD k noHost).id → MoreTo hs h (k + 1) true ((cl ++ [h]) ++ [hs.getD k noHost])) := moreTo_now hlt
          have HO' : Hid (MoreTo hs h k false cl → ¬ h.id < (hs.getD k noHost).id → MoreTo hs h (k + 1) false (cl ++ [hs.getD k noHost])) := moreTo_not hlt
          generalize hs.getD k noHost = x at c0 c1 c2 c3 c4 c5 HTg h6 HD HN HO'
          clear hx htv htg
          go_upto_region 12 with fail
          generalize hW1 : wr.alloc _ = W1
          have HXb1 : Hid (HasBox W1 wr.heap.size 25 (hcells x (.slice ta x.tags.length tc))) := by show HasBox _ _ _ _; rw [← hW1]; exact hasBox_new wr _ _
          have HXh1 : Hid (HasBox W1 w.heap.size 25 (hcells h (.slice mo h.tags.length mc))) := by show HasBox _ _ _ _; rw [← hW1]; exact HXhr.out.alloc _
          have HO1 : Hid (OwnHosts W1 w3.heap.size 25 48 (.slice oo cl.length oc) vs' cl) := by show OwnHosts _ _ _ _ _ _ _; rw [← hW1]; exact HO.out.below ((Below.refl _ _).alloc (Nat.le_refl _) _)
          have HB1 : Hid (Below w3.heap.size w3 W1) := by show Below _ _ _; rw [← hW1]; exact HB.out.alloc HB.out.size _
          have HNeX : Hid (some wr.heap.size ≠ (Value.slice oo cl.length oc).ownBlock) := HO.out.lt
          have cx : W1.cell? ⟨wr.heap.size, 0, none⟩ = some (.int .i64 x.id) := HXb1.out.cell 0
          have ch : W1.cell? ⟨w.heap.size, 0, none⟩ = some (.int .i64 h.id) := HXh1.out.cell 0
          clear hW1 c0 c1 c2 c3 c4 c5 HO HXhr hbl
          cases dn with
          | true =>
            have HF2 : Hid (MoreTo hs h (k + 1) true (cl ++ [x])) := HD.out cl HTo.out
            clear HD HN HO' HTo
            go_wp2_with (first | (refine wpList_load_box rfl 25 (.tmp 9) rfl (wr.heap.size) rfl 25 _ _ HXb1.out Try.underlying25 rfl sizeHost ?_) | fail)
            refine (rCopy_any x (.slice ta x.tags.length tc) _ (HTg.out.below (HBw0.out.trans (HB1.out.mono HBw0.out.size))) (by show _ ≤ 4398046510976; omega)).mono ?_
            rintro e wc1 ⟨uv, rfl, hown, hb⟩
            obtain ⟨uo1, uc1, rfl⟩ := (isRow_own hown).shaped
            have HBc1 : Hid (Below W1.heap.size W1 wc1) := hb
            have HU1 : Hid (wc1.ownsRow W1.heap.size 48 2 (.slice uo1 x.tags.length uc1) x.tags.length (pairCells x.tags)) := hown
            clear hown hb
            have HOc := fun o => (HO1.out.below HBc1.out).below ((Below.refl wc1.heap.size wc1).alloc (Nat.le_refl _) o)
            go_wp2_with (at_builtin; refine wpList_append_row rfl (.tmp 49) (.tmp 52) 22 rfl w3.heap.size 25 i0 _ 6 80 Try.underlying22 hi hz0 hz1 hz2 rfl (by decide) _ (cl).length _ rfl (HOc _).row _ 1 (hcells x (.slice uo1 x.tags.length uc1)).toList rfl (host_row wc1 x _ _ _ rfl) (host_row_one _ _ _ _) (by unfold maxLen; omega) (by omega) (by have := HB1.out.size; have := HBc1.out.size; simp; omega) ?_)
            intro vo1 w51 hown hgrow hat
            obtain ⟨a1, a2, a3⟩ := after_app HB1.out HBc1.out HU1.out HO1.out hown hgrow
            have HA1 : Hid _ := And.intro a1 a2
            clear hown hgrow hat a1 a2 a3
            go_wp2
            go_roundw
            case rel => exact ⟨k + 1, _, _, true, by omega, by go_num, rfl, HF2.out, HA1.out.1, HA1.out.2⟩
            case measure => simp [intOf]; omega
          | false =>
            by_cases hlt2 : h.id < x.id
            · have HF2 : Hid (MoreTo hs h (k + 1) true ((cl ++ [h]) ++ [x])) := HN.out HTo.out hlt2
              clear HD HN HO' HTo
              go_wp2_with (first | (refine wpList_load_box rfl 25 (.tmp 3) rfl (w.heap.size) rfl 25 _ _ HXh1.out Try.underlying25 rfl sizeHost ?_) | fail)
              refine (rCopy_any h (.slice mo h.tags.length mc) _ (HM0.out.below (HBw0.out.trans (HB1.out.mono HBw0.out.size))) (by show _ ≤ 4398046510976; omega)).mono ?_
              rintro e wc1 ⟨uv, rfl, hown, hb⟩
              obtain ⟨uo1, uc1, rfl⟩ := (isRow_own hown).shaped
              have HBc1 : Hid (Below W1.heap.size W1 wc1) := hb
              have HU1 : Hid (wc1.ownsRow W1.heap.size 48 2 (.slice uo1 h.tags.length uc1) h.tags.length (pairCells h.tags)) := hown
              clear hown hb
              have HOc := fun o => (HO1.out.below HBc1.out).below ((Below.refl wc1.heap.size wc1).alloc (Nat.le_refl _) o)
              go_wp2_with (at_builtin; refine wpList_append_row rfl (.tmp 44) (.tmp 47) 22 rfl w3.heap.size 25 i0 _ 6 80 Try.underlying22 hi hz0 hz1 hz2 rfl (by decide) _ (cl).length _ rfl (HOc _).row _ 1 (hcells h (.slice uo1 h.tags.length uc1)).toList rfl (host_row wc1 h _ _ _ rfl) (host_row_one _ _ _ _) (by unfold maxLen; omega) (by omega) (by have := HB1.out.size; have := HBc1.out.size; simp; omega) ?_)
              intro vo1 w51 hown hgrow hat
              obtain ⟨a1, a2, a3⟩ := after_app HB1.out HBc1.out HU1.out HO1.out hown hgrow
              have HXb5 : Hid (HasBox w51 wr.heap.size 25 (hcells x (.slice ta x.tags.length tc))) := ((HXb1.out.below HBc1.out).alloc _).grown hgrow HNeX.out
              obtain ⟨po, pc, rfl⟩ := (isRow_own a1.row).shaped
              have HO5 : Hid (OwnHosts w51 w3.heap.size 25 48 (.slice po (cl ++ [h]).length pc) _ (cl ++ [h])) := a1
              have HB5 : Hid (Below w3.heap.size w3 w51) := a2
              clear hown hgrow hat a1 a2 a3 HOc
              simp only [List.length_append, List.length_cons, List.length_nil, Nat.zero_add] at HO5
              go_wp2_with (first | (refine wpList_load_box rfl 25 (.tmp 9) rfl (wr.heap.size) rfl 25 _ _ HXb5.out Try.underlying25 rfl sizeHost ?_) | fail)
              refine (rCopy_any x (.slice ta x.tags.length tc) _ (HTg.out.below (HBw0.out.trans (HB5.out.mono HBw0.out.size))) (by show _ ≤ 4398046510976; omega)).mono ?_
              rintro e wc2 ⟨uv, rfl, hown, hb⟩
              obtain ⟨uo2, uc2, rfl⟩ := (isRow_own hown).shaped
              have HBc2 : Hid (Below w51.heap.size w51 wc2) := hb
              have HU2 : Hid (wc2.ownsRow w51.heap.size 48 2 (.slice uo2 x.tags.length uc2) x.tags.length (pairCells x.tags)) := hown
              clear hown hb
              have HOc := fun o => (HO5.out.below HBc2.out).below ((Below.refl wc2.heap.size wc2).alloc (Nat.le_refl _) o)
              go_wp2_with (at_builtin; refine wpList_append_row rfl (.tmp 49) (.tmp 52) 22 rfl w3.heap.size 25 i0 _ 6 80 Try.underlying22 hi hz0 hz1 hz2 rfl (by decide) _ (cl ++ [h]).length _ rfl (HOc _).row _ 1 (hcells x (.slice uo2 x.tags.length uc2)).toList rfl (host_row wc2 x _ _ _ rfl) (host_row_one _ _ _ _) (by unfold maxLen; simp only [List.length_append, List.length_cons, List.length_nil]; omega) (by simp only [List.length_append, List.length_cons, List.length_nil]; omega) (by have := HB5.out.size; have := HBc2.out.size; simp; omega) ?_)
              intro vo2 w52 hown hgrow hat
              obtain ⟨a1, a2, a3⟩ := after_app HB5.out HBc2.out HU2.out HO5.out (by rw [List.length_append]; exact hown) hgrow
              have HA1 : Hid _ := And.intro a1 a2
              clear hown hgrow hat a1 a2 a3
              go_wp2
              go_roundw
              case rel => exact ⟨k + 1, _, _, true, by omega, by go_num, rfl, HF2.out, HA1.out.1, HA1.out.2⟩
              case measure => simp [intOf]; omega
            · have HF2 : Hid (MoreTo hs h (k + 1) false (cl ++ [x])) := HO'.out HTo.out hlt2
              clear HD HN HO' HTo
              go_wp2_with (first | (refine wpList_load_box rfl 25 (.tmp 9) rfl (wr.heap.size) rfl 25 _ _ HXb1.out Try.underlying25 rfl sizeHost ?_) | fail)
              refine (rCopy_any x (.slice ta x.tags.length tc) _ (HTg.out.below (HBw0.out.trans (HB1.out.mono HBw0.out.size))) (by show _ ≤ 4398046510976; omega)).mono ?_
              rintro e wc1 ⟨uv, rfl, hown, hb⟩
              obtain ⟨uo1, uc1, rfl⟩ := (isRow_own hown).shaped
              have HBc1 : Hid (Below W1.heap.size W1 wc1) := hb
              have HU1 : Hid (wc1.ownsRow W1.heap.size 48 2 (.slice uo1 x.tags.length uc1) x.tags.length (pairCells x.tags)) := hown
              clear hown hb
              have HOc := fun o => (HO1.out.below HBc1.out).below ((Below.refl wc1.heap.size wc1).alloc (Nat.le_refl _) o)
              go_wp2_with (at_builtin; refine wpList_append_row rfl (.tmp 49) (.tmp 52) 22 rfl w3.heap.size 25 i0 _ 6 80 Try.underlying22 hi hz0 hz1 hz2 rfl (by decide) _ (cl).length _ rfl (HOc _).row _ 1 (hcells x (.slice uo1 x.tags.length uc1)).toList rfl (host_row wc1 x _ _ _ rfl) (host_row_one _ _ _ _) (by unfold maxLen; omega) (by omega) (by have := HB1.out.size; have := HBc1.out.size; simp; omega) ?_)
              intro vo1 w51 hown hgrow hat
              obtain ⟨a1, a2, a3⟩ := after_app HB1.out HBc1.out HU1.out HO1.out hown hgrow
              have HA1 : Hid _ := And.intro a1 a2
              clear hown hgrow hat a1 a2 a3
              go_wp2
              go_roundw
              case rel => exact ⟨k + 1, _, _, false, by omega, by go_num, rfl, HF2.out, HA1.out.1, HA1.out.2⟩
              case measure => simp [intOf]; omega
        · have hend := moreTo_end (show hs.length ≤ k by omega) HTo.out
          cases dn with
          | true =>
            have HE : Hid (R = (cl, 0)) := by show _ = _; rw [HF.out, hend]; rfl
            clear hend
            go_wp2
            go_ret2
            exact ⟨by rw [HE.out]; exact listed_yes (HO.out.from HBw0.out.size), HBw0.out.trans (HB.out.mono HBw0.out.size)⟩
          | false =>
            have HE : Hid (R = (cl ++ [h], 0)) := by show _ = _; rw [HF.out, hend]; rfl
            clear hend
            go_wp2_with (first | (refine wpList_load_box rfl 25 (.tmp 3) rfl (w.heap.size) rfl 25 _ _ HXhr.out Try.underlying25 rfl sizeHost ?_) | fail)
            refine (rCopy_any h (.slice mo h.tags.length mc) _ (HM0.out.below (HBw0.out.trans (HB.out.mono HBw0.out.size))) (by show _ ≤ 4398046510976; omega)).mono ?_
            rintro e wc1 ⟨uv, rfl, hown, hb⟩
            obtain ⟨uo1, uc1, rfl⟩ := (isRow_own hown).shaped
            have HBc1 : Hid (Below wr.heap.size wr wc1) := hb
            have HU1 : Hid (wc1.ownsRow wr.heap.size 48 2 (.slice uo1 h.tags.length uc1) h.tags.length (pairCells h.tags)) := hown
            clear hown hb
            have HOc := fun o => (HO.out.below HBc1.out).below ((Below.refl wc1.heap.size wc1).alloc (Nat.le_refl _) o)
            go_wp2_with (at_builtin; refine wpList_append_row rfl (.tmp 57) (.tmp 60) 22 rfl w3.heap.size 25 i0 _ 6 80 Try.underlying22 hi hz0 hz1 hz2 rfl (by decide) _ (cl).length _ rfl (HOc _).row _ 1 (hcells h (.slice uo1 h.tags.length uc1)).toList rfl (host_row wc1 h _ _ _ rfl) (host_row_one _ _ _ _) (by unfold maxLen; omega) (by omega) (by have := HB.out.size; have := HBc1.out.size; simp; omega) ?_)
            intro vo1 w51 hown hgrow hat
            obtain ⟨a1, a2, a3⟩ := after_app HB.out HBc1.out HU1.out HO.out hown hgrow
            have HA1 : Hid _ := And.intro a1 a2
            clear hown hgrow hat a1 a2 a3
            go_wp2
            go_ret2
            exact ⟨by rw [HE.out]; exact listed_yes (HA1.out.1.from HBw0.out.size), HBw0.out.trans (HA1.out.2.mono HBw0.out.size)⟩

end Go.Proofs.Ytcafjjfaamjipaa

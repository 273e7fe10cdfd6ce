/-
  The reference's answers to chapter 8: a host less, a host more.
-/
import Derived.Test.YtcafjjfaamjipaaRefTable1
namespace Go.Proofs.Ytcafjjfaamjipaa
open Go.RowKit

theorem infoHost : (Try.prog.info? 25).map (fun i => (i.zero, i.size, i.bytes)) = some (some (hval noHost nilW), 6, 80) := by kernel_rfl
theorem pair_ne_host : (48 : Nat) ≠ 25 := by decide
theorem host_row (w : World) (x : HostT) (u : Value) (t g : Nat) (hg : g = w.heap.size) : IsRow 6 (w.alloc (.cells (hcells x u) t)) (.slice (some ⟨g, 0, none⟩) 1 1) 1 (hcells x u).toList := by
  subst hg
  exact IsRow.fresh w (hcells x u).toList 6 1 t 1 rfl (Nat.le_refl _) (by unfold maxLen; omega) (by omega)
theorem host_row_one (x : HostT) (ao : Option Addr) (n c : Nat) : ∀ u ∈ (hcells x (.slice ao n c)).toList, u.oneCell' = true := by
  intro u hu
  simp at hu
  rcases hu with rfl | rfl | rfl | rfl | rfl | rfl <;> rfl
theorem mayTab_le {hs : List HostT} (h : mayTab hs = true) : hs.length ≤ 64 := by
  unfold mayTab at h
  rw [Bool.and_eq_true, decide_eq_true_eq] at h
  exact h.2
theorem mayTab_at {hs : List HostT} (h : mayTab hs = true) (i : Nat) (hi : i < hs.length) : mayHost (hs.getD i noHost) = true := by
  unfold mayTab at h
  rw [Bool.and_eq_true, List.all_eq_true] at h
  have := h.1 i (List.mem_range.2 hi)
  unfold okAt at this
  rw [Bool.and_eq_true] at this
  exact this.1
theorem mayHost_tags {h : HostT} (hm : mayHost h = true) : h.tags.length ≤ 6 := by
  unfold mayHost mayPairs at hm
  simp only [Bool.and_eq_true, decide_eq_true_eq] at hm
  exact hm.1.2.1

/-- A list of the call's own and no error, or none and an error. -/
def Listed (w : World) (p : List HostT × Int) (e : Ending) (w' : World) : Prop :=
  (p.2 ≠ 0 ∧ e = .returned (.tuple #[nilW, .int .i64 p.2])) ∨ (p.2 = 0 ∧ ∃ v' vs', e = .returned (.tuple #[v', .int .i64 0]) ∧ OwnHosts w' w.heap.size 25 48 v' vs' p.1)
theorem listed_no {w w' : World} {l : List HostT} {k : Int} (hk : k ≠ 0) : Listed w (l, k) (.returned (.tuple #[nilW, .int .i64 k])) w' := .inl ⟨hk, rfl⟩
theorem listed_yes {w w' : World} {l : List HostT} {v' : Value} {vs' : List Value} (h : OwnHosts w' w.heap.size 25 48 v' vs' l) : Listed w (l, 0) (.returned (.tuple #[v', .int .i64 0])) w' := .inr ⟨rfl, v', vs', rfl, h⟩

def lessH (hs : List HostT) (id : Int) : List HostT := hs.filter fun h => h.id != id
theorem lessH_take {hs : List HostT} {id : Int} {k : Nat} (hk : k < hs.length) : lessH (hs.take (k + 1)) id = lessH (hs.take k) id ++ (if (hs.getD k noHost).id != id then [hs.getD k noHost] else []) := by
  unfold lessH
  rw [List.take_succ_eq_append_getElem hk, List.filter_append]
  have : hs.getD k noHost = hs[k] := by simp [hk]
  rw [this, List.filter_cons]
  split <;> simp_all
theorem lessH_length (hs : List HostT) (id : Int) : (lessH hs id).length ≤ hs.length := List.length_filter_le _ _

set_option maxRecDepth 100000 in
set_option maxHeartbeats 4000000 in
theorem rCut_any (hs : List HostT) (id : Int) (v : Value) (vs : List Value) (w : World) (hv : IsHosts w v vs hs) :
    Calls Try.prog 14 #[v, .int .i64 id] w fun e w' =>
      Listed w (if mayTab hs then (if findH hs id < 0 then (lessH hs id, 4) else (lessH hs id, 0)) else (lessH hs id, 1)) e w' ∧ Below w.heap.size w w' := by
  obtain ⟨ao, cap, rfl⟩ := hv.shaped
  have hlen := hv.len
  have HV : Hid (IsHosts w (.slice ao hs.length cap) vs hs) := hv
  have KM := fun W q => rMayTable_any hs (.slice ao hs.length cap) vs W q
  have KF := fun W q => rFind_any hs id (.slice ao hs.length cap) vs W q
  clear hv
  obtain ⟨i0, hi, hz0, hz1, hz2⟩ := info_of infoHost
  obtain ⟨R, hR⟩ : ∃ R, (if mayTab hs then (if findH hs id < 0 then (lessH hs id, (4 : Int)) else (lessH hs id, 0)) else (lessH hs id, 1)) = R := ⟨_, rfl⟩
  rw [hR]
  have HR : Hid _ := hR
  clear hR
  go_enter Try.func14, Try.ntmps14
  go_wp2_with fail
  refine (KM _ HV.out).mono ?_
  rintro e w1 ⟨rfl, hb⟩
  have HB1 : Hid (Below w.heap.size w w1) := hb
  clear hb KM
  cases hm : mayTab hs with
  | false =>
    go_wp2
    go_ret2
    exact ⟨by rw [← HR.out, if_neg (by rw [hm]; simp)]; exact listed_no (by decide), HB1.out⟩
  | true =>
    have h64 : hs.length ≤ 64 := mayTab_le hm
    have HMay : Hid (∀ i, i < hs.length → mayHost (hs.getD i noHost) = true) := mayTab_at hm
    have HMb : Hid (mayTab hs = true) := hm
    clear hm
    go_wp2_with fail
    refine (KF _ (HV.out.below HB1.out)).mono ?_
    rintro e w2 ⟨rfl, hb⟩
    have HB2 : Hid (Below w.heap.size w w2) := HB1.out.trans (hb.mono HB1.out.size)
    clear hb KF HB1
    by_cases hf : findH hs id < 0
    · go_wp2
      go_ret2
      exact ⟨by rw [← HR.out, if_pos HMb.out, if_pos hf]; exact listed_no (by decide), HB2.out⟩
    · go_wp2
      go_loopw [6, 18] (fun o i wr => ∃ (k : Nat) (vs' : List Value), k ≤ hs.length ∧ i = .int .i64 k ∧ OwnHosts wr w.heap.size 25 48 o vs' (lessH (hs.take k) id) ∧ Below w.heap.size w wr) (fun _ i _ => hs.length - (intOf i).toNat)
      case atStart => exact ⟨0, [], Nat.zero_le _, rfl, by simpa [lessH] using ownHosts_nil w2 w.heap.size 25 48, HB2.out⟩
      case round =>
        obtain ⟨k, vs', hk, rfl, ho, hb⟩ := hrel
        obtain ⟨oo, oc, ho6⟩ := (isRow_own ho.row).shaped
        have HO : Hid (OwnHosts wr w.heap.size 25 48 u6 vs' (lessH (hs.take k) id)) := ho
        have HB : Hid (Below w.heap.size w wr) := hb
        clear ho hb
        subst ho6
        by_cases hlt : k < hs.length
        · have hx := HV.out.below HB.out
          obtain ⟨b, off, rfl, hbl, c0, c1, c2, c3, c4, c5⟩ := hx.at k hlt
          obtain ⟨to, tc, htv⟩ := (hx.tags k hlt).shaped
          have htg := hx.tags k hlt
          rw [htv] at c5 htg
          have HTg : Hid (IsPairs wr (.slice to (hs.getD k noHost).tags.length tc) (hs.getD k noHost).tags) := htg
          have HNx : Hid (lessH (hs.take (k + 1)) id = lessH (hs.take k) id ++ (if (hs.getD k noHost).id != id then [hs.getD k noHost] else [])) := lessH_take hlt
          have h6 : (hs.getD k noHost).tags.length ≤ 6 := mayHost_tags (HMay.out k hlt)
          generalize hs.getD k noHost = x at c0 c1 c2 c3 c4 c5 HTg HNx h6
          have hcl : (lessH (hs.take k) id).length ≤ 64 := Nat.le_trans (lessH_length _ _) (by rw [List.length_take]; omega)
          clear hx htv htg
          generalize lessH (hs.take k) id = cl at HO HNx hcl
          by_cases he : x.id = id
          · have hb1 : (x.id != id) = false := by rw [bne_eq_false_iff_eq]; exact he
            have HF : Hid (lessH (hs.take (k + 1)) id = cl) := by show _ = _; rw [HNx.out, hb1]; simp
            clear HNx he
            go_wp2
            go_roundw
            case rel => exact ⟨k + 1, vs', by omega, by go_num, by rw [HF.out]; exact HO.out.below ((Below.refl _ _).alloc (Nat.le_refl _) _), HB.out.trans (((Below.refl _ _).alloc (Nat.le_refl _) _).mono HB.out.size)⟩
            case measure => simp [intOf]; omega
          · have hb1 : (x.id != id) = true := by rw [bne_iff_ne]; exact he
            have HF : Hid (lessH (hs.take (k + 1)) id = cl ++ [x]) := by show _ = _; rw [HNx.out, hb1]; simp
            clear HNx he
            have HC := fun W q => rCopy_any x (.slice to x.tags.length tc) W q (by show _ ≤ 4398046510976; omega)
            go_wp2_with (first | (refine wpList_load_box rfl 25 (.tmp 8) rfl wr.heap.size rfl 25 _ _ (hasBox_new wr _ _) Try.underlying25 rfl sizeHost ?_) | fail)
            refine (HC _ (HTg.out.below ((Below.refl _ _).alloc (Nat.le_refl _) _))).mono ?_
            rintro e w3 ⟨uv, rfl, hown, hb⟩
            obtain ⟨uo, uc, rfl⟩ := (isRow_own hown).shaped
            have HB3 : Hid (Below wr.heap.size wr w3) := ((Below.refl _ _).alloc (Nat.le_refl _) _).trans (hb.mono (by simp))
            have HU : Hid (w3.ownsRow w.heap.size 48 2 (.slice uo x.tags.length uc) x.tags.length (pairCells x.tags)) := own_from hown (by have := HB.out.size; simp; omega)
            have HO3 : Hid (OwnHosts w3 w.heap.size 25 48 (.slice oo cl.length oc) vs' cl) := HO.out.below HB3.out
            clear hown hb HC
            have HO4 := fun o => (HO3.out.below ((Below.refl _ _).alloc (Nat.le_refl _) o))
            go_wp2_with (at_builtin; refine wpList_append_row rfl (.tmp 26) (.tmp 29) 22 rfl w.heap.size 25 i0 _ 6 80 Try.underlying22 hi hz0 hz1 hz2 rfl (by decide) _ cl.length _ rfl (HO4 _).row _ 1 (hcells x (.slice uo x.tags.length uc)).toList rfl (host_row w3 x _ _ _ rfl) (host_row_one _ _ _ _) (by unfold maxLen; omega) (by omega) (by have := HB.out.size; have := HB3.out.size; simp; omega) ?_)
            intro v' w5 hown hgrow hat
            have HN5 : Hid (OwnHosts w5 w.heap.size 25 48 v' (vs' ++ [.slice uo x.tags.length uc]) (cl ++ [x])) := (HO4 _).snoc (HU.out.alloc _) pair_ne_host hown hgrow
            have HB5 : Hid (Below w.heap.size w w5) := ((HB.out.trans (HB3.out.mono HB.out.size)).alloc (by have := HB.out.size; have := HB3.out.size; omega) _).grown hgrow (by have := HB.out.size; have := HB3.out.size; simp; omega) HO3.out.blocks
            clear hown hgrow hat HO4
            go_wp2
            go_roundw
            case rel => exact ⟨k + 1, _, by omega, by go_num, by rw [HF.out]; exact HN5.out, HB5.out⟩
            case measure => simp [intOf]; omega
        · have hkl : Hid (lessH hs id = lessH (hs.take k) id) := by show _ = _; rw [List.take_of_length_le (by omega)]
          go_wp2
          go_ret2
          exact ⟨by rw [← HR.out, if_pos HMb.out, if_neg (by omega), hkl.out]; exact listed_yes HO.out, HB.out⟩

end Go.Proofs.Ytcafjjfaamjipaa

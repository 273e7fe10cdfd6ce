/-
  Contracts of package table: a copy of all hosts, in a row that is just full.
-/
import Derived.Test.YtcafjjfaamjipaaTableMay
import Derived.OwnWalk
namespace Go.Proofs.Ytcafjjfaamjipaa
open Go.RowKit

theorem box_cells (w : World) (cs : Array Value) (t g : Nat) (hg : g = w.heap.size) : ∀ j u, cs.toList[j]? = some u → (w.alloc (.cells cs t)).cell? ((⟨g, 0, none⟩ : Addr).add j) = some u := by
  subst hg
  intro j u hu
  have e : (⟨w.heap.size, 0, none⟩ : Addr).add j = ⟨w.heap.size, j, none⟩ := by unfold Addr.add; split <;> simp_all
  rw [e, World.cell?_alloc_at _ _ _ _ rfl]
  simpa using hu

set_option maxRecDepth 100000 in
set_option maxHeartbeats 4000000 in
theorem copied_any (hs : List HostT) (v : Value) (vs : List Value) (w : World) (hv : IsHosts w v vs hs) (h6 : ∀ i, i < hs.length → (hs.getD i noHost).tags.length ≤ 6) (h64 : hs.length ≤ 64) :
    Calls Try.prog 30 #[v] w fun e w' => ∃ vs', e = .returned (.slice (some ⟨w.heap.size, 0, none⟩) hs.length hs.length) ∧ OwnHosts w' w.heap.size 25 48 (.slice (some ⟨w.heap.size, 0, none⟩) hs.length hs.length) vs' hs ∧ Below w.heap.size w w' := by
  obtain ⟨ao, cap, rfl⟩ := hv.shaped
  obtain ⟨i0, hi, hz0, hz1, hz2⟩ := info_of infoHost
  have HV : Hid (IsHosts w (.slice ao hs.length cap) vs hs) := hv
  have H6 : Hid (∀ i, i < hs.length → (hs.getD i noHost).tags.length ≤ 6) := h6
  clear hv h6
  go_enter Try.func30, Try.ntmps30
  go_wp2_with (at_make; refine wpList_make_own _ rfl _ _ 22 rfl w.heap.size 25 i0 _ 6 Try.underlying22 hi hz0 hz1 _ _ _ hs.length rfl rfl (by omega) (by rw [hz2]; omega) (by unfold maxLen; omega) (Nat.le_refl _) ?_)
  intro w0 hown0 hgrow0
  have HO0 : Hid (OwnHosts w0 w.heap.size 25 48 (.slice (some ⟨w.heap.size, 0, none⟩) 0 hs.length) [] []) := ⟨rfl, hown0, fun i hi => by simp at hi⟩
  have HB0 : Hid (Below w.heap.size w w0) := (Below.refl _ _).grown hgrow0 (Nat.le_refl _) (fun _ h => by simp at h)
  clear hown0 hgrow0
  go_wp2
  go_loopw [3, 11] (fun o i wr => ∃ (k : Nat) (vs' : List Value), k ≤ hs.length ∧ i = .int .i64 k ∧ o = .slice (some ⟨w.heap.size, 0, none⟩) k hs.length ∧ OwnHosts wr w.heap.size 25 48 (.slice (some ⟨w.heap.size, 0, none⟩) k hs.length) vs' (hs.take k) ∧ Below w.heap.size w wr) (fun _ i _ => hs.length - (intOf i).toNat)
  case atStart => exact ⟨0, [], Nat.zero_le _, rfl, rfl, HO0.out, HB0.out⟩
  case round =>
    obtain ⟨k, vs', hk, rfl, rfl, ho, hb⟩ := hrel
    have HO : Hid (OwnHosts wr w.heap.size 25 48 (.slice (some ⟨w.heap.size, 0, none⟩) k hs.length) vs' (hs.take k)) := ho
    have HB : Hid (Below w.heap.size w wr) := hb
    clear ho hb
    by_cases hlt : k < hs.length
    · have hx := HV.out.below HB.out
      obtain ⟨b, off, rfl, hbl, c0, c1, c2, c3, c4, c5⟩ := hx.at k hlt
      obtain ⟨to, tc, htv⟩ := (hx.tags k hlt).shaped
      have htg := hx.tags k hlt
      rw [htv] at c5 htg
      have HTg : Hid (IsPairs wr (.slice to (hs.getD k noHost).tags.length tc) (hs.getD k noHost).tags) := htg
      have HN : Hid (hs.take (k + 1) = hs.take k ++ [hs.getD k noHost]) := by
        show _ = _
        rw [List.take_succ_eq_append_getElem hlt]
        simp [hlt]
      have h6 := H6.out k hlt
      have HL : Hid ((hs.take k).length = k) := by show _ = _; rw [List.length_take]; omega
      generalize hs.getD k noHost = x at c0 c1 c2 c3 c4 c5 HTg HN h6
      generalize hs.take k = cl at HO HN HL
      clear hx htv htg
      have HC := fun W q => copy_any x (.slice to x.tags.length tc) W q (by show _ ≤ 4398046510976; omega)
      go_wp2_with (first | (refine wpList_load_box rfl 25 (.tmp 5) rfl wr.heap.size rfl 25 _ _ (hasBox_new wr _ _) Try.underlying25 rfl sizeHost ?_) | fail)
      refine (HC _ (HTg.out.below ((Below.refl _ _).alloc (Nat.le_refl _) _))).mono ?_
      rintro e w3 ⟨uv, rfl, hown, hb⟩
      obtain ⟨uo, uc, rfl⟩ := (isRow_own hown).shaped
      have HB3 : Hid (Below wr.heap.size wr w3) := ((Below.refl _ _).alloc (Nat.le_refl _) _).trans (hb.mono (by simp))
      have HU : Hid (w3.ownsRow w.heap.size 48 2 (.slice uo x.tags.length uc) x.tags.length (pairCells x.tags)) := own_from hown (by have := HB.out.size; simp; omega)
      have HO3 : Hid (OwnHosts w3 w.heap.size 25 48 (.slice (some ⟨w.heap.size, 0, none⟩) k hs.length) vs' cl) := HO.out.below HB3.out
      clear hown hb HC
      have HO4 := fun o => (HO3.out.below ((Below.refl _ _).alloc (Nat.le_refl _) o))
      have hrow : ∀ o, (w3.alloc o).ownsRow w.heap.size 25 6 (.slice (some ⟨w.heap.size, 0, none⟩) k hs.length) k (hostCells cl vs') := fun o => by have := (HO4 o).row; rwa [HL.out] at this
      go_wp2_with (at_builtin; refine wpList_append_fits _ rfl (.tmp 15) (.tmp 18) 22 rfl w.heap.size 25 i0 6 Try.underlying22 hi hz1 w.heap.size k hs.length _ rfl (hrow _) ⟨w3.heap.size, 0, none⟩ 1 1 (hcells x (.slice uo x.tags.length uc)).toList rfl rfl (box_cells w3 _ _ _ rfl) (host_row_one _ _ _ _) (by omega) ?_)
      intro w5 hown hgrow
      have HN5 : Hid (OwnHosts w5 w.heap.size 25 48 (.slice (some ⟨w.heap.size, 0, none⟩) (k + 1) hs.length) (vs' ++ [.slice uo x.tags.length uc]) (cl ++ [x])) := (HO4 _).snoc (HU.out.alloc _) pair_ne_host (by rw [HL.out]; exact hown) hgrow
      have HB5 : Hid (Below w.heap.size w w5) := ((HB.out.trans (HB3.out.mono HB.out.size)).alloc (by have := HB.out.size; have := HB3.out.size; omega) _).grown hgrow (by have := HB.out.size; have := HB3.out.size; simp; omega) HO3.out.blocks
      clear hown hgrow HO4 hrow
      go_wp2
      go_roundw
      case rel => exact ⟨k + 1, _, by omega, by go_num, rfl, by rw [HN.out]; exact HN5.out, HB5.out⟩
      case measure => simp [intOf]; omega
    · obtain rfl : k = hs.length := by omega
      go_wp2
      go_ret
      have := HO.out
      rw [List.take_of_length_le (by omega)] at this
      exact ⟨_, rfl, this, HB.out⟩

end Go.Proofs.Ytcafjjfaamjipaa

/-
  Contracts of package table: keys, what may be a table, the place of a host.
-/
import Derived.Test.YtcafjjfaamjipaaHostsRow
import Derived.Test.YtcafjjfaamjipaaOrderFind
namespace Go.Proofs.Ytcafjjfaamjipaa
open Go.RowKit

abbrev keyH (h : HostT) : Int × Int := (h.id, 0)
def keysH (hs : List HostT) : List (Int × Int) := hs.map keyH
theorem keysH_take {hs : List HostT} {k : Nat} (hk : k < hs.length) : keyCells (keysH (hs.take (k + 1))) = keyCells (keysH (hs.take k)) ++ keyCells [keyH (hs.getD k noHost)] := by
  rw [← keyCells_append]
  unfold keysH
  rw [List.take_succ_eq_append_getElem hk, List.map_append]
  have : hs.getD k noHost = hs[k] := by simp [hk]
  rw [this]
  rfl
theorem keysH_at {hs : List HostT} {i : Nat} (hi : i < hs.length) : (keysH hs).getD i (0, 0) = keyH (hs.getD i noHost) := by simp [keysH, hi]

theorem sizeKey : (Try.prog.info? 54).map (·.size) = some 2 := by kernel_rfl

set_option maxHeartbeats 1000000 in
theorem key_any (h : HostT) (mv : Value) (w : World) :
    Calls Try.prog 28 #[hval h mv] w fun e w' => e = .returned (.agg #[.int .i64 h.id, .int .i64 0]) ∧ Below w.heap.size w w' := by
  go_enter Try.func28, Try.ntmps28
  go_wp2
  refine bodyPost_ret (results_cell_row rfl _ _ (w.heap.size + 1) 54 #[.int .i64 h.id, .int .i64 0] _ _ rfl (hasBox_new' (w.alloc _) _ _ _ (by simp)) Try.underlying54 rfl sizeKey) rfl ?_
  exact ⟨rfl, ((Below.refl _ _).alloc (Nat.le_refl _) _).alloc (by simp) _⟩

set_option maxRecDepth 100000 in
set_option maxHeartbeats 4000000 in
theorem keys_any (hs : List HostT) (v : Value) (vs : List Value) (w : World) (hv : IsHosts w v vs hs) (hid : ∀ i, i < hs.length → inK (keyH (hs.getD i noHost))) (hlen : hs.length ≤ 1000000) :
    Calls Try.prog 27 #[v] w fun e w' => ∃ v', e = .returned v' ∧ IsKeys w' v' (keysH hs) ∧ Below w.heap.size w w' := by
  obtain ⟨ao, cap, rfl⟩ := hv.shaped
  obtain ⟨i0, hi, hz0, hz1, hz2⟩ := info_of infoKey
  have HV : Hid (IsHosts w (.slice ao hs.length cap) vs hs) := hv
  have HI : Hid (∀ k ∈ keysH hs, inK k) := fun k hk => by
    obtain ⟨i, h1, rfl⟩ := List.mem_iff_getElem.1 hk
    have h2 : i < hs.length := by simpa [keysH] using h1
    have := hid i h2
    simpa [keysH, h2] using this
  clear hv hid
  go_enter Try.func27, Try.ntmps27
  go_wp2_with (at_make; refine wpList_make_own _ rfl _ _ 51 rfl w.heap.size 54 i0 _ 2 Try.underlying51 hi hz0 hz1 _ _ _ hs.length rfl rfl (by omega) (by rw [hz2]; omega) (by unfold maxLen; omega) (Nat.le_refl _) ?_)
  intro w0 hown0 hgrow0
  have HO0 : Hid (w0.ownsRow w.heap.size 54 2 (.slice (some ⟨w.heap.size, 0, none⟩) 0 hs.length) 0 []) := hown0
  have HB0 : Hid (Below w.heap.size w w0) := (Below.refl _ _).grown hgrow0 (Nat.le_refl _) (fun _ h => by simp at h)
  clear hown0 hgrow0
  go_wp2
  go_loopw [3, 11] (fun o i wr => ∃ k : Nat, k ≤ hs.length ∧ i = .int .i64 k ∧ wr.ownsRow w.heap.size 54 2 o k (keyCells (keysH (hs.take k))) ∧ Below w.heap.size w wr) (fun _ i _ => hs.length - (intOf i).toNat)
  case atStart => exact ⟨0, Nat.zero_le _, rfl, HO0.out, HB0.out⟩
  case round =>
    obtain ⟨k, hk, rfl, ho, hb⟩ := hrel
    obtain ⟨oo, oc, ho3⟩ := (isRow_own ho).shaped
    have HO : Hid (wr.ownsRow w.heap.size 54 2 u3 k (keyCells (keysH (hs.take k)))) := ho
    have HB : Hid (Below w.heap.size w wr) := hb
    clear ho hb
    subst ho3
    by_cases hlt : k < hs.length
    · have hx := HV.out.below HB.out
      obtain ⟨b, off, rfl, hbl, c0, c1, c2, c3, c4, c5⟩ := hx.at k hlt
      obtain ⟨to, tc, htv⟩ := (hx.tags k hlt).shaped
      rw [htv] at c5
      have HN : Hid (keyCells (keysH (hs.take (k + 1))) = keyCells (keysH (hs.take k)) ++ keyCells [keyH (hs.getD k noHost)]) := keysH_take hlt
      generalize hs.getD k noHost = x at c0 c1 c2 c3 c4 c5 HN
      clear hx htv
      go_wp2_with (first | (refine wpList_load_box rfl 25 (.tmp 5) rfl wr.heap.size rfl 25 _ _ (hasBox_new wr _ _) Try.underlying25 rfl sizeHost ?_) | fail)
      refine (key_any x _ _).mono ?_
      rintro e w3 ⟨rfl, hb⟩
      have HB3 : Hid (Below wr.heap.size wr w3) := ((Below.refl _ _).alloc (Nat.le_refl _) _).trans (hb.mono (by simp))
      have HO4 := fun o => own_below (own_below HO.out HB3.out) ((Below.refl w3.heap.size w3).alloc (Nat.le_refl _) o)
      clear hb
      go_wp2_with (at_builtin; refine wpList_append_row rfl (.tmp 15) (.tmp 18) 51 rfl w.heap.size 54 i0 _ 2 16 Try.underlying51 hi hz0 hz1 hz2 rfl (by decide) _ k _ rfl (HO4 _) _ 1 (keyCells [keyH x]) rfl (one_key w3 (keyH x) _ _ rfl) (keyCells_one _) (by unfold maxLen; omega) (by omega) (by have := HB.out.size; have := HB3.out.size; simp; omega) ?_)
      intro v' w5 hown hgrow hat
      have HO5 : Hid (w5.ownsRow w.heap.size 54 2 v' (k + 1) (keyCells (keysH (hs.take (k + 1))))) := by
        show World.ownsRow _ _ _ _ _ _ _
        rw [HN.out]; exact hown
      have HB5 : Hid (Below w.heap.size w w5) := ((HB.out.trans (HB3.out.mono HB.out.size)).alloc (by have := HB.out.size; have := HB3.out.size; omega) _).grown hgrow (by have := HB.out.size; have := HB3.out.size; simp; omega) (own_base HO.out)
      clear hown hgrow hat HO4
      go_wp2
      go_roundw
      case rel => exact ⟨k + 1, by omega, by go_num, HO5.out, HB5.out⟩
      case measure => simp [intOf]; omega
    · go_wp2
      go_ret
      refine ⟨_, rfl, ?_, HB.out⟩
      have := HO.out
      rw [List.take_of_length_le (by omega)] at this
      exact isKeys_own this (by simp [keysH]; omega) (by simp [keysH]; omega) HI.out

end Go.Proofs.Ytcafjjfaamjipaa

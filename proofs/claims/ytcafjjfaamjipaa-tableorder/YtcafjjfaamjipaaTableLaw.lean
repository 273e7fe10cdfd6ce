/-
  What the statements of stage 8 share: Light; rows of hosts laid down by the call.
-/
import Derived.Test.YtcafjjfaamjipaaHostLaw
import Derived.Test.YtcafjjfaamjipaaTableMay
namespace Go.Proofs.Ytcafjjfaamjipaa
open Go.RowKit

set_option maxHeartbeats 4000000 in
theorem light8_any (hs : List HostT) (v : Value) (vs : List Value) (w : World) (hv : IsHosts w v vs hs) :
    Calls Try.prog 8 #[v] w fun e w' => ∃ r : Int, bit01 r ∧ e = .returned (.int .i64 r) ∧ Below w.heap.size w w' := by
  obtain ⟨ao, cap, rfl⟩ := hv.shaped
  have hlen := hv.len
  have HV : Hid (IsHosts w (.slice ao hs.length cap) vs hs) := hv
  clear hv
  go_enter Try.func8, Try.ntmps8
  go_wp2
  go_loopw [7] (fun i wr => ∃ k : Nat, k ≤ hs.length ∧ i = .int .i64 k ∧ Below w.heap.size w wr) (fun i _ => hs.length - (intOf i).toNat)
  case atStart => exact ⟨0, Nat.zero_le _, rfl, Below.refl _ _⟩
  case round =>
    obtain ⟨k, hk, rfl, hb⟩ := hrel
    have HB : Hid (Below w.heap.size w wr) := hb
    clear hb
    by_cases hlt : k < hs.length
    · have hx := HV.out.below HB.out
      obtain ⟨b, off, rfl, hbl, c0, c1, c2, c3, c4, c5⟩ := hx.at k hlt
      obtain ⟨to, tc, htv⟩ := (hx.tags k hlt).shaped
      have htg := hx.tags k hlt
      rw [htv] at c5 htg
      generalize hs.getD k noHost = x at c0 c1 c2 c3 c4 c5 htg htv
      have HTg : Hid (IsPairs wr (.slice to x.tags.length tc) x.tags) := htg
      clear hx htv htg
      by_cases h80 : 80 < k
      · have h80' : (80 : Int) < (k : Int) := by omega
        go_wp2
        go_ret
        exact ⟨1, .inr rfl, rfl, HB.out.trans (((Below.refl _ _).alloc (Nat.le_refl _) _).mono HB.out.size)⟩
      · have h80' : ¬ (80 : Int) < (k : Int) := by omega
        go_wp2_with (first | (refine wpList_load_box rfl 25 (.tmp 4) rfl wr.heap.size rfl 25 _ _ (hasBox_new wr _ _) Try.underlying25 rfl sizeHost ?_) | fail)
        refine (light_any x _ _ (HTg.out.below ((Below.refl _ _).alloc (Nat.le_refl _) _))).mono ?_
        rintro e w3 ⟨r, hr, rfl, hb⟩
        have HB3 : Hid (Below w.heap.size w w3) := HB.out.trans ((((Below.refl _ _).alloc (Nat.le_refl _) _).trans (hb.mono (by simp))).mono HB.out.size)
        clear hb
        rcases hr with rfl | rfl
        · go_wp2
          go_roundw
          case rel => exact ⟨k + 1, by omega, by go_num, HB3.out⟩
          case measure => simp [intOf]; omega
        · go_wp2
          go_ret
          exact ⟨1, .inr rfl, rfl, HB3.out⟩
    · go_wp2
      go_ret
      exact ⟨0, .inl rfl, rfl, HB.out⟩

/-- Hosts without pairs, laid down by the call. -/
theorem hosts_lit (w : World) (hs : List HostT) (cs : Array Value) (t g : Nat) (hg : g = w.heap.size) (hc : cs.toList = hostCells hs (List.replicate hs.length nilW)) (hok : ∀ x ∈ hs, okHost x) (htg : ∀ x ∈ hs, x.tags = []) (h0 : 0 < hs.length) (hl : hs.length ≤ 1000000) :
    IsHosts (w.alloc (.cells cs t)) (.slice (some ⟨g, 0, none⟩) hs.length hs.length) (List.replicate hs.length nilW) hs := by
  subst hg
  have hlen : (hostCells hs (List.replicate hs.length nilW)).length = hs.length * 6 := hostCells_length _ _ (by simp)
  have hrow := IsRow.fresh w (hostCells hs (List.replicate hs.length nilW)) 6 hs.length t hs.length hlen (Nat.le_refl _) (by unfold maxLen; omega) h0
  rw [← hc, Array.toArray_toList] at hrow
  rw [← hc] at hlen
  refine ⟨by simp, fun i hi => ?_, ?_, fun i hi => ?_⟩
  · have : hs.getD i noHost = hs[i] := by simp [hi]
    rw [this]
    exact hok _ (List.getElem_mem hi)
  · rw [← hc]; exact hrow
  · have e1 : hs.getD i noHost = hs[i] := by simp [hi]
    have e2 : (List.replicate hs.length nilW).getD i nilW = nilW := by simp [hi]
    rw [e1, e2, htg _ (List.getElem_mem hi)]
    exact isPairs_nil _

end Go.Proofs.Ytcafjjfaamjipaa

/-
  What Light tells, as a number that hangs on the hosts alone.
-/
import Derived.Test.YtcafjjfaamjipaaTableLaw
namespace Go.Proofs.Ytcafjjfaamjipaa
open Go.RowKit

def lightT (h : HostT) (k : Nat) : Nat := h.addr.size + h.zone.size + ((h.tags.take k).map fun p => 1 + p.1.size + p.2.size).sum
def lightB (h : HostT) : Bool := decide ((600 : Int) < wrap64 (lightT h h.tags.length : Nat))
def bitI (b : Bool) : Int := if b then 1 else 0
theorem lightT_succ (h : HostT) (k : Nat) (hk : k < h.tags.length) : lightT h (k + 1) = lightT h k + (1 + (h.tags.getD k noP).1.size + (h.tags.getD k noP).2.size) := by
  unfold lightT
  rw [List.take_succ_eq_append_getElem hk, List.map_append, List.sum_append]
  have : h.tags.getD k noP = h.tags[k] := by simp [hk]
  rw [this]
  simp
  omega

theorem w3 (a b c d : Int) (h : d = a + (b + c)) : wrap64 (wrap64 a + wrap64 (wrap64 b + c)) = wrap64 d := by
  unfold wrap64
  omega

set_option maxHeartbeats 1000000 in
theorem lightb_any (h : HostT) (mv : Value) (w : World) (oh : okHost h) (hm : IsPairs w mv h.tags) :
    Calls Try.prog 9 #[hval h mv] w fun e w' => e = .returned (.int .i64 (bitI (lightB h))) ∧ Below w.heap.size w w' := by
  obtain ⟨ao, cap, rfl⟩ := hm.shaped
  have hlen := hm.len
  have HM : Hid (IsPairs w (.slice ao h.tags.length cap) h.tags) := hm
  have HO : Hid (okHost h) := oh
  clear hm oh
  go_enter Try.func9, Try.ntmps9
  go_wp2
  generalize hW0 : World.alloc w _ = W0
  have HB0 : Hid (Below w.heap.size w W0) := by rw [← hW0]; exact (Below.refl _ _).alloc (Nat.le_refl _) _
  clear hW0
  go_loopw [3, 16] (fun n i wr => ∃ (k : Nat), k ≤ h.tags.length ∧ i = .int .i64 k ∧ n = .int .i64 (wrap64 (lightT h k : Nat)) ∧ Below w.heap.size w wr) (fun _ i _ => h.tags.length - (intOf i).toNat)
  case atStart =>
    refine ⟨0, Nat.zero_le _, rfl, ?_, HB0.out⟩
    unfold lightT
    simp
  case round =>
    obtain ⟨k, hk, rfl, rfl, hb⟩ := hrel
    have HB : Hid (Below w.heap.size w wr) := hb
    clear hb
    by_cases hlt : k < h.tags.length
    · obtain ⟨b1, o1, rfl, hbl1, g1, g2⟩ := (HM.out.below HB.out).at k hlt
      have HS : Hid (lightT h (k + 1) = lightT h k + (1 + (h.tags.getD k noP).1.size + (h.tags.getD k noP).2.size)) := lightT_succ h k hlt
      generalize h.tags.getD k noP = pq at g1 g2 HS
      obtain ⟨y, z⟩ := pq
      simp only at g1 g2
      generalize lightT h k = T at HS
      obtain ⟨T2, hT2⟩ : ∃ T2, lightT h (k + 1) = T2 := ⟨_, rfl⟩
      rw [hT2] at HS
      have HT2 : Hid (lightT h (k + 1) = T2) := hT2
      clear hT2
      obtain ⟨X, hX⟩ : ∃ X, wrap64 (T : Nat) = X := ⟨_, rfl⟩
      rw [hX]
      have HX : Hid (wrap64 (T : Nat) = X) := hX
      clear hX
      go_wp2
      go_roundw
      case rel =>
        refine ⟨k + 1, by omega, by go_num, ?_, HB.out.trans (((Below.refl _ _).alloc (Nat.le_refl _) _).mono HB.out.size)⟩
        rw [HT2.out, ← HX.out]
        congr 1
        refine w3 _ _ _ _ ?_
        have hs := HS.out
        simp only at hs
        omega
      case measure => simp [intOf]; omega
    · have hk2 : k = h.tags.length := by omega
      subst hk2
      have HB2 : Hid (lightB h = decide ((600 : Int) < wrap64 (lightT h h.tags.length : Nat))) := rfl
      generalize wrap64 (lightT h h.tags.length : Nat) = X at HB2 ⊢
      by_cases h6 : 600 < X
      · have HV : Hid (bitI (lightB h) = 1) := by show _ = _; rw [HB2.out, decide_eq_true h6]; rfl
        go_wp2
        go_ret
        exact ⟨by rw [HV.out]; rfl, HB.out⟩
      · have HV : Hid (bitI (lightB h) = 0) := by show _ = _; rw [HB2.out, decide_eq_false h6]; rfl
        go_wp2
        go_ret
        exact ⟨by rw [HV.out]; rfl, HB.out⟩

def light8B (hs : List HostT) : Bool := (List.range hs.length).any fun i => decide (80 < i) || lightB (hs.getD i noHost)
theorem light8_hit {hs : List HostT} {k : Nat} (hk : k < hs.length) (h : 80 < k ∨ lightB (hs.getD k noHost) = true) : light8B hs = true := by
  unfold light8B
  rw [List.any_eq_true]
  refine ⟨k, List.mem_range.2 hk, ?_⟩
  rcases h with h | h
  · rw [decide_eq_true h]; rfl
  · rw [h, Bool.or_true]
theorem light8_end {hs : List HostT} (h : ∀ i, i < hs.length → ¬ 80 < i ∧ lightB (hs.getD i noHost) = false) : light8B hs = false := by
  unfold light8B
  rw [List.any_eq_false]
  intro i hi
  obtain ⟨h1, h2⟩ := h i (List.mem_range.1 hi)
  rw [decide_eq_false h1, h2]
  simp

set_option maxHeartbeats 4000000 in
theorem light8b_any (hs : List HostT) (v : Value) (vs : List Value) (w : World) (hv : IsHosts w v vs hs) :
    Calls Try.prog 8 #[v] w fun e w' => e = .returned (.int .i64 (bitI (light8B hs))) ∧ Below w.heap.size w w' := by
  obtain ⟨ao, cap, rfl⟩ := hv.shaped
  have hlen := hv.len
  have HV : Hid (IsHosts w (.slice ao hs.length cap) vs hs) := hv
  clear hv
  go_enter Try.func8, Try.ntmps8
  go_wp2
  go_loopw [7] (fun i wr => ∃ k : Nat, k ≤ hs.length ∧ i = .int .i64 k ∧ (∀ i, i < k → ¬ 80 < i ∧ lightB (hs.getD i noHost) = false) ∧ Below w.heap.size w wr) (fun i _ => hs.length - (intOf i).toNat)
  case atStart => exact ⟨0, Nat.zero_le _, rfl, fun i h => by omega, Below.refl _ _⟩
  case round =>
    obtain ⟨k, hk, rfl, ha, hb⟩ := hrel
    have HA : Hid (∀ i, i < k → ¬ 80 < i ∧ lightB (hs.getD i noHost) = false) := ha
    have HB : Hid (Below w.heap.size w wr) := hb
    clear ha hb
    by_cases hlt : k < hs.length
    · have hx := HV.out.below HB.out
      obtain ⟨b, off, rfl, hbl, c0, c1, c2, c3, c4, c5⟩ := hx.at k hlt
      obtain ⟨to, tc, htv⟩ := (hx.tags k hlt).shaped
      have htg := hx.tags k hlt
      have hokx := hx.ok k hlt
      rw [htv] at c5 htg
      have HH : Hid (80 < k ∨ lightB (hs.getD k noHost) = true → light8B hs = true) := light8_hit hlt
      have HN : Hid (¬ 80 < k → lightB (hs.getD k noHost) = false → ∀ i, i < k + 1 → ¬ 80 < i ∧ lightB (hs.getD i noHost) = false) := fun h1 h2 i hi => by
        rcases Nat.lt_or_ge i k with h3 | h3
        · exact HA.out i h3
        · obtain rfl : i = k := by omega
          exact ⟨h1, h2⟩
      generalize hs.getD k noHost = x at c0 c1 c2 c3 c4 c5 htg htv HH HN hokx
      have HTg : Hid (IsPairs wr (.slice to x.tags.length tc) x.tags) := htg
      have KL := fun W q => lightb_any x (.slice to x.tags.length tc) W hokx q
      clear hx htv htg
      by_cases h80 : 80 < k
      · have h80' : (80 : Int) < (k : Int) := by omega
        have HF : Hid (bitI (light8B hs) = 1) := by show _ = _; rw [HH.out (.inl h80)]; rfl
        go_wp2
        go_ret
        exact ⟨by rw [HF.out]; rfl, HB.out.trans (((Below.refl _ _).alloc (Nat.le_refl _) _).mono HB.out.size)⟩
      · have h80' : ¬ (80 : Int) < (k : Int) := by omega
        cases hL : lightB x with
        | false =>
          have HF : Hid (∀ i, i < k + 1 → ¬ 80 < i ∧ lightB (hs.getD i noHost) = false) := HN.out h80 hL
          rw [hL] at KL
          have e0 : bitI false = 0 := rfl
          rw [e0] at KL
          clear hL HH HN e0
          go_wp2_with (first | (refine wpList_load_box rfl 25 (.tmp 4) rfl wr.heap.size rfl 25 _ _ (hasBox_new wr _ _) Try.underlying25 rfl sizeHost ?_) | fail)
          refine (KL _ (HTg.out.below ((Below.refl _ _).alloc (Nat.le_refl _) _))).mono ?_
          rintro e w3 ⟨rfl, hb⟩
          have HB3 : Hid (Below w.heap.size w w3) := HB.out.trans ((((Below.refl _ _).alloc (Nat.le_refl _) _).trans (hb.mono (by simp))).mono HB.out.size)
          clear hb
          go_wp2
          go_roundw
          case rel => exact ⟨k + 1, by omega, by go_num, HF.out, HB3.out⟩
          case measure => simp [intOf]; omega
        | true =>
          have HF : Hid (bitI (light8B hs) = 1) := by show _ = _; rw [HH.out (.inr hL)]; rfl
          rw [hL] at KL
          have e0 : bitI true = 1 := rfl
          rw [e0] at KL
          clear hL HH HN e0
          go_wp2_with (first | (refine wpList_load_box rfl 25 (.tmp 4) rfl wr.heap.size rfl 25 _ _ (hasBox_new wr _ _) Try.underlying25 rfl sizeHost ?_) | fail)
          refine (KL _ (HTg.out.below ((Below.refl _ _).alloc (Nat.le_refl _) _))).mono ?_
          rintro e w3 ⟨rfl, hb⟩
          have HB3 : Hid (Below w.heap.size w w3) := HB.out.trans ((((Below.refl _ _).alloc (Nat.le_refl _) _).trans (hb.mono (by simp))).mono HB.out.size)
          clear hb
          go_wp2
          go_ret
          exact ⟨by rw [HF.out]; rfl, HB3.out⟩
    · have HF : Hid (bitI (light8B hs) = 0) := by show _ = _; rw [light8_end fun i hi => HA.out i (by omega)]; rfl
      go_wp2
      go_ret
      exact ⟨by rw [HF.out]; rfl, HB.out⟩

end Go.Proofs.Ytcafjjfaamjipaa

/-
  The contracts of package ratio's giveLeft and Spread over slices of numbers that lie in memory.
-/
import Derived.Test.YtkhklfbgfikeoaaRatio3
namespace Go.Proofs.Ytkhklfbgfikeoaa
open Go.RowKit

theorem give_bd (l : List Int) (f : Nat → Int) (left : Int) (k i : Nat) (h : 0 ≤ f i ∧ f i ≤ 1000000) : 0 ≤ giveF l f left k i ∧ giveF l f left k i ≤ 1000001 := by
  unfold giveF
  split <;> omega

set_option maxHeartbeats 1000000 in
theorem giveLeft_any (zs : List Int) (v : Value) (w0 w : World) (B n : Nat) (f : Nat → Int) (left : Int) (hi : IsInts w0 v zs) (hb : Below w0.heap.size w0 w) (hB : w0.heap.size ≤ B) (hn : zs.length = n)
    (ho : Own w B n f) (hf : ∀ i, i < n → 0 ≤ f i ∧ f i ≤ 1000000) (h0 : 0 ≤ left) (h1 : left ≤ 1000000) :
    Calls Try.prog 30 #[.slice (some ⟨B, 0, none⟩) n n, v, .int .i64 left] w fun e w' => e = .returned (.tuple #[]) ∧ Own w' B n (giveF zs f left n) ∧ Below w0.heap.size w0 w' := by
  obtain ⟨hwf, hlen, h3⟩ := hi
  rcases h3 with ⟨rfl, ao, cap, rfl, _⟩ | ⟨hne, b, off, cap, rfl, hlt, hc⟩
  · simp at hn
    subst hn
    have H : Hid (Own w B 0 (giveF [] f left 0)) := ho.congr fun i hi => absurd hi (by omega)
    clear ho hf
    go_enter Try.func30, Try.ntmps30
    go_wp2
    go_loop [10] (fun i => i = .int .i64 0) (fun _ => 0)
    case atStart => exact rfl
    case round =>
      obtain rfl := hrel
      go_wp2
      go_end0
      exact ⟨rfl, H.out, hb⟩
  · rw [hn] at hlen ⊢
    have HC : Hid (∀ i, i < n → w0.cell? ⟨b, off + i, none⟩ = some (.int .i64 (zs.getD i 0))) := by rw [← hn]; exact hc
    have HF : Hid (∀ i, i < n → 0 ≤ f i ∧ f i ≤ 1000000) := hf
    have HO : Hid (Own w B n f) := ho
    have HB : Hid (Below w0.heap.size w0 w) := hb
    clear hwf hne hc ho hf hn hb
    go_enter Try.func30, Try.ntmps30
    go_wp2
    go_loopw [2, 10] (fun l i wr => ∃ k : Nat, k ≤ n ∧ i = .int .i64 k ∧ l = .int .i64 (leftF zs left k) ∧ Hid (Own wr B n (giveF zs f left k)) ∧ Hid (Below w0.heap.size w0 wr)) (fun _ i _ => n - (intOf i).toNat)
    case atStart => exact ⟨0, by omega, rfl, by rw [left_start zs left h0], HO.out.congr fun i _ => (give_start zs f left i).symm, HB⟩
    case round =>
      obtain ⟨k, hk, rfl, rfl, hown, hbel⟩ := hrel
      have hl := left_bd zs left k h0
      by_cases hlt2 : k < n
      · have hcp : wr.cell? ⟨b, off + k, none⟩ = some (.int .i64 (zs.getD k 0)) := (hbel.out.cell (p := ⟨b, off + k, none⟩) hlt).trans (HC.out k hlt2)
        have hcs := hown.out.2.1 k hlt2
        have hfs := hown.out.2.2 k
        have hgb := give_bd zs f left k k (HF.out k hlt2)
        have HX : Hid (∀ x, zs.getD k 0 = x → zs.getD k 0 = x) := fun _ h => h
        obtain ⟨x, hx⟩ : ∃ x, zs.getD k 0 = x := ⟨_, rfl⟩
        obtain ⟨y, hy⟩ : ∃ y, giveF zs f left k k = y := ⟨_, rfl⟩
        rw [hx] at hcp
        rw [hy] at hcs hgb
        have HXe : Hid (zs.getD k 0 = x) := hx
        have HYe : Hid (giveF zs f left k k = y) := hy
        clear hx hy HX
        by_cases hz : leftF zs left k = 0
        · have hE : Hid (Own wr B n (giveF zs f left n)) := hown.out.congr fun i hi => give_done zs f left k n i hz hi
          have hzb : (leftF zs left k == 0) = true := by simp [hz]
          clear hz
          go_wp2
          exact bodyPost_ret (v := .tuple #[]) (results_none rfl _ _ _) rfl ⟨rfl, hE.out, hbel.out⟩
        · have hzb : (leftF zs left k == 0) = false := by simp [hz]
          by_cases hx0 : 0 < x
          · have HP : Hid (∀ i, giveF zs f left (k + 1) i = if i = k then y + 1 else giveF zs f left k i) := fun i => by rw [← HYe.out]; exact give_pos zs f left k i hz (by rw [HXe.out]; exact hx0)
            have HL : Hid (leftF zs left k - 1 = leftF zs left (k + 1)) := (left_pos zs left k hz (by rw [HXe.out]; exact hx0)).symm
            clear hz
            go_wp2
            go_roundw
            case rel => exact ⟨k + 1, by omega, by go_num, by rw [HL.out], (hown.out.set k hlt2 (y + 1)).congr fun i _ => (HP.out i).symm, hbel.out.setCell hB _⟩
            case measure => simp [intOf]; omega
          · have HP : Hid (∀ i, giveF zs f left (k + 1) i = giveF zs f left k i) := fun i => give_neg zs f left k i (by rw [HXe.out]; exact hx0)
            have HL : Hid (leftF zs left k = leftF zs left (k + 1)) := (left_neg zs left k (by rw [HXe.out]; exact hx0)).symm
            clear hz
            go_wp2
            go_roundw
            case rel => exact ⟨k + 1, by omega, by go_num, by rw [HL.out], hown.out.congr fun i _ => (HP.out i).symm, hbel⟩
            case measure => simp [intOf]; omega
      · have hkn : k = n := by omega
        subst hkn
        go_wp2
        go_end0
        exact ⟨rfl, hown.out, hbel.out⟩

theorem Try.bytes3 : Try.prog.bytesOf 3 = 8 := by kernel_rfl
theorem Try.info3 : (Try.prog.info? 3).map (fun i => (i.zero, i.size, i.bytes)) = some (some (.int .i64 0), 1, 8) := by kernel_rfl

set_option maxHeartbeats 1000000 in
theorem spread_yes (total : Int) (zs : List Int) (v : Value) (w : World) (hi : IsInts w v zs) (hm : mayB total zs = true) (hn : zs.length ≤ 1000000) :
    Calls Try.prog 21 #[.int .i64 total, v] w fun e w' => ∃ v', e = .returned v' ∧ IsInts w' v' (spreadV total zs) ∧ Below w.heap.size w w' := by
  have HI : Hid (IsInts w v zs) := hi
  obtain ⟨hwf, hlen, h3⟩ := hi
  obtain ⟨i0, hi0, hz0, hz1, hz2⟩ := info_parts Try.info3
  obtain ⟨m0, m1, m2, m3⟩ := may_facts total zs hm
  rcases h3 with ⟨rfl, ao, cap, rfl, _⟩ | ⟨hne, b, off, cap, rfl, hlt, hc⟩
  · exact absurd rfl m2
  · have HC : Hid (∀ i, i < zs.length → w.cell? ⟨b, off + i, none⟩ = some (.int .i64 (zs.getD i 0))) := hc
    have HM : Hid (mayB total zs = true) := hm
    go_enter Try.func21, Try.ntmps21
    go_wp2_with fail
    refine (may_any total zs _ _ HI.out).mono ?_
    rintro e w1 ⟨rfl, hw1⟩
    subst w1
    rw [HM.out]
    go_wp2_with fail
    refine (sum_any zs _ _ HI.out).mono ?_
    rintro e w1 ⟨rfl, hw1⟩
    subst w1
    obtain ⟨S, hS⟩ : ∃ S, sumV zs = S := ⟨_, rfl⟩
    have HS : Hid (sumV zs = S) := hS
    have hSb := sumV_bd zs
    have HSF : Hid (∀ k, k < zs.length → mdV total (oz (zs.getD k 0)) S = shareF total zs k) := fun k _ => by rw [← HS.out]; rfl
    have HFS : Hid (∀ k, 0 ≤ fsum total zs k ∧ fsum total zs k ≤ total) := fsum_bd total zs HM.out
    have HSB : Hid (∀ k, k < zs.length → 0 ≤ shareF total zs k ∧ shareF total zs k ≤ 1000000) := share_bd total zs HM.out
    rw [hS] at m2 hSb ⊢
    clear hS m3 hm hc hwf
    obtain ⟨n, hnn⟩ : ∃ n, zs.length = n := ⟨_, rfl⟩
    have HLn : Hid (zs.length = n) := hnn
    have hn0 : 0 < n := by rw [← hnn]; exact List.length_pos_iff.2 hne
    rw [hnn] at hn hlen HI HC HSF HSB ⊢
    clear hnn hne
    go_wp2_with (at_make; refine wpList_make_full _ rfl _ _ 22 rfl w.heap.size 3 i0 (.int .i64 0) 1 Try.underlying22 hi0 hz0 hz1 _ _ _ _ n rfl rfl rfl rfl (by rw [hz2]; omega) (by unfold maxLen; omega) (Nat.le_refl _) ?_)
    intro w1 hown hgrow
    have hsz : w.heap.size < w1.heap.size := by
      rcases hown.2 with ⟨h', _⟩ | ⟨g, cap', cur, h', _, hg, _⟩
      · simp at h'
      · simp only [Value.slice.injEq, Option.some.injEq, Addr.mk.injEq, and_true, true_and] at h'
        obtain ⟨rfl, _⟩ := h'
        exact (Array.getElem?_eq_some_iff.1 hg).1
    have HO : Hid (Own w1 w.heap.size n (fun _ => 0)) := Own.made (by simpa using hown) hsz
    have HB : Hid (Below w.heap.size w w1) := (Below.refl _ _).grown hgrow (Nat.le_refl _) (fun k hk => by cases hk)
    clear hown hgrow
    go_wp2
    go_loopw [7, 22] (fun l i wr => ∃ k : Nat, k ≤ n ∧ i = .int .i64 k ∧ l = .int .i64 (total - fsum total zs k) ∧ Hid (Own wr w.heap.size n (fun i => if i < k then shareF total zs i else 0)) ∧ Hid (Below w.heap.size w wr)) (fun _ i _ => n - (intOf i).toNat)
    case atStart => exact ⟨0, by omega, rfl, by simp [fsum], HO.out.congr fun i _ => by simp, HB⟩
    case round =>
      obtain ⟨k, hk, rfl, rfl, hown, hbel⟩ := hrel
      have hfs := HFS.out k
      by_cases hlt2 : k < n
      · have hcp : wr.cell? ⟨b, off + k, none⟩ = some (.int .i64 (zs.getD k 0)) := (hbel.out.cell (p := ⟨b, off + k, none⟩) hlt).trans (HC.out k hlt2)
        have hfs1 := HFS.out (k + 1)
        have hsf := HSF.out k hlt2
        have HF1 : Hid (fsum total zs (k + 1) = fsum total zs k + shareF total zs k) := rfl
        have hsb := HSB.out k hlt2
        have hxb := getD_bd HI.out.1 k (by rw [HLn.out]; exact hlt2)
        obtain ⟨x, hx⟩ : ∃ x, zs.getD k 0 = x := ⟨_, rfl⟩
        obtain ⟨y, hy⟩ : ∃ y, shareF total zs k = y := ⟨_, rfl⟩
        have HY : Hid (shareF total zs k = y) := hy
        rw [hx] at hcp hsf hxb
        rw [hy] at hsf HF1 hsb
        have ho1 := oz_nonneg x
        have ho2 := oz_le x _ hxb.2 (by omega)
        have HSf : Hid (mdV total (oz x) S = y) := hsf
        clear hx hy hsf
        go_wp2_with fail
        refine (orZero_any x _).mono ?_
        rintro e w2 ⟨rfl, hw2⟩
        subst w2
        go_wp2_with fail
        refine (mulDiv_any total (oz x) S _ (by omega) (by omega) (by omega)).mono ?_
        rintro e w2 ⟨rfl, hb2⟩
        rw [HSf.out]
        have ho := hown.out.below hb2
        have hc2 := ho.2.1 k hlt2
        have hf2 := ho.2.2 k
        have HO2 : Hid (Own w2 w.heap.size n (fun i => if i < k then shareF total zs i else 0)) := ho
        have HB2 : Hid (Below w.heap.size w w2) := hbel.out.trans (hb2.mono hbel.out.size)
        clear ho hb2 hcp
        go_wp2
        go_roundw
        case rel =>
          refine ⟨k + 1, by omega, by go_num, ?_, (HO2.out.set k hlt2 y).congr fun i _ => ?_, HB2.out.setCell (Nat.le_refl _) _⟩
          · rw [HF1.out]; go_num
          · by_cases e : i = k
            · subst e; simp [HY.out]
            · by_cases e2 : i < k
              · simp [e, e2, show i < k + 1 by omega]
              · simp [e, e2, show ¬ i < k + 1 by omega]
        case measure => simp [intOf]; omega
      · have hkn : k = n := by omega
        subst hkn
        have HO2 : Hid (Own wr w.heap.size k (shareF total zs)) := hown.out.congr fun i hi => by simp [hi]
        clear hown
        go_wp2_with fail
        refine (giveLeft_any zs _ w _ w.heap.size k (shareF total zs) (total - fsum total zs k) HI.out hbel.out (Nat.le_refl _) HLn.out HO2.out HSB.out (by omega) (by omega)).mono ?_
        rintro e w2 ⟨rfl, ho3, hb3⟩
        have H3 : Hid (Own w2 w.heap.size k (giveF zs (shareF total zs) (total - fsum total zs k) k)) := ho3
        clear ho3
        go_wp2
        go_ret
        refine ⟨_, rfl, ?_, hb3⟩
        have e : spreadV total zs = (List.range k).map (giveF zs (shareF total zs) (total - fsum total zs k) k) := by
          unfold spreadV
          rw [HM.out, HLn.out]
          rfl
        rw [e]
        exact H3.out.isInts hn0 hn fun i hi => give_bd _ _ _ _ _ (HSB.out i hi)

set_option maxHeartbeats 1000000 in
theorem spread_any (total : Int) (zs : List Int) (v : Value) (w : World) (hi : IsInts w v zs) (hn : zs.length ≤ 1000000) :
    Calls Try.prog 21 #[.int .i64 total, v] w fun e w' => ∃ v', e = .returned v' ∧ IsInts w' v' (spreadV total zs) ∧ Below w.heap.size w w' := by
  by_cases hm : mayB total zs = true
  · exact spread_yes total zs v w hi hm hn
  · have hm' : mayB total zs = false := by simpa using hm
    have HM : Hid (mayB total zs = false) := hm'
    have HI : Hid (IsInts w v zs) := hi
    clear hm hm' hi
    go_enter Try.func21, Try.ntmps21
    go_wp2_with fail
    refine (may_any total zs _ _ HI.out).mono ?_
    rintro e w1 ⟨rfl, hw1⟩
    subst w1
    rw [HM.out]
    go_wp2
    go_ret
    refine ⟨_, rfl, ?_, Below.refl _ _⟩
    have e : spreadV total zs = [] := by unfold spreadV; rw [HM.out]; rfl
    rw [e]
    exact ⟨by simp, by simp, .inl ⟨rfl, _, _, rfl, fun _ => rfl⟩⟩

end Go.Proofs.Ytkhklfbgfikeoaa

/-
  The contract of triageref1.Spread: a slice of its own that holds what Plain's spreadV says.
-/
import Derived.Test.YtkhklfbgfikeoaaRefCmp
import Derived.Test.YtkhklfbgfikeoaaSpreadPlain
namespace Go.Proofs.Ytkhklfbgfikeoaa
open Go.RowKit

theorem give_none (l : List Int) (f : Nat → Int) (k i : Nat) (left : Int) (h : left ≤ 0) : giveF l f left k i = f i := by
  have h0 := cp_mono l 0 i (by omega)
  have e : cp l 0 = 0 := rfl
  unfold giveF
  rw [if_neg (by omega)]; omega
theorem left_zero (l : List Int) (left : Int) (k : Nat) (h : leftF l left k = 0) : leftF l left (k + 1) = 0 := by
  have hm := cp_mono l k (k + 1) (by omega)
  unfold leftF at h ⊢
  split at h
  · omega
  · rw [if_neg (by omega)]
theorem give_same (l : List Int) (f : Nat → Int) (left : Int) (k i : Nat) (h : leftF l left k = 0) : giveF l f left (k + 1) i = giveF l f left k i := by
  have h1 := give_done l f left k (i + k + 1) i h (by omega)
  have h2 := give_done l f left (k + 1) (i + k + 1) i (left_zero l left k h) (by omega)
  rw [h1, h2]

theorem spread_form {total : Int} {zs : List Int} {k : Nat} {L0 : Int} (hm : mayB total zs = true) (hk : zs.length = k) (hL : total - fsum total zs k = L0) : spreadV total zs = (List.range k).map (giveF zs (shareF total zs) L0 k) := by
  unfold spreadV
  rw [hm, hk, hL]
  rfl

set_option maxHeartbeats 4000000 in
theorem rSpread_yes (total : Int) (zs : List Int) (v : Value) (w : World) (hi : IsInts w v zs) (hm : mayB total zs = true) (hn : zs.length ≤ 1000000) :
    Calls Try.prog 22 #[.int .i64 total, v] w fun e w' => ∃ v', e = .returned v' ∧ IsInts w' v' (spreadV total zs) ∧ Below w.heap.size w w' := by
  have HI : Hid (IsInts w v zs) := hi
  obtain ⟨hwf, hlen, h3⟩ := hi
  obtain ⟨i0, hi0, hz0, hz1, hz2⟩ := info_parts Try.info3
  obtain ⟨m0, m1, m2, m3⟩ := may_facts total zs hm
  rcases h3 with ⟨rfl, ao, cap, rfl, _⟩ | ⟨hne, b, off, cap, rfl, hlt, hc⟩
  · exact absurd rfl m2
  · have HC : Hid (∀ i, i < zs.length → w.cell? ⟨b, off + i, none⟩ = some (.int .i64 (zs.getD i 0))) := hc
    have HM : Hid (mayB total zs = true) := hm
    have HSF : Hid (∀ k, mdV total (oz (zs.getD k 0)) (sumV zs) = shareF total zs k) := fun k => rfl
    have HFS : Hid (∀ k, 0 ≤ fsum total zs k ∧ fsum total zs k ≤ total) := fsum_bd total zs hm
    have HSB : Hid (∀ k, k < zs.length → 0 ≤ shareF total zs k ∧ shareF total zs k ≤ 1000000) := share_bd total zs hm
    have HLE : Hid (total - fsum total zs zs.length ≤ cp zs zs.length) := left_le total zs hm
    have HMX : Hid (∀ k, k < zs.length → zs.getD k 0 ≤ 4611686018427387904 / (zs.length : Int)) := fun k hk => m3 _ (by rw [getD_get _ _ hk]; exact List.getElem_mem hk)
    have hSb := sumV_bd zs
    have hsz : (sumV zs == 0) = false := by simp [m2]
    obtain ⟨S, hS⟩ : ∃ S, sumV zs = S := ⟨_, rfl⟩
    have HSm : Hid (∀ w, Calls Try.prog 17 #[.slice (some ⟨b, off, none⟩) zs.length cap] w (fun e w' => e = .returned (.int .i64 S) ∧ w' = w) ∨ True) := fun _ => .inr trivial
    have HSum : Hid (Calls Try.prog 17 #[.slice (some ⟨b, off, none⟩) zs.length cap] w fun e w' => e = .returned (.int .i64 S) ∧ w' = w) := by
      have h := rSum_any zs _ w HI.out
      rw [hS] at h
      exact h
    rw [hS] at HSF hSb hsz
    clear hS m2 m3 hm hc hwf HSm
    obtain ⟨n, hnn⟩ : ∃ n, zs.length = n := ⟨_, rfl⟩
    have HLn : Hid (zs.length = n) := hnn
    have hn0 : 0 < n := by rw [← hnn]; exact List.length_pos_iff.2 hne
    rw [hnn] at hn hlen HI HC HSB HLE HMX HSum ⊢
    clear hnn hne
    have hq0 : 0 ≤ 4611686018427387904 / (n : Int) := Int.ediv_nonneg (by omega) (by omega)
    have hq1 : 4611686018427387904 / (n : Int) ≤ 4611686018427387904 := Int.ediv_le_self _ (by omega)
    go_enter Try.func22, Try.ntmps22
    go_wp2_with fail
    refine HSum.out.mono ?_
    rintro e w1 ⟨rfl, hw1⟩
    subst w1
    go_wp2
    go_loop [28] (fun i => ∃ k : Nat, k ≤ n ∧ i = .int .i64 k) (fun i => n - (intOf i).toNat)
    case atStart => exact ⟨0, by omega, rfl⟩
    case round =>
      obtain ⟨k, hk, rfl⟩ := hrel
      by_cases hlt1 : k < n
      · have hcp := HC.out k hlt1
        have hmx := HMX.out k hlt1
        generalize zs.getD k 0 = x at hcp hmx
        go_wp2
        go_round
        case rel => exact ⟨k + 1, by omega, by go_num⟩
        case measure => simp [intOf]; omega
      · go_wp2_with (at_make; refine wpList_make_full _ rfl _ _ 22 rfl w.heap.size 3 i0 (.int .i64 0) 1 Try.underlying22 hi0 hz0 hz1 _ _ _ _ n rfl rfl rfl rfl (by rw [hz2]; omega) (by unfold maxLen; omega) (Nat.le_refl _) ?_)
        intro w1 hown hgrow
        have hsz1 : w.heap.size < w1.heap.size := by
          rcases hown.2 with ⟨h', _⟩ | ⟨g, cap', cur, h', _, hg, _⟩
          · simp at h'
          · simp only [Value.slice.injEq, Option.some.injEq, Addr.mk.injEq, and_true, true_and] at h'
            obtain ⟨rfl, _⟩ := h'
            exact (Array.getElem?_eq_some_iff.1 hg).1
        have HO : Hid (Own w1 w.heap.size n (fun _ => 0)) := Own.made (by simpa using hown) hsz1
        have HB : Hid (Below w.heap.size w w1) := (Below.refl _ _).grown hgrow (Nat.le_refl _) (fun k hk => by cases hk)
        clear hown hgrow hlt1 hk
        go_wp2
        go_loopw [9, 44] (fun l i wr => ∃ k : Nat, k ≤ n ∧ i = .int .i64 k ∧ l = .int .i64 (total - fsum total zs k) ∧ Hid (Own wr w.heap.size n (fun i => if i < k then shareF total zs i else 0)) ∧ Hid (Below w.heap.size w wr)) (fun _ i _ => n - (intOf i).toNat)
        case atStart => exact ⟨0, by omega, rfl, by simp [fsum], HO.out.congr fun i _ => by simp, HB⟩
        case round =>
          obtain ⟨k, hk, rfl, rfl, hown, hbel⟩ := hrel
          have hfs := HFS.out k
          by_cases hlt2 : k < n
          · have hcp : wr.cell? ⟨b, off + k, none⟩ = some (.int .i64 (zs.getD k 0)) := (hbel.out.cell (p := ⟨b, off + k, none⟩) hlt).trans (HC.out k hlt2)
            have hfs1 := HFS.out (k + 1)
            have hsf := HSF.out k
            have HF1 : Hid (fsum total zs (k + 1) = fsum total zs k + shareF total zs k) := rfl
            have hsb := HSB.out k hlt2
            have hxb := getD_bd HI.out.1 k (by rw [HLn.out]; exact hlt2)
            obtain ⟨x, hx⟩ : ∃ x, zs.getD k 0 = x := ⟨_, rfl⟩
            obtain ⟨y, hy⟩ : ∃ y, shareF total zs k = y := ⟨_, rfl⟩
            have HY : Hid (shareF total zs k = y) := hy
            rw [hx] at hcp hsf hxb
            rw [hy] at hsf HF1 hsb
            have mx := oz_max x
            have ho1 := oz_nonneg x
            have ho2 := oz_le x _ hxb.2 (by omega)
            generalize oz x = X at *
            have HSf : Hid (mdV total X S = y) := hsf
            clear hx hy hsf
            go_wp2_with fail
            refine (rMulDiv_any total X S _ (by omega) (by omega) (by omega)).mono ?_
            rintro e w2 ⟨rfl, hb2⟩
            rw [HSf.out]
            have ho := hown.out.below hb2
            have hc2 := ho.2.1 k hlt2
            have hf2 := ho.2.2 k
            have HO2 : Hid (Own w2 w.heap.size n (fun i => if i < k then shareF total zs i else 0)) := ho
            have HB2 : Hid (Below w.heap.size w w2) := hbel.out.trans (hb2.mono hbel.out.size)
            clear ho hb2 hcp
            go_wp2
            go_roundw
            case rel =>
              refine ⟨k + 1, by omega, by go_num, ?_, (HO2.out.set k hlt2 y).congr fun i _ => ?_, HB2.out.setCell (Nat.le_refl _) _⟩
              · rw [HF1.out]; go_num
              · by_cases e : i = k
                · subst e; simp [HY.out]
                · by_cases e2 : i < k
                  · simp [e, e2, show i < k + 1 by omega]
                  · simp [e, e2, show ¬ i < k + 1 by omega]
            case measure => simp [intOf]; omega
          · have hkn : k = n := by omega
            subst hkn
            have HO2 : Hid (Own wr w.heap.size k (shareF total zs)) := hown.out.congr fun i hi => by simp [hi]
            have hbw := hbel
            clear hown hbel
            obtain ⟨L0, hL0⟩ : ∃ L0, total - fsum total zs k = L0 := ⟨_, rfl⟩
            have HL0 : Hid (total - fsum total zs k = L0) := hL0
            have l0 : 0 ≤ L0 := by omega
            have l1 : L0 ≤ 1000000 := by omega
            rw [hL0] at HLE ⊢
            have HEND : Hid (leftF zs L0 k = 0) := by
              have := HLE.out
              show _ = _
              unfold leftF
              rw [if_neg (by omega)]
            clear hL0
            go_wp2
            go_loopw [9] (fun l wr => (l = .int .i64 L0 ∧ Hid (Own wr w.heap.size k (shareF total zs)) ∧ Hid (Below w.heap.size w wr)) ∨ (l = .int .i64 0 ∧ Hid (Own wr w.heap.size k (giveF zs (shareF total zs) L0 k)) ∧ Hid (Below w.heap.size w wr))) (fun l _ => (intOf l).toNat)
            case atStart => exact .inl ⟨rfl, HO2, hbw⟩
            case round =>
              rcases hrel with ⟨rfl, hO, hB⟩ | ⟨rfl, hO, hB⟩
              · by_cases hpos : 0 < L0
                · go_wp2
                  go_loopw [9, 71] (fun l i wr => ∃ j : Nat, j ≤ k ∧ i = .int .i64 j ∧ l = .int .i64 (leftF zs L0 j) ∧ Hid (Own wr w.heap.size k (giveF zs (shareF total zs) L0 j)) ∧ Hid (Below w.heap.size w wr)) (fun _ i _ => k - (intOf i).toNat)
                  case atStart => exact ⟨0, by omega, rfl, by rw [left_start zs L0 l0], hO.out.congr fun i _ => (give_start zs _ L0 i).symm, hB⟩
                  case round =>
                    obtain ⟨j, hj, rfl, rfl, hown, hbel⟩ := hrel
                    have hl := left_bd zs L0 j l0
                    by_cases hlt2 : j < k
                    · have hcp : wr.cell? ⟨b, off + j, none⟩ = some (.int .i64 (zs.getD j 0)) := (hbel.out.cell (p := ⟨b, off + j, none⟩) hlt).trans (HC.out j hlt2)
                      have hcs := hown.out.2.1 j hlt2
                      have hfs2 := hown.out.2.2 j
                      have hgb := give_bd zs (shareF total zs) L0 j j (HSB.out j hlt2)
                      obtain ⟨x, hx⟩ : ∃ x, zs.getD j 0 = x := ⟨_, rfl⟩
                      obtain ⟨y, hy⟩ : ∃ y, giveF zs (shareF total zs) L0 j j = y := ⟨_, rfl⟩
                      rw [hx] at hcp
                      rw [hy] at hcs hgb
                      have HXe : Hid (zs.getD j 0 = x) := hx
                      have HYe : Hid (giveF zs (shareF total zs) L0 j j = y) := hy
                      clear hx hy
                      by_cases hx0 : 0 < x
                      · by_cases hz : 0 < leftF zs L0 j
                        · have HP : Hid (∀ i, giveF zs (shareF total zs) L0 (j + 1) i = if i = j then y + 1 else giveF zs (shareF total zs) L0 j i) := fun i => by rw [← HYe.out]; exact give_pos zs _ L0 j i (by omega) (by rw [HXe.out]; exact hx0)
                          have HL : Hid (leftF zs L0 j - 1 = leftF zs L0 (j + 1)) := (left_pos zs L0 j (by omega) (by rw [HXe.out]; exact hx0)).symm
                          go_wp2
                          go_roundw
                          case rel => exact ⟨j + 1, by omega, by go_num, by rw [HL.out], (hown.out.set j hlt2 (y + 1)).congr fun i _ => (HP.out i).symm, hbel.out.setCell (Nat.le_refl _) _⟩
                          case measure => simp [intOf]; omega
                        · have hz0 : leftF zs L0 j = 0 := by omega
                          have HP : Hid (∀ i, giveF zs (shareF total zs) L0 (j + 1) i = giveF zs (shareF total zs) L0 j i) := fun i => give_same zs _ L0 j i hz0
                          have HL : Hid (leftF zs L0 j = leftF zs L0 (j + 1)) := by show _ = _; rw [left_zero zs L0 j hz0, hz0]
                          clear hz0
                          go_wp2
                          go_roundw
                          case rel => exact ⟨j + 1, by omega, by go_num, by rw [HL.out], hown.out.congr fun i _ => (HP.out i).symm, hbel⟩
                          case measure => simp [intOf]; omega
                      · have HP : Hid (∀ i, giveF zs (shareF total zs) L0 (j + 1) i = giveF zs (shareF total zs) L0 j i) := fun i => give_neg zs _ L0 j i (by rw [HXe.out]; exact hx0)
                        have HL : Hid (leftF zs L0 j = leftF zs L0 (j + 1)) := (left_neg zs L0 j (by rw [HXe.out]; exact hx0)).symm
                        go_wp2
                        go_roundw
                        case rel => exact ⟨j + 1, by omega, by go_num, by rw [HL.out], hown.out.congr fun i _ => (HP.out i).symm, hbel⟩
                        case measure => simp [intOf]; omega
                    · have hjk : j = k := by omega
                      subst hjk
                      have hend := HEND.out
                      rw [hend]
                      clear hend hl
                      go_wp2
                      go_roundw
                      case rel => exact .inr ⟨rfl, hown, hbel⟩
                      case measure => simp [intOf]; omega
                · have HO3 : Hid (Own wr w.heap.size k (giveF zs (shareF total zs) L0 k)) := hO.out.congr fun i _ => (give_none zs _ k i L0 (by omega)).symm
                  go_wp2
                  go_ret
                  refine ⟨_, rfl, ?_, hB.out⟩
                  rw [spread_form HM.out HLn.out HL0.out]
                  exact HO3.out.isInts hn0 hn fun i hi => give_bd _ _ _ _ _ (HSB.out i hi)
              · go_wp2
                go_ret
                refine ⟨_, rfl, ?_, hB.out⟩
                rw [spread_form HM.out HLn.out HL0.out]
                exact hO.out.isInts hn0 hn fun i hi => give_bd _ _ _ _ _ (HSB.out i hi)

set_option maxHeartbeats 1000000 in
theorem rSpread_bad (total : Int) (zs : List Int) (v : Value) (w : World) (hi : IsInts w v zs) (h : total < 0 ∨ 1000000 < total ∨ sumV zs = 0) :
    Calls Try.prog 22 #[.int .i64 total, v] w fun e w' => e = .returned (.slice none 0 0) ∧ Below w.heap.size w w' := by
  have HI : Hid (IsInts w v zs) := hi
  obtain ⟨ao, cap, rfl⟩ := hi.shape
  clear hi
  by_cases h1 : total < 0
  · go_enter Try.func22, Try.ntmps22
    go_wp2_with fail
    refine (rSum_any zs _ _ HI.out).mono ?_
    rintro e w1 ⟨rfl, hw1⟩
    subst w1
    go_wp2
    go_ret
    exact ⟨rfl, Below.refl _ _⟩
  · by_cases h2 : 1000000 < total
    · go_enter Try.func22, Try.ntmps22
      go_wp2_with fail
      refine (rSum_any zs _ _ HI.out).mono ?_
      rintro e w1 ⟨rfl, hw1⟩
      subst w1
      go_wp2
      go_ret
      exact ⟨rfl, Below.refl _ _⟩
    · have h3 : (sumV zs == 0) = true := by
        rcases h with h | h | h
        · exact absurd h h1
        · exact absurd h h2
        · simp [h]
      clear h
      go_enter Try.func22, Try.ntmps22
      go_wp2_with fail
      refine (rSum_any zs _ _ HI.out).mono ?_
      rintro e w1 ⟨rfl, hw1⟩
      subst w1
      go_wp2
      go_ret
      exact ⟨rfl, Below.refl _ _⟩

set_option maxHeartbeats 1000000 in
theorem rSpread_great (total : Int) (zs : List Int) (v : Value) (w : World) (hi : IsInts w v zs) (h1 : 0 ≤ total) (h2 : total ≤ 1000000) (h4 : sumV zs ≠ 0) (hm : mayB total zs = false) :
    Calls Try.prog 22 #[.int .i64 total, v] w fun e w' => e = .returned (.slice none 0 0) ∧ Below w.heap.size w w' := by
  have HI : Hid (IsInts w v zs) := hi
  obtain ⟨hwf, hlen, h3⟩ := hi
  rcases h3 with ⟨rfl, ao, cap, rfl, _⟩ | ⟨hne, b, off, cap, rfl, hlt, hc⟩
  · exact absurd rfl h4
  · have HC : Hid (∀ i, i < zs.length → w.cell? ⟨b, off + i, none⟩ = some (.int .i64 (zs.getD i 0))) := hc
    have HNot : Hid (¬ ∀ k, k < zs.length → zs.getD k 0 ≤ 4611686018427387904 / (zs.length : Int)) := fun h => by
      have := may_yes total zs h1 h2 h4 h
      rw [hm] at this
      cases this
    have hl0 : 0 < zs.length := List.length_pos_iff.2 hne
    have h4b : (sumV zs == 0) = false := by simp [h4]
    obtain ⟨n, hnn⟩ : ∃ n, zs.length = n := ⟨_, rfl⟩
    rw [hnn] at hlen hl0 HI HC HNot ⊢
    clear hnn hne hc hwf h4 hm hlt
    have hq0 : 0 ≤ 4611686018427387904 / (n : Int) := Int.ediv_nonneg (by omega) (by omega)
    have hq1 : 4611686018427387904 / (n : Int) ≤ 4611686018427387904 := Int.ediv_le_self _ (by omega)
    go_enter Try.func22, Try.ntmps22
    go_wp2_with fail
    refine (rSum_any zs _ _ HI.out).mono ?_
    rintro e w1 ⟨rfl, hw1⟩
    subst w1
    go_wp2
    go_loop [28] (fun i => ∃ k : Nat, k ≤ n ∧ i = .int .i64 k ∧ Hid (∀ j, j < k → zs.getD j 0 ≤ 4611686018427387904 / (n : Int))) (fun i => n - (intOf i).toNat)
    case atStart => exact ⟨0, by omega, rfl, fun j hj => absurd hj (by omega)⟩
    case round =>
      obtain ⟨k, hk, rfl, hall⟩ := hrel
      by_cases hlt : k < n
      · have hcp := HC.out k hlt
        obtain ⟨x, hx⟩ : ∃ x, zs.getD k 0 = x := ⟨_, rfl⟩
        rw [hx] at hcp
        have HX : Hid (zs.getD k 0 = x) := hx
        clear hx
        by_cases hgt : 4611686018427387904 / (n : Int) < x
        · go_wp2
          go_ret
          exact ⟨rfl, Below.refl _ _⟩
        · have HA : Hid (∀ j, j < k + 1 → zs.getD j 0 ≤ 4611686018427387904 / (n : Int)) := by
            intro j hj
            by_cases hjk : j = k
            · subst hjk; rw [HX.out]; omega
            · exact hall.out j (by omega)
          clear hall
          go_wp2
          go_round
          case rel => exact ⟨k + 1, by omega, by go_num, HA⟩
          case measure => simp [intOf]; omega
      · exact absurd (fun j hj => hall.out j (by omega)) HNot.out

theorem rSpread_any (total : Int) (zs : List Int) (v : Value) (w : World) (hi : IsInts w v zs) (hn : zs.length ≤ 1000000) :
    Calls Try.prog 22 #[.int .i64 total, v] w fun e w' => ∃ v', e = .returned v' ∧ IsInts w' v' (spreadV total zs) ∧ Below w.heap.size w w' := by
  by_cases hm : mayB total zs = true
  · exact rSpread_yes total zs v w hi hm hn
  · have hm' : mayB total zs = false := by simpa using hm
    have e : spreadV total zs = [] := by unfold spreadV; rw [hm']; rfl
    rw [e]
    by_cases h : total < 0 ∨ 1000000 < total ∨ sumV zs = 0
    · refine (rSpread_bad total zs v w hi h).mono ?_
      rintro e w' ⟨rfl, hb⟩
      exact ⟨_, rfl, isInts_nil _, hb⟩
    · refine (rSpread_great total zs v w hi (by omega) (by omega) (by omega) hm').mono ?_
      rintro e w' ⟨rfl, hb⟩
      exact ⟨_, rfl, isInts_nil _, hb⟩

end Go.Proofs.Ytkhklfbgfikeoaa

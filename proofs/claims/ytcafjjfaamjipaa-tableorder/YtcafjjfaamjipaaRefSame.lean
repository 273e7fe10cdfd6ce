/-
  The reference's answers to chapter 8: tables held against each other.
-/
import Derived.Test.YtcafjjfaamjipaaRefTable1
import Derived.Deep.CutRange
namespace Go.Proofs.Ytcafjjfaamjipaa
open Go.RowKit

theorem hosts_more {hs ks : List HostT} {k : Nat} (h1 : k < hs.length) (h2 : k < ks.length) (ht : hs.take k = ks.take k) (h : hs.getD k noHost = ks.getD k noHost) : hs.take (k + 1) = ks.take (k + 1) := take_more noHost h1 h2 ht h

set_option maxRecDepth 100000 in
set_option maxHeartbeats 4000000 in
theorem rSameHosts_any (hs ks : List HostT) (v u : Value) (vs us : List Value) (w : World) (hv : IsHosts w v vs hs) (hu : IsHosts w u us ks) :
    Calls Try.prog 17 #[v, u] w fun e w' => e = .returned (.bool (decide (hs = ks))) ∧ Below w.heap.size w w' := by
  obtain ⟨ao, cap, rfl⟩ := hv.shaped
  obtain ⟨bo, cap2, rfl⟩ := hu.shaped
  have hl1 := hv.len
  have hl2 := hu.len
  have HV : Hid (IsHosts w (.slice ao hs.length cap) vs hs) := hv
  have HU : Hid (IsHosts w (.slice bo ks.length cap2) us ks) := hu
  clear hv hu
  by_cases hl : hs.length = ks.length
  · have HL : Hid (hs.length = ks.length) := hl
    have hln : ((hs.length : Int) != (ks.length : Int)) = false := by rw [bne_eq_false_iff_eq]; omega
    clear hl
    go_enter Try.func17, Try.ntmps17
    go_wp2
    go_loopw [5, 13] (fun _ i wr => ∃ k : Nat, k ≤ hs.length ∧ i = .int .i64 k ∧ hs.take k = ks.take k ∧ Below w.heap.size w wr) (fun _ i _ => hs.length - (intOf i).toNat)
    case atStart => exact ⟨0, Nat.zero_le _, rfl, by simp, Below.refl _ _⟩
    case round =>
      obtain ⟨k, hk, rfl, ht, hb⟩ := hrel
      have HTk : Hid (hs.take k = ks.take k) := ht
      have HB : Hid (Below w.heap.size w wr) := hb
      clear ht hb
      by_cases hlt : k < hs.length
      · have hlj : k < ks.length := by have := HL.out; omega
        have hx := HV.out.below HB.out
        have hy := HU.out.below HB.out
        obtain ⟨b, off, rfl, hbl, c0, c1, c2, c3, c4, c5⟩ := hx.at k hlt
        obtain ⟨b2, off2, rfl, hbl2, d0, d1, d2, d3, d4, d5⟩ := hy.at k hlj
        obtain ⟨ta, tc, htv⟩ := (hx.tags k hlt).shaped
        obtain ⟨sa, sc, hsv⟩ := (hy.tags k hlj).shaped
        have htx := hx.tags k hlt
        have hty := hy.tags k hlj
        rw [htv] at c5 htx
        rw [hsv] at d5 hty
        have HN : Hid (hs.getD k noHost = ks.getD k noHost → hs.take (k + 1) = ks.take (k + 1)) := hosts_more hlt hlj HTk.out
        have HX : Hid (hs.getD k noHost ≠ ks.getD k noHost → decide (hs = ks) = false) := list_ne noHost
        generalize hs.getD k noHost = x at c0 c1 c2 c3 c4 c5 htx HN HX
        generalize ks.getD k noHost = y at d0 d1 d2 d3 d4 d5 hty HN HX
        clear hx hy htv hsv
        have hk1 : (k : Int) < (hs.length : Int) := by omega
        have hk2 : (k : Int) < (ks.length : Int) := by omega
        have KS := fun W A B => rSameHost_any x y (.slice ta x.tags.length tc) (.slice sa y.tags.length sc) W A B
        obtain ⟨q, hq⟩ : ∃ q, sameH x y = q := ⟨_, rfl⟩
        rw [hq] at KS
        have HQ : Hid (sameH x y = q) := hq
        clear hq
        have HTx : ∀ W, Below wr.heap.size wr W → IsPairs W (.slice ta x.tags.length tc) x.tags := fun W p => htx.below p
        have HTy : ∀ W, Below wr.heap.size wr W → IsPairs W (.slice sa y.tags.length sc) y.tags := fun W p => hty.below p
        have HCx : ∀ W, Below wr.heap.size wr W → W.cell? ⟨b, off + k * 6, none⟩ = some (.int .i64 x.id) ∧ W.cell? ⟨b, off + k * 6 + 1, none⟩ = some (.string x.addr) ∧ W.cell? ⟨b, off + k * 6 + 2, none⟩ = some (.int .i64 x.prio) ∧ W.cell? ⟨b, off + k * 6 + 3, none⟩ = some (.string x.zone) ∧ W.cell? ⟨b, off + k * 6 + 4, none⟩ = some (.int .i64 x.weight) ∧ W.cell? ⟨b, off + k * 6 + 5, none⟩ = some (.slice ta x.tags.length tc) := fun W p => ⟨(p.cell (p := ⟨b, _, none⟩) hbl).trans c0, (p.cell (p := ⟨b, _, none⟩) hbl).trans c1, (p.cell (p := ⟨b, _, none⟩) hbl).trans c2, (p.cell (p := ⟨b, _, none⟩) hbl).trans c3, (p.cell (p := ⟨b, _, none⟩) hbl).trans c4, (p.cell (p := ⟨b, _, none⟩) hbl).trans c5⟩
        have HCy : ∀ W, Below wr.heap.size wr W → W.cell? ⟨b2, off2 + k * 6, none⟩ = some (.int .i64 y.id) ∧ W.cell? ⟨b2, off2 + k * 6 + 1, none⟩ = some (.string y.addr) ∧ W.cell? ⟨b2, off2 + k * 6 + 2, none⟩ = some (.int .i64 y.prio) ∧ W.cell? ⟨b2, off2 + k * 6 + 3, none⟩ = some (.string y.zone) ∧ W.cell? ⟨b2, off2 + k * 6 + 4, none⟩ = some (.int .i64 y.weight) ∧ W.cell? ⟨b2, off2 + k * 6 + 5, none⟩ = some (.slice sa y.tags.length sc) := fun W p => ⟨(p.cell (p := ⟨b2, _, none⟩) hbl2).trans d0, (p.cell (p := ⟨b2, _, none⟩) hbl2).trans d1, (p.cell (p := ⟨b2, _, none⟩) hbl2).trans d2, (p.cell (p := ⟨b2, _, none⟩) hbl2).trans d3, (p.cell (p := ⟨b2, _, none⟩) hbl2).trans d4, (p.cell (p := ⟨b2, _, none⟩) hbl2).trans d5⟩
        clear c0 c1 c2 c3 c4 c5 d0 d1 d2 d3 d4 d5 htx hty
        go_upto_region 6 with fail
        refine wp_region_mp ([eqP (.slice (some ⟨b, off, none⟩) hs.length cap), eqP (.int .i64 k), eqP (.pointer (some ⟨b, off + k * 6, none⟩)), eqP (hval x (.slice ta x.tags.length tc)), eqP (.slice (some ⟨b2, off2, none⟩) ks.length cap2), eqP (.int .i64 k), eqP (.pointer (some ⟨b2, off2 + k * 6, none⟩)), eqP (hval y (.slice sa y.tags.length sc)), eqP (.bool q), eqP (.bool (!q))]) (by kernel_rfl) (by kernel_rfl) ?_ ?_
        · go_light
          simp only [stepsAll3]
          refine ⟨fun a W hF hE hd => ?_, fun a W hF hE hd => ?_, fun a W hF hE hd => ?_, fun a W hF hE hd => ?_, fun a W hF hE hd => ?_, fun a W hF hE hd => ?_, fun a W hF hE hd => ?_, fun a W hF hE hd => ?_, fun a W hF hE hd => ?_, fun a W hF hE hd => ?_, trivial⟩
          all_goals unfold StepAt
          · have t0 : a.tmps.getD 0 undef = .slice (some ⟨b, off, none⟩) hs.length cap := hF.at 0 (by kernel_rfl)
            rw [Array.getD_eq_getD_getElem?] at t0
            refine .inl ⟨rfl, ?_⟩
            go_simp
            exact ⟨Below.refl _ _, rfl⟩
          · have t5 : a.tmps.getD 5 undef = .int .i64 k := hF.at 5 (by kernel_rfl)
            rw [Array.getD_eq_getD_getElem?] at t5
            refine .inl ⟨rfl, ?_⟩
            go_simp
            exact ⟨Below.refl _ _, rfl⟩
          · have t16 : a.tmps.getD 16 undef = .slice (some ⟨b, off, none⟩) hs.length cap := hd { on := 0, ground := .data } (by simp) rfl
            rw [Array.getD_eq_getD_getElem?] at t16
            have t17 : a.tmps.getD 17 undef = .int .i64 k := hd { on := 1, ground := .data } (by simp) rfl
            rw [Array.getD_eq_getD_getElem?] at t17
            refine .inl ⟨rfl, ?_⟩
            go_simp
            exact ⟨Below.refl _ _, rfl⟩
          · have t18 : a.tmps.getD 18 undef = .pointer (some ⟨b, off + k * 6, none⟩) := hd { on := 2, ground := .data } (by simp) rfl
            rw [Array.getD_eq_getD_getElem?] at t18
            refine .inl ⟨rfl, ?_⟩
            obtain ⟨c0, c1, c2, c3, c4, c5⟩ := HCx W hE
            go_simp
            exact ⟨Below.refl _ _, rfl⟩
          · have t1 : a.tmps.getD 1 undef = .slice (some ⟨b2, off2, none⟩) ks.length cap2 := hF.at 1 (by kernel_rfl)
            rw [Array.getD_eq_getD_getElem?] at t1
            refine .inl ⟨rfl, ?_⟩
            go_simp
            exact ⟨Below.refl _ _, rfl⟩
          · have t5 : a.tmps.getD 5 undef = .int .i64 k := hF.at 5 (by kernel_rfl)
            rw [Array.getD_eq_getD_getElem?] at t5
            refine .inl ⟨rfl, ?_⟩
            go_simp
            exact ⟨Below.refl _ _, rfl⟩
          · have t20 : a.tmps.getD 20 undef = .slice (some ⟨b2, off2, none⟩) ks.length cap2 := hd { on := 4, ground := .data } (by simp) rfl
            rw [Array.getD_eq_getD_getElem?] at t20
            have t21 : a.tmps.getD 21 undef = .int .i64 k := hd { on := 5, ground := .data } (by simp) rfl
            rw [Array.getD_eq_getD_getElem?] at t21
            refine .inl ⟨rfl, ?_⟩
            go_simp
            exact ⟨Below.refl _ _, rfl⟩
          · have t22 : a.tmps.getD 22 undef = .pointer (some ⟨b2, off2 + k * 6, none⟩) := hd { on := 6, ground := .data } (by simp) rfl
            rw [Array.getD_eq_getD_getElem?] at t22
            refine .inl ⟨rfl, ?_⟩
            obtain ⟨c0, c1, c2, c3, c4, c5⟩ := HCy W hE
            go_simp
            exact ⟨Below.refl _ _, rfl⟩
          · have t19 : a.tmps.getD 19 undef = hval x (.slice ta x.tags.length tc) := hd { on := 3, ground := .data } (by simp) rfl
            rw [Array.getD_eq_getD_getElem?] at t19
            have t23 : a.tmps.getD 23 undef = hval y (.slice sa y.tags.length sc) := hd { on := 7, ground := .data } (by simp) rfl
            rw [Array.getD_eq_getD_getElem?] at t23
            refine .inl ⟨rfl, ?_⟩
            go_simp
            exact (KS W (HTx W hE) (HTy W hE)).mono fun e w2 h => ⟨_, h.1, h.2, rfl⟩
          · have t24 : a.tmps.getD 24 undef = .bool q := hd { on := 8, ground := .data } (by simp) rfl
            rw [Array.getD_eq_getD_getElem?] at t24
            refine .inl ⟨rfl, ?_⟩
            go_simp
            exact ⟨Below.refl _ _, rfl⟩
        · intro vs W hE hV
          have h9 : vs 9 = .bool (!q) := hV 9 (by decide)
          have HBf : Hid (Below w.heap.size w W) := HB.out.trans (hE.mono HB.out.size)
          clear hV hE
          simp only [putsV, dstsV, List.foldl, h9, Act.put, List.setIfInBounds_toArray, List.set_cons_succ, List.set_cons_zero]
          clear h9
          generalize vs 0 = y0
          generalize vs 1 = y1
          generalize vs 2 = y2
          generalize vs 3 = y3
          generalize vs 4 = y4
          generalize vs 5 = y5
          generalize vs 6 = y6
          generalize vs 7 = y7
          generalize vs 8 = y8
          refine ‹∀ (a : Act) (w : World), Code.wp Try.prog (Code.cond _ _ _) _ a w → _› _ _ ?_
          cases q with
          | true =>
            have HF : Hid (hs.take (k + 1) = ks.take (k + 1)) := HN.out (of_decide_eq_true HQ.out)
            go_wp2
            go_roundw
            case rel => exact ⟨k + 1, by omega, by go_num, HF.out, HBf.out⟩
            case measure => simp [intOf]; omega
          | false =>
            have HF : Hid (decide (hs = ks) = false) := HX.out (of_decide_eq_false HQ.out)
            go_wp2
            go_ret
            exact ⟨by rw [HF.out]; rfl, HBf.out⟩
      · have HF : Hid (decide (hs = ks) = true) := list_eq HL.out (by omega) HTk.out
        go_wp2
        go_ret
        exact ⟨by rw [HF.out]; rfl, HB.out⟩
  · have HF : Hid (decide (hs = ks) = false) := list_len hl
    have hne : ((hs.length : Int) != (ks.length : Int)) = true := by rw [bne_iff_ne]; omega
    clear hl
    go_enter Try.func17, Try.ntmps17
    go_wp2
    go_ret
    exact ⟨by rw [HF.out]; rfl, Below.refl _ _⟩

end Go.Proofs.Ytcafjjfaamjipaa

/-
  The reference's answers: rows of numbers held against each other.
-/
import Derived.Test.YtjknflpclniiiaaDoorBase
import Derived.Test.YtjknflpclniiiaaDoorRels
import Derived.Test.YtjknflpclniiiaaDoorChecked
import Derived.Deep.CutRange
import Derived.Deep.Light
namespace Go.Proofs.YtjknflpclniiiaaDoor
open Go.RowKit

/-- Number i of a slice that is given by its parts. -/
theorem IsInts.at {w : World} {ao : Option Addr} {n cap : Nat} {zs : List Int} (h : IsInts w (.slice ao n cap) zs) (i : Nat) (hi : i < zs.length) : ∃ b off, ao = some ⟨b, off, none⟩ ∧ b < w.heap.size ∧ w.cell? ⟨b, off + i, none⟩ = some (.int .i64 (zs.getD i 0)) := by
  rcases h.2.2 with ⟨rfl, _⟩ | ⟨_, b, off, c, e, hlt, hc⟩
  · simp at hi
  · simp only [Value.slice.injEq] at e
    exact ⟨b, off, e.1, hlt, hc i hi⟩

set_option maxRecDepth 100000 in
set_option maxHeartbeats 4000000 in
theorem rInts_any (xs ys : List Int) (v u : Value) (w : World) (hv : IsInts w v xs) (hu : IsInts w u ys) :
    Calls Tryd.prog 11 #[v, u] w fun e w' => e = .returned (.bool (decide (xs = ys))) ∧ Below w.heap.size w w' := by
  obtain ⟨ao, cap, rfl⟩ := hv.shape
  obtain ⟨bo, cap2, rfl⟩ := hu.shape
  have hl1 := hv.2.1
  have hl2 := hu.2.1
  have HV : Hid (IsInts w (.slice ao xs.length cap) xs) := hv
  have HU : Hid (IsInts w (.slice bo ys.length cap2) ys) := hu
  clear hv hu
  by_cases hl : xs.length = ys.length
  · have HL : Hid (xs.length = ys.length) := hl
    have hln : ((xs.length : Int) != (ys.length : Int)) = false := by rw [bne_eq_false_iff_eq]; omega
    clear hl
    go_enter Tryd.func11, Tryd.ntmps11
    go_wp2
    go_loopw [5, 13] (fun _ i wr => ∃ k : Nat, k ≤ xs.length ∧ i = .int .i64 k ∧ xs.take k = ys.take k ∧ Below w.heap.size w wr) (fun _ i _ => xs.length - (intOf i).toNat)
    case atStart => exact ⟨0, Nat.zero_le _, rfl, by simp, Below.refl _ _⟩
    case round =>
      obtain ⟨k, hk, rfl, ht, hb⟩ := hrel
      have HTk : Hid (xs.take k = ys.take k) := ht
      have HB : Hid (Below w.heap.size w wr) := hb
      clear ht hb
      by_cases hlt : k < xs.length
      · have hlj : k < ys.length := by have := HL.out; omega
        obtain ⟨b, off, rfl, hbl, c0⟩ := (HV.out.below HB.out).at k hlt
        obtain ⟨b2, off2, rfl, hbl2, d0⟩ := (HU.out.below HB.out).at k hlj
        have HN : Hid (xs.getD k 0 = ys.getD k 0 → xs.take (k + 1) = ys.take (k + 1)) := take_more 0 hlt hlj HTk.out
        have HX : Hid (xs.getD k 0 ≠ ys.getD k 0 → decide (xs = ys) = false) := list_ne 0
        generalize xs.getD k 0 = x at c0 HN HX
        generalize ys.getD k 0 = y at d0 HN HX
        have hk1 : (k : Int) < (xs.length : Int) := by omega
        have hk2 : (k : Int) < (ys.length : Int) := by omega
        obtain ⟨q, hq⟩ : ∃ q, (x != y) = q := ⟨_, rfl⟩
        have HQ : Hid ((x != y) = q) := hq
        have HCx : ∀ W, Below wr.heap.size wr W → W.cell? ⟨b, off + k, none⟩ = some (.int .i64 x) := fun W p => (p.cell (p := ⟨b, _, none⟩) hbl).trans c0
        have HCy : ∀ W, Below wr.heap.size wr W → W.cell? ⟨b2, off2 + k, none⟩ = some (.int .i64 y) := fun W p => (p.cell (p := ⟨b2, _, none⟩) hbl2).trans d0
        clear c0 d0
        go_upto_region 6 with fail
        refine wp_region_mp ([eqP (.slice (some ⟨b, off, none⟩) xs.length cap), eqP (.int .i64 k), eqP (.pointer (some ⟨b, off + k, none⟩)), eqP (.int .i64 x), eqP (.slice (some ⟨b2, off2, none⟩) ys.length cap2), eqP (.int .i64 k), eqP (.pointer (some ⟨b2, off2 + k, none⟩)), eqP (.int .i64 y), eqP (.bool q)]) (by kernel_rfl) (by kernel_rfl) ?_ ?_
        · go_light
          simp only [stepsAll3]
          refine ⟨fun a W hF hE hd => ?_, fun a W hF hE hd => ?_, fun a W hF hE hd => ?_, fun a W hF hE hd => ?_, fun a W hF hE hd => ?_, fun a W hF hE hd => ?_, fun a W hF hE hd => ?_, fun a W hF hE hd => ?_, fun a W hF hE hd => ?_, trivial⟩
          all_goals unfold StepAt
          · have t0 : a.tmps.getD 0 undef = .slice (some ⟨b, off, none⟩) xs.length cap := hF.at 0 (by kernel_rfl)
            rw [Array.getD_eq_getD_getElem?] at t0
            refine .inl ⟨rfl, ?_⟩
            go_simp
            exact ⟨Below.refl _ _, rfl⟩
          · have t5 : a.tmps.getD 5 undef = .int .i64 k := hF.at 5 (by kernel_rfl)
            rw [Array.getD_eq_getD_getElem?] at t5
            refine .inl ⟨rfl, ?_⟩
            go_simp
            exact ⟨Below.refl _ _, rfl⟩
          · have t16 : a.tmps.getD 16 undef = .slice (some ⟨b, off, none⟩) xs.length cap := hd { on := 0, ground := .data } (by simp) rfl
            rw [Array.getD_eq_getD_getElem?] at t16
            have t17 : a.tmps.getD 17 undef = .int .i64 k := hd { on := 1, ground := .data } (by simp) rfl
            rw [Array.getD_eq_getD_getElem?] at t17
            refine .inl ⟨rfl, ?_⟩
            go_simp
            exact ⟨Below.refl _ _, rfl⟩
          · have t18 : a.tmps.getD 18 undef = .pointer (some ⟨b, off + k, none⟩) := hd { on := 2, ground := .data } (by simp) rfl
            rw [Array.getD_eq_getD_getElem?] at t18
            refine .inl ⟨rfl, ?_⟩
            have cx := HCx W hE
            go_simp
            exact ⟨Below.refl _ _, rfl⟩
          · have t1 : a.tmps.getD 1 undef = .slice (some ⟨b2, off2, none⟩) ys.length cap2 := hF.at 1 (by kernel_rfl)
            rw [Array.getD_eq_getD_getElem?] at t1
            refine .inl ⟨rfl, ?_⟩
            go_simp
            exact ⟨Below.refl _ _, rfl⟩
          · have t5 : a.tmps.getD 5 undef = .int .i64 k := hF.at 5 (by kernel_rfl)
            rw [Array.getD_eq_getD_getElem?] at t5
            refine .inl ⟨rfl, ?_⟩
            go_simp
            exact ⟨Below.refl _ _, rfl⟩
          · have t20 : a.tmps.getD 20 undef = .slice (some ⟨b2, off2, none⟩) ys.length cap2 := hd { on := 4, ground := .data } (by simp) rfl
            rw [Array.getD_eq_getD_getElem?] at t20
            have t21 : a.tmps.getD 21 undef = .int .i64 k := hd { on := 5, ground := .data } (by simp) rfl
            rw [Array.getD_eq_getD_getElem?] at t21
            refine .inl ⟨rfl, ?_⟩
            go_simp
            exact ⟨Below.refl _ _, rfl⟩
          · have t22 : a.tmps.getD 22 undef = .pointer (some ⟨b2, off2 + k, none⟩) := hd { on := 6, ground := .data } (by simp) rfl
            rw [Array.getD_eq_getD_getElem?] at t22
            refine .inl ⟨rfl, ?_⟩
            have cy := HCy W hE
            go_simp
            exact ⟨Below.refl _ _, rfl⟩
          · have t19 : a.tmps.getD 19 undef = .int .i64 x := hd { on := 3, ground := .data } (by simp) rfl
            rw [Array.getD_eq_getD_getElem?] at t19
            have t23 : a.tmps.getD 23 undef = .int .i64 y := hd { on := 7, ground := .data } (by simp) rfl
            rw [Array.getD_eq_getD_getElem?] at t23
            refine .inl ⟨rfl, ?_⟩
            go_simp
            exact ⟨Below.refl _ _, rfl⟩
        · intro vs W hE hV
          have h8 : vs 8 = .bool q := hV 8 (by decide)
          have HBf : Hid (Below w.heap.size w W) := HB.out.trans (hE.mono HB.out.size)
          clear hV hE
          simp only [putsV, dstsV, List.foldl, h8, Act.put, List.setIfInBounds_toArray, List.set_cons_succ, List.set_cons_zero]
          clear h8
          generalize vs 0 = y0
          generalize vs 1 = y1
          generalize vs 2 = y2
          generalize vs 3 = y3
          generalize vs 4 = y4
          generalize vs 5 = y5
          generalize vs 6 = y6
          generalize vs 7 = y7
          refine ‹∀ (a : Act) (w : World), Code.wp Tryd.prog (Code.cond _ _ _) _ a w → _› _ _ ?_
          cases q with
          | false =>
            have HF : Hid (xs.take (k + 1) = ys.take (k + 1)) := HN.out (by have := HQ.out; rwa [bne_eq_false_iff_eq] at this)
            clear hq
            go_wp2
            go_roundw
            case rel => exact ⟨k + 1, by omega, by go_num, HF.out, HBf.out⟩
            case measure => simp [intOf]; omega
          | true =>
            have HF : Hid (decide (xs = ys) = false) := HX.out (by have := HQ.out; rwa [bne_iff_ne] at this)
            clear hq
            go_wp2
            go_ret
            exact ⟨by rw [HF.out]; rfl, HBf.out⟩
      · have HF : Hid (decide (xs = ys) = true) := list_eq HL.out (by omega) HTk.out
        go_wp2
        go_ret
        exact ⟨by rw [HF.out]; rfl, HB.out⟩
  · have HF : Hid (decide (xs = ys) = false) := list_len hl
    have hne : ((xs.length : Int) != (ys.length : Int)) = true := by rw [bne_iff_ne]; omega
    clear hl
    go_enter Tryd.func11, Tryd.ntmps11
    go_wp2
    go_ret
    exact ⟨by rw [HF.out]; rfl, Below.refl _ _⟩

end Go.Proofs.YtjknflpclniiiaaDoor

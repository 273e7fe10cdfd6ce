/-
  ClockPlays, for any time and any calls: each answer, the time, all timers are what the statement's own clock says. No condition.
-/
import Derived.Test.YtelpdmaphmfkiaaClockFrame
import Derived.Test.YtelpdmaphmfkiaaClockTwo
import Derived.Test.YtelpdmaphmfkiaaRel6
namespace Go.Proofs.Ytelpdmaphmfkiaa
open Go.ChangeShapes Go.WideShapes Go.ChangeAt Go.RowKit

def timersP (L : List TimerT) : MP := ⟨fun v w => IsTimers w v L, fun h hb => h.below hb⟩
theorem rsame_true (L : List TimerT) (v u : Value) (w : World) (hv : IsTimers w v L) (hu : IsTimers w u L) : Calls Try.prog 23 #[v, u] w fun e w' => e = .returned (.bool true) ∧ Below w.heap.size w w' := by
  have := rSameTimers_any L L v u w hv hu
  rwa [decide_eq_true rfl] at this

set_option maxRecDepth 100000 in
set_option maxHeartbeats 40000000 in
theorem walk_ClockPlays (a : Int) (_ : -9223372036854775808 ≤ a ∧ a ≤ 9223372036854775807) (l : List CallT) (v : Value) (w : World) (hl : IsCalls w v l) :
    Calls Try.prog 3 #[.int .i64 a, v] w fun e w' => e = .returned (.bool true) ∧ Below w.heap.size w w' := by
  obtain ⟨ao, cap, rfl⟩ := hl.shaped
  have hl63 : l.length ≤ 9223372036854775807 := hl.row.2.1.1
  have HL : Hid (IsCalls w (.slice ao l.length cap) l) := hl
  clear hl
  have KA := fun W => awake9_any W
  by_cases hbig : (150 : Int) < (l.length : Int)
  · go_enter Try.func3, Try.ntmps3
    go_wp2_with fail
    refine (KA _).mono ?_
    rintro e w1 ⟨rfl, hb⟩
    have HB1 : Hid (Below w.heap.size w w1) := hb
    clear hb KA
    go_wp2
    go_ret
    exact ⟨rfl, HB1.out⟩
  have hlen : l.length ≤ 150 := by omega
  go_enter Try.func3, Try.ntmps3
  go_wp2_with fail
  refine (knew a w).mono ?_
  rintro e w1 ⟨rfl, hk, hb⟩
  have HB1 : Hid (Below w.heap.size w w1) := hb
  have HK1 : Hid _ := hk
  clear hb hk
  go_wp2_with fail
  refine (newClock_any a w1).mono ?_
  rintro e w2 ⟨rfl, hr, hb⟩
  have HT2 : Hid (Two (fun _ => False) w.heap.size w.heap.size w1.heap.size (clampT a) [] (clampT a) [] w2) := two_new HK1.out HB1.out hr hb
  have HB2 : Hid (Below w.heap.size w w2) := HB1.out.trans (hb.mono HB1.out.size)
  clear hr hb HK1 HB1
  generalize w1.heap.size = B2 at HT2 ⊢
  go_wp2
  go_loopw [28] (fun i wr => ∃ (k : Nat) (n : Int) (L : List TimerT), k ≤ l.length ∧ i = .int .i64 k ∧ Two (fun _ => False) w.heap.size w.heap.size B2 n L n L wr ∧ Below w.heap.size w wr ∧ L.length ≤ k) (fun i _ => l.length - (intOf i).toNat)
  case atStart => exact ⟨0, _, _, Nat.zero_le _, rfl, HT2.out, HB2.out, Nat.le_refl _⟩
  case round =>
    obtain ⟨k, n, L, hkl, rfl, hT, hb, hLk⟩ := hrel
    have HB : Hid (Below w.heap.size w wr) := hb
    have HT : Hid (Two (fun _ => False) w.heap.size w.heap.size B2 n L n L wr) := hT
    have hL1 : L.length ≤ 1000000 := by omega
    clear hb hT
    by_cases hlt : k < l.length
    · obtain ⟨xc, off, rfl, hbl, c0, c1, c2, c3⟩ := (HL.out.below HB.out).at k hlt
      have hxi : inC (l.getD k noCall) := by
        rw [show l.getD k noCall = l[k] by simp [hlt]]
        exact HL.out.ok _ (List.getElem_mem _)
      generalize l.getD k noCall = x at c0 c1 c2 c3 hxi
      have hltI : (k : Int) < (l.length : Int) := by omega
      obtain ⟨xb, hxb⟩ : ∃ xb, wr.heap.size = xb := ⟨_, rfl⟩
      have HS : Hid (∀ W' : World, HasBox W' xb 31 (ccells x) → W'.cell? ⟨xb, 0, none⟩ = some (.int .i64 x.do_) ∧ W'.cell? ⟨xb, 1, none⟩ = some (.int .i64 x.t.at_) ∧ W'.cell? ⟨xb, 2, none⟩ = some (.int .i64 x.t.kind) ∧ W'.cell? ⟨xb, 3, none⟩ = some (.int .i64 x.t.id)) := fun W' h => ⟨h.cell 0, h.cell 1, h.cell 2, h.cell 3⟩
      cases q0 : (x.do_ == 0) with
      | true =>
        cases hr : setOK n x.t with
        | true =>
          have HR : Hid (setOK n x.t = true) := hr
          go_upto_region 13 with fail
          generalize hW : wr.alloc _ = wc
          have HXc : Hid (HasBox wc xb 31 (ccells x)) := by show HasBox _ _ _ _; rw [← hW, ← hxb]; exact hasBox_new wr _ _
          have HBc : Hid (Below w.heap.size w wc) := by show Below _ _ _; rw [← hW]; exact HB.out.alloc HB.out.size _
          have HTc : Hid (Two (fun b => b = xb) w.heap.size w.heap.size B2 n L n L wc) := by
            show Two _ _ _ _ _ _ _ _ _
            rw [← hW]
            exact (HT.out.fresh ((Below.refl wr.heap.size wr).alloc (Nat.le_refl _) _)).mono fun b hb => .inr (by rw [hb, ← hxb]; exact ⟨Nat.le_refl _, by simp⟩)
          clear hW
          have hTd : Two (fun b => b = xb) w.heap.size w.heap.size B2 n L n L wc.drew := HTc.out.below (Below.refl _ _).drew
          have KP := pset hTd hL1 x.t hxi.2
          rw [hr] at KP
          clear hr
          refine wp_region_split 7 (fun W' => W'.cell? ⟨xb, 0, none⟩ = some (.int .i64 x.do_) ∧ W'.cell? ⟨xb, 1, none⟩ = some (.int .i64 x.t.at_) ∧ W'.cell? ⟨xb, 2, none⟩ = some (.int .i64 x.t.kind) ∧ W'.cell? ⟨xb, 3, none⟩ = some (.int .i64 x.t.id)) (by kernel_rfl) (by kernel_rfl) (HS.out _ (HXc.out.below (Below.refl _ _).drew)) (fun hS0 => ?_)
          simp only [List.take_succ_cons, List.take_zero, List.drop_succ_cons, List.drop_zero]
          refine takeH (i := 0) (v := .pointer (some ⟨w.heap.size, 0, none⟩)) rfl (by kernel_rfl) (by kernel_rfl) (by kernel_rfl) (fun _ _ _ h => h) (Or.inl ⟨by rfl, ?_⟩) hS0 ?_
          · intro wS hSw
            go_simp
          go_frame
          refine takeH (i := 1) (v := .pointer (some ⟨xb, 1, none⟩)) rfl (by kernel_rfl) (by kernel_rfl) (by kernel_rfl) (fun _ _ _ h => h) (Or.inl ⟨by rfl, ?_⟩) hS0 ?_
          · intro wS hSw
            go_simp
          go_frame
          refine takeH (i := 2) (v := tval x.t) rfl (by kernel_rfl) (by kernel_rfl) (by kernel_rfl) (fun _ _ _ h => h) (Or.inl ⟨by rfl, ?_⟩) hS0 ?_
          · intro wS hSw
            go_simp
          go_frame
          refine takeH (i := 4) (v := .pointer (some ⟨B2, 0, none⟩)) rfl (by kernel_rfl) (by kernel_rfl) (by kernel_rfl) (fun _ _ _ h => h) (Or.inl ⟨by rfl, ?_⟩) hS0 ?_
          · intro wS hSw
            go_simp
          go_frame
          refine takeH (i := 5) (v := .pointer (some ⟨xb, 1, none⟩)) rfl (by kernel_rfl) (by kernel_rfl) (by kernel_rfl) (fun _ _ _ h => h) (Or.inl ⟨by rfl, ?_⟩) hS0 ?_
          · intro wS hSw
            go_simp
          go_frame
          refine takeH (i := 6) (v := tval x.t) rfl (by kernel_rfl) (by kernel_rfl) (by kernel_rfl) (fun _ _ _ h => h) (Or.inl ⟨by rfl, ?_⟩) hS0 ?_
          · intro wS hSw
            go_simp
          go_frame
          refine wpAnyH_ready (rs := [3]) (by kernel_rfl) (by simp) ?_
          refine readyH_cons rfl (fun K hK => ?_) AllReadyH.nil
          go_simp
          refine (KP).mono ?_
          rintro e w5 ⟨rfl, hT5, hp5⟩
          have HX5 : Hid (HasBox w5 xb 31 (ccells x)) := hp5.box rfl (HXc.out.below (Below.refl _ _).drew)
          have HB5 : Hid (Below w.heap.size w w5) := (HBc.out.drew).trans hp5.below
          refine hK.out _ _ (HS.out _ HX5.out) (fun hS5 => ?_)
          clear hK K
          refine wpAnyH_done (by kernel_rfl) ?_ _
          clear hS0 hp5
          unfold afterHead
          have KQ := (by have h := qset hT5 hL1 x.t hxi.2; rw [HR.out] at h; exact h)
          clear hT5
          go_wp2_with fail
          refine KQ.mono ?_
          rintro e w6 ⟨rfl, hT6, hp6⟩
          have HX6 : Hid (HasBox w6 xb 31 (ccells x)) := hp6.box rfl HX5.out
          have HB6 : Hid (Below w.heap.size w w6) := HB5.out.trans hp6.below
          have HT6 : Hid _ := hT6
          clear hp6 KQ hT6 hS5
          go_wp2_with fail
          have HTw : ∀ W, Below w6.heap.size w6 W → Two (fun b => b = xb) w.heap.size w.heap.size B2 (n) (setT n L x.t) (n) (setT n L x.t) W := fun W q => HT6.out.below q
          have hLen : (setT n L x.t).length ≤ 1000000 := by have := setT_length n L x.t; omega
          obtain ⟨so, sc, e0, e1, e2⟩ := HT6.out.own
          have hB2l : B2 < w6.heap.size := World.block_lt_of_cell? _ _ e0
          have HCell : ∀ W, Below w6.heap.size w6 W → W.cell? ⟨B2, 0, none⟩ = some (.int .i64 (n)) ∧ W.cell? ⟨B2, 1, none⟩ = some (.slice so (setT n L x.t).length sc) ∧ IsTimers W (.slice so (setT n L x.t).length sc) (setT n L x.t) := fun W q => ⟨(q.cell (p := ⟨B2, 0, none⟩) hB2l).trans e0, (q.cell (p := ⟨B2, 1, none⟩) hB2l).trans e1, e2.below q⟩
          clear e0 e1 e2
          refine wp_region_mp ([eqP (.bool true), eqP (.bool false), eqP (.bool false), eqP (.pointer (some ⟨w.heap.size, 0, none⟩)), eqP (.int .i64 (n)), eqP (.pointer (some ⟨B2, 0, none⟩)), eqP (.pointer (some ⟨B2, 0, none⟩)), eqP (.pointer (some ⟨B2, 0, none⟩)), eqP (.int .i64 (n)), eqP (.bool false), eqP (.bool false), eqP (.bool false), eqP (.pointer (some ⟨w.heap.size, 0, none⟩)), timersP (setT n L x.t), eqP (.pointer (some ⟨B2, 0, none⟩)), eqP (.pointer (some ⟨B2, 0, none⟩)), eqP (.pointer (some ⟨B2, 1, none⟩)), eqP (.slice so (setT n L x.t).length sc), eqP (.bool true), eqP (.bool false), eqP (.bool false)]) (by kernel_rfl) (by kernel_rfl) ?_ ?_
          · go_light
            simp only [stepsAll3]
            refine ⟨fun a W hF hE hd => ?_, fun a W hF hE hd => ?_, fun a W hF hE hd => ?_, fun a W hF hE hd => ?_, fun a W hF hE hd => ?_, fun a W hF hE hd => ?_, fun a W hF hE hd => ?_, fun a W hF hE hd => ?_, fun a W hF hE hd => ?_, fun a W hF hE hd => ?_, fun a W hF hE hd => ?_, fun a W hF hE hd => ?_, fun a W hF hE hd => ?_, fun a W hF hE hd => ?_, fun a W hF hE hd => ?_, fun a W hF hE hd => ?_, fun a W hF hE hd => ?_, fun a W hF hE hd => ?_, fun a W hF hE hd => ?_, fun a W hF hE hd => ?_, fun a W hF hE hd => ?_, trivial⟩
            all_goals unfold StepAt
            · have t9 : a.tmps.getD 9 undef = .bool true := hF.at 9 (by kernel_rfl)
              rw [Array.getD_eq_getD_getElem?] at t9
              refine .inl ⟨rfl, ?_⟩
              go_simp
              exact ⟨Below.refl _ _, rfl⟩
            · have t133 : a.tmps.getD 133 undef = .bool true := hd { on := 0, ground := .data } (by simp) rfl
              rw [Array.getD_eq_getD_getElem?] at t133
              refine .inl ⟨rfl, ?_⟩
              go_simp
              exact ⟨Below.refl _ _, rfl⟩
            · have t134 : a.tmps.getD 134 undef = .bool false := hd { on := 1, ground := .data } (by simp) rfl
              rw [Array.getD_eq_getD_getElem?] at t134
              refine .inl ⟨rfl, ?_⟩
              go_simp
              exact ⟨Below.refl _ _, rfl⟩
            · have t5 : a.tmps.getD 5 undef = .pointer (some ⟨w.heap.size, 0, none⟩) := hF.at 5 (by kernel_rfl)
              rw [Array.getD_eq_getD_getElem?] at t5
              have g135 : a.eval (.tmp 135) = .bool false := hd { on := 2, ground := .guard } (by simp) rfl
              refine .inl ⟨(by simp only [Region.wanted]; rw [yielded_of (d := 135) (by rfl) g135]; rfl), ?_⟩
              clear g135
              go_simp
              exact ⟨Below.refl _ _, rfl⟩
            · have t136 : a.tmps.getD 136 undef = .pointer (some ⟨w.heap.size, 0, none⟩) := hd { on := 3, ground := .data } (by simp) rfl
              rw [Array.getD_eq_getD_getElem?] at t136
              have g135 : a.eval (.tmp 135) = .bool false := hd { on := 2, ground := .guard } (by simp) rfl
              refine .inl ⟨(by simp only [Region.wanted]; rw [yielded_of (d := 135) (by rfl) g135]; rfl), ?_⟩
              clear g135
              go_simp
              exact ((know ((HTw W hE).ck)).mono fun e w2 h => (⟨h.1, by rw [h.2]; exact Below.refl _ _⟩ : _ ∧ Below W.heap.size W w2)).mono fun e w2 h => ⟨_, h.1, h.2, rfl⟩
            · have t6 : a.tmps.getD 6 undef = .pointer (some ⟨B2, 0, none⟩) := hF.at 6 (by kernel_rfl)
              rw [Array.getD_eq_getD_getElem?] at t6
              have g135 : a.eval (.tmp 135) = .bool false := hd { on := 2, ground := .guard } (by simp) rfl
              refine .inl ⟨(by simp only [Region.wanted]; rw [yielded_of (d := 135) (by rfl) g135]; rfl), ?_⟩
              clear g135
              go_simp
              exact ⟨Below.refl _ _, rfl⟩
            · have t138 : a.tmps.getD 138 undef = .pointer (some ⟨B2, 0, none⟩) := hd { on := 5, ground := .data } (by simp) rfl
              rw [Array.getD_eq_getD_getElem?] at t138
              have g135 : a.eval (.tmp 135) = .bool false := hd { on := 2, ground := .guard } (by simp) rfl
              refine .inl ⟨(by simp only [Region.wanted]; rw [yielded_of (d := 135) (by rfl) g135]; rfl), ?_⟩
              clear g135
              go_simp
              exact ⟨Below.refl _ _, rfl⟩
            · have t139 : a.tmps.getD 139 undef = .pointer (some ⟨B2, 0, none⟩) := hd { on := 6, ground := .data } (by simp) rfl
              rw [Array.getD_eq_getD_getElem?] at t139
              have g135 : a.eval (.tmp 135) = .bool false := hd { on := 2, ground := .guard } (by simp) rfl
              refine .inl ⟨(by simp only [Region.wanted]; rw [yielded_of (d := 135) (by rfl) g135]; rfl), ?_⟩
              clear g135
              go_simp
              exact ⟨Below.refl _ _, rfl⟩
            · have t140 : a.tmps.getD 140 undef = .pointer (some ⟨B2, 0, none⟩) := hd { on := 7, ground := .data } (by simp) rfl
              rw [Array.getD_eq_getD_getElem?] at t140
              have g135 : a.eval (.tmp 135) = .bool false := hd { on := 2, ground := .guard } (by simp) rfl
              refine .inl ⟨(by simp only [Region.wanted]; rw [yielded_of (d := 135) (by rfl) g135]; rfl), ?_⟩
              clear g135
              have z0 := (HCell W hE).1
              have z1 := (HCell W hE).2.1
              go_simp
              exact ⟨Below.refl _ _, rfl⟩
            · have t137 : a.tmps.getD 137 undef = .int .i64 (n) := hd { on := 4, ground := .data } (by simp) rfl
              rw [Array.getD_eq_getD_getElem?] at t137
              have t141 : a.tmps.getD 141 undef = .int .i64 (n) := hd { on := 8, ground := .data } (by simp) rfl
              rw [Array.getD_eq_getD_getElem?] at t141
              have g135 : a.eval (.tmp 135) = .bool false := hd { on := 2, ground := .guard } (by simp) rfl
              refine .inl ⟨(by simp only [Region.wanted]; rw [yielded_of (d := 135) (by rfl) g135]; rfl), ?_⟩
              clear g135
              go_simp
              exact ⟨Below.refl _ _, rfl⟩
            · have t135 : a.tmps.getD 135 undef = .bool false := hd { on := 2, ground := .data } (by simp) rfl
              rw [Array.getD_eq_getD_getElem?] at t135
              have t142 : a.tmps.getD 142 undef = .bool false := hd { on := 9, ground := .data } (by simp) rfl
              rw [Array.getD_eq_getD_getElem?] at t142
              refine .inl ⟨rfl, ?_⟩
              go_simp
              exact ⟨Below.refl _ _, rfl⟩
            · have t143 : a.tmps.getD 143 undef = .bool false := hd { on := 10, ground := .data } (by simp) rfl
              rw [Array.getD_eq_getD_getElem?] at t143
              refine .inl ⟨rfl, ?_⟩
              go_simp
              exact ⟨Below.refl _ _, rfl⟩
            · have t5 : a.tmps.getD 5 undef = .pointer (some ⟨w.heap.size, 0, none⟩) := hF.at 5 (by kernel_rfl)
              rw [Array.getD_eq_getD_getElem?] at t5
              have g144 : a.eval (.tmp 144) = .bool false := hd { on := 11, ground := .guard } (by simp) rfl
              refine .inl ⟨(by simp only [Region.wanted]; rw [yielded_of (d := 144) (by rfl) g144]; rfl), ?_⟩
              clear g144
              go_simp
              exact ⟨Below.refl _ _, rfl⟩
            · have t145 : a.tmps.getD 145 undef = .pointer (some ⟨w.heap.size, 0, none⟩) := hd { on := 12, ground := .data } (by simp) rfl
              rw [Array.getD_eq_getD_getElem?] at t145
              have g144 : a.eval (.tmp 144) = .bool false := hd { on := 11, ground := .guard } (by simp) rfl
              refine .inl ⟨(by simp only [Region.wanted]; rw [yielded_of (d := 144) (by rfl) g144]; rfl), ?_⟩
              clear g144
              go_simp
              exact (kall ((HTw W hE).ck) (by omega)).mono fun e w2 ⟨ao, cap, h1, h2, h3⟩ => ⟨_, h1, h3, h2⟩
            · have t6 : a.tmps.getD 6 undef = .pointer (some ⟨B2, 0, none⟩) := hF.at 6 (by kernel_rfl)
              rw [Array.getD_eq_getD_getElem?] at t6
              have g144 : a.eval (.tmp 144) = .bool false := hd { on := 11, ground := .guard } (by simp) rfl
              refine .inl ⟨(by simp only [Region.wanted]; rw [yielded_of (d := 144) (by rfl) g144]; rfl), ?_⟩
              clear g144
              go_simp
              exact ⟨Below.refl _ _, rfl⟩
            · have t147 : a.tmps.getD 147 undef = .pointer (some ⟨B2, 0, none⟩) := hd { on := 14, ground := .data } (by simp) rfl
              rw [Array.getD_eq_getD_getElem?] at t147
              have g144 : a.eval (.tmp 144) = .bool false := hd { on := 11, ground := .guard } (by simp) rfl
              refine .inl ⟨(by simp only [Region.wanted]; rw [yielded_of (d := 144) (by rfl) g144]; rfl), ?_⟩
              clear g144
              go_simp
              exact ⟨Below.refl _ _, rfl⟩
            · have t148 : a.tmps.getD 148 undef = .pointer (some ⟨B2, 0, none⟩) := hd { on := 15, ground := .data } (by simp) rfl
              rw [Array.getD_eq_getD_getElem?] at t148
              have g144 : a.eval (.tmp 144) = .bool false := hd { on := 11, ground := .guard } (by simp) rfl
              refine .inl ⟨(by simp only [Region.wanted]; rw [yielded_of (d := 144) (by rfl) g144]; rfl), ?_⟩
              clear g144
              go_simp
              exact ⟨Below.refl _ _, rfl⟩
            · have t149 : a.tmps.getD 149 undef = .pointer (some ⟨B2, 1, none⟩) := hd { on := 16, ground := .data } (by simp) rfl
              rw [Array.getD_eq_getD_getElem?] at t149
              have g144 : a.eval (.tmp 144) = .bool false := hd { on := 11, ground := .guard } (by simp) rfl
              refine .inl ⟨(by simp only [Region.wanted]; rw [yielded_of (d := 144) (by rfl) g144]; rfl), ?_⟩
              clear g144
              have z0 := (HCell W hE).1
              have z1 := (HCell W hE).2.1
              go_simp
              exact ⟨Below.refl _ _, rfl⟩
            · have h146 : IsTimers W (a.tmps.getD 146 undef) (setT n L x.t) := hd { on := 13, ground := .data } (by simp) rfl
              obtain ⟨p146, q146, t146⟩ := h146.shaped
              rw [t146] at h146
              rw [Array.getD_eq_getD_getElem?] at t146
              have t150 : a.tmps.getD 150 undef = .slice so (setT n L x.t).length sc := hd { on := 17, ground := .data } (by simp) rfl
              rw [Array.getD_eq_getD_getElem?] at t150
              have g144 : a.eval (.tmp 144) = .bool false := hd { on := 11, ground := .guard } (by simp) rfl
              refine .inl ⟨(by simp only [Region.wanted]; rw [yielded_of (d := 144) (by rfl) g144]; rfl), ?_⟩
              clear g144
              go_simp
              exact (rsame_true (setT n L x.t) _ _ W h146 (HCell W hE).2.2).mono fun e w2 h => ⟨_, h.1, h.2, rfl⟩
            · have t151 : a.tmps.getD 151 undef = .bool true := hd { on := 18, ground := .data } (by simp) rfl
              rw [Array.getD_eq_getD_getElem?] at t151
              have g144 : a.eval (.tmp 144) = .bool false := hd { on := 11, ground := .guard } (by simp) rfl
              refine .inl ⟨(by simp only [Region.wanted]; rw [yielded_of (d := 144) (by rfl) g144]; rfl), ?_⟩
              clear g144
              go_simp
              exact ⟨Below.refl _ _, rfl⟩
            · have t144 : a.tmps.getD 144 undef = .bool false := hd { on := 11, ground := .data } (by simp) rfl
              rw [Array.getD_eq_getD_getElem?] at t144
              have t152 : a.tmps.getD 152 undef = .bool false := hd { on := 19, ground := .data } (by simp) rfl
              rw [Array.getD_eq_getD_getElem?] at t152
              refine .inl ⟨rfl, ?_⟩
              go_simp
              exact ⟨Below.refl _ _, rfl⟩
          · intro vs W hE hV
            have h20 : vs 20 = .bool false := hV 20 (by decide)
            have HTF : Hid (Two (fun b => b = xb) w.heap.size w.heap.size B2 (n) (setT n L x.t) (n) (setT n L x.t) W) := HTw W hE
            have HBf : Hid (Below w.heap.size w W) := HB6.out.trans (hE.mono HB6.out.size)
            clear hV hE
            simp only [putsV, dstsV, List.foldl, h20, Act.put, List.setIfInBounds_toArray, List.set_cons_succ, List.set_cons_zero]
            clear h20
            generalize vs 0 = y0
            generalize vs 1 = y1
            generalize vs 2 = y2
            generalize vs 3 = y3
            generalize vs 4 = y4
            generalize vs 5 = y5
            generalize vs 6 = y6
            generalize vs 7 = y7
            generalize vs 8 = y8
            generalize vs 9 = y9
            generalize vs 10 = y10
            generalize vs 11 = y11
            generalize vs 12 = y12
            generalize vs 13 = y13
            generalize vs 14 = y14
            generalize vs 15 = y15
            generalize vs 16 = y16
            generalize vs 17 = y17
            generalize vs 18 = y18
            generalize vs 19 = y19
            refine ‹∀ (a : Act) (w : World), Code.wp Try.prog (Code.cond _ _ _) _ a w → _› _ _ ?_
            clear HTw HCell hB2l
            go_wp2
            go_roundw
            case rel => exact ⟨k + 1, n, setT n L x.t, by omega, by go_num, HTF.out.mono fun _ h => h.elim, HBf.out, by have := setT_length n L x.t; omega⟩
            case measure => simp [intOf]; omega
        | false =>
          have HR : Hid (setOK n x.t = false) := hr
          go_upto_region 13 with fail
          generalize hW : wr.alloc _ = wc
          have HXc : Hid (HasBox wc xb 31 (ccells x)) := by show HasBox _ _ _ _; rw [← hW, ← hxb]; exact hasBox_new wr _ _
          have HBc : Hid (Below w.heap.size w wc) := by show Below _ _ _; rw [← hW]; exact HB.out.alloc HB.out.size _
          have HTc : Hid (Two (fun b => b = xb) w.heap.size w.heap.size B2 n L n L wc) := by
            show Two _ _ _ _ _ _ _ _ _
            rw [← hW]
            exact (HT.out.fresh ((Below.refl wr.heap.size wr).alloc (Nat.le_refl _) _)).mono fun b hb => .inr (by rw [hb, ← hxb]; exact ⟨Nat.le_refl _, by simp⟩)
          clear hW
          have hTd : Two (fun b => b = xb) w.heap.size w.heap.size B2 n L n L wc.drew := HTc.out.below (Below.refl _ _).drew
          have KP := pset hTd hL1 x.t hxi.2
          rw [hr] at KP
          clear hr
          refine wp_region_split 7 (fun W' => W'.cell? ⟨xb, 0, none⟩ = some (.int .i64 x.do_) ∧ W'.cell? ⟨xb, 1, none⟩ = some (.int .i64 x.t.at_) ∧ W'.cell? ⟨xb, 2, none⟩ = some (.int .i64 x.t.kind) ∧ W'.cell? ⟨xb, 3, none⟩ = some (.int .i64 x.t.id)) (by kernel_rfl) (by kernel_rfl) (HS.out _ (HXc.out.below (Below.refl _ _).drew)) (fun hS0 => ?_)
          simp only [List.take_succ_cons, List.take_zero, List.drop_succ_cons, List.drop_zero]
          refine takeH (i := 0) (v := .pointer (some ⟨w.heap.size, 0, none⟩)) rfl (by kernel_rfl) (by kernel_rfl) (by kernel_rfl) (fun _ _ _ h => h) (Or.inl ⟨by rfl, ?_⟩) hS0 ?_
          · intro wS hSw
            go_simp
          go_frame
          refine takeH (i := 1) (v := .pointer (some ⟨xb, 1, none⟩)) rfl (by kernel_rfl) (by kernel_rfl) (by kernel_rfl) (fun _ _ _ h => h) (Or.inl ⟨by rfl, ?_⟩) hS0 ?_
          · intro wS hSw
            go_simp
          go_frame
          refine takeH (i := 2) (v := tval x.t) rfl (by kernel_rfl) (by kernel_rfl) (by kernel_rfl) (fun _ _ _ h => h) (Or.inl ⟨by rfl, ?_⟩) hS0 ?_
          · intro wS hSw
            go_simp
          go_frame
          refine takeH (i := 4) (v := .pointer (some ⟨B2, 0, none⟩)) rfl (by kernel_rfl) (by kernel_rfl) (by kernel_rfl) (fun _ _ _ h => h) (Or.inl ⟨by rfl, ?_⟩) hS0 ?_
          · intro wS hSw
            go_simp
          go_frame
          refine takeH (i := 5) (v := .pointer (some ⟨xb, 1, none⟩)) rfl (by kernel_rfl) (by kernel_rfl) (by kernel_rfl) (fun _ _ _ h => h) (Or.inl ⟨by rfl, ?_⟩) hS0 ?_
          · intro wS hSw
            go_simp
          go_frame
          refine takeH (i := 6) (v := tval x.t) rfl (by kernel_rfl) (by kernel_rfl) (by kernel_rfl) (fun _ _ _ h => h) (Or.inl ⟨by rfl, ?_⟩) hS0 ?_
          · intro wS hSw
            go_simp
          go_frame
          refine wpAnyH_ready (rs := [3]) (by kernel_rfl) (by simp) ?_
          refine readyH_cons rfl (fun K hK => ?_) AllReadyH.nil
          go_simp
          refine (KP).mono ?_
          rintro e w5 ⟨rfl, hT5, hp5⟩
          have HX5 : Hid (HasBox w5 xb 31 (ccells x)) := hp5.box rfl (HXc.out.below (Below.refl _ _).drew)
          have HB5 : Hid (Below w.heap.size w w5) := (HBc.out.drew).trans hp5.below
          refine hK.out _ _ (HS.out _ HX5.out) (fun hS5 => ?_)
          clear hK K
          refine wpAnyH_done (by kernel_rfl) ?_ _
          clear hS0 hp5
          unfold afterHead
          have KQ := (by have h := qset hT5 hL1 x.t hxi.2; rw [HR.out] at h; exact h)
          clear hT5
          go_wp2_with fail
          refine KQ.mono ?_
          rintro e w6 ⟨rfl, hT6, hp6⟩
          have HX6 : Hid (HasBox w6 xb 31 (ccells x)) := hp6.box rfl HX5.out
          have HB6 : Hid (Below w.heap.size w w6) := HB5.out.trans hp6.below
          have HT6 : Hid _ := hT6
          clear hp6 KQ hT6 hS5
          go_wp2_with fail
          have HTw : ∀ W, Below w6.heap.size w6 W → Two (fun b => b = xb) w.heap.size w.heap.size B2 (n) (setT n L x.t) (n) (setT n L x.t) W := fun W q => HT6.out.below q
          have hLen : (setT n L x.t).length ≤ 1000000 := by have := setT_length n L x.t; omega
          obtain ⟨so, sc, e0, e1, e2⟩ := HT6.out.own
          have hB2l : B2 < w6.heap.size := World.block_lt_of_cell? _ _ e0
          have HCell : ∀ W, Below w6.heap.size w6 W → W.cell? ⟨B2, 0, none⟩ = some (.int .i64 (n)) ∧ W.cell? ⟨B2, 1, none⟩ = some (.slice so (setT n L x.t).length sc) ∧ IsTimers W (.slice so (setT n L x.t).length sc) (setT n L x.t) := fun W q => ⟨(q.cell (p := ⟨B2, 0, none⟩) hB2l).trans e0, (q.cell (p := ⟨B2, 1, none⟩) hB2l).trans e1, e2.below q⟩
          clear e0 e1 e2
          refine wp_region_mp ([eqP (.bool true), eqP (.bool false), eqP (.bool false), eqP (.pointer (some ⟨w.heap.size, 0, none⟩)), eqP (.int .i64 (n)), eqP (.pointer (some ⟨B2, 0, none⟩)), eqP (.pointer (some ⟨B2, 0, none⟩)), eqP (.pointer (some ⟨B2, 0, none⟩)), eqP (.int .i64 (n)), eqP (.bool false), eqP (.bool false), eqP (.bool false), eqP (.pointer (some ⟨w.heap.size, 0, none⟩)), timersP (setT n L x.t), eqP (.pointer (some ⟨B2, 0, none⟩)), eqP (.pointer (some ⟨B2, 0, none⟩)), eqP (.pointer (some ⟨B2, 1, none⟩)), eqP (.slice so (setT n L x.t).length sc), eqP (.bool true), eqP (.bool false), eqP (.bool false)]) (by kernel_rfl) (by kernel_rfl) ?_ ?_
          · go_light
            simp only [stepsAll3]
            refine ⟨fun a W hF hE hd => ?_, fun a W hF hE hd => ?_, fun a W hF hE hd => ?_, fun a W hF hE hd => ?_, fun a W hF hE hd => ?_, fun a W hF hE hd => ?_, fun a W hF hE hd => ?_, fun a W hF hE hd => ?_, fun a W hF hE hd => ?_, fun a W hF hE hd => ?_, fun a W hF hE hd => ?_, fun a W hF hE hd => ?_, fun a W hF hE hd => ?_, fun a W hF hE hd => ?_, fun a W hF hE hd => ?_, fun a W hF hE hd => ?_, fun a W hF hE hd => ?_, fun a W hF hE hd => ?_, fun a W hF hE hd => ?_, fun a W hF hE hd => ?_, fun a W hF hE hd => ?_, trivial⟩
            all_goals unfold StepAt
            · have t9 : a.tmps.getD 9 undef = .bool true := hF.at 9 (by kernel_rfl)
              rw [Array.getD_eq_getD_getElem?] at t9
              refine .inl ⟨rfl, ?_⟩
              go_simp
              exact ⟨Below.refl _ _, rfl⟩
            · have t133 : a.tmps.getD 133 undef = .bool true := hd { on := 0, ground := .data } (by simp) rfl
              rw [Array.getD_eq_getD_getElem?] at t133
              refine .inl ⟨rfl, ?_⟩
              go_simp
              exact ⟨Below.refl _ _, rfl⟩
            · have t134 : a.tmps.getD 134 undef = .bool false := hd { on := 1, ground := .data } (by simp) rfl
              rw [Array.getD_eq_getD_getElem?] at t134
              refine .inl ⟨rfl, ?_⟩
              go_simp
              exact ⟨Below.refl _ _, rfl⟩
            · have t5 : a.tmps.getD 5 undef = .pointer (some ⟨w.heap.size, 0, none⟩) := hF.at 5 (by kernel_rfl)
              rw [Array.getD_eq_getD_getElem?] at t5
              have g135 : a.eval (.tmp 135) = .bool false := hd { on := 2, ground := .guard } (by simp) rfl
              refine .inl ⟨(by simp only [Region.wanted]; rw [yielded_of (d := 135) (by rfl) g135]; rfl), ?_⟩
              clear g135
              go_simp
              exact ⟨Below.refl _ _, rfl⟩
            · have t136 : a.tmps.getD 136 undef = .pointer (some ⟨w.heap.size, 0, none⟩) := hd { on := 3, ground := .data } (by simp) rfl
              rw [Array.getD_eq_getD_getElem?] at t136
              have g135 : a.eval (.tmp 135) = .bool false := hd { on := 2, ground := .guard } (by simp) rfl
              refine .inl ⟨(by simp only [Region.wanted]; rw [yielded_of (d := 135) (by rfl) g135]; rfl), ?_⟩
              clear g135
              go_simp
              exact ((know ((HTw W hE).ck)).mono fun e w2 h => (⟨h.1, by rw [h.2]; exact Below.refl _ _⟩ : _ ∧ Below W.heap.size W w2)).mono fun e w2 h => ⟨_, h.1, h.2, rfl⟩
            · have t6 : a.tmps.getD 6 undef = .pointer (some ⟨B2, 0, none⟩) := hF.at 6 (by kernel_rfl)
              rw [Array.getD_eq_getD_getElem?] at t6
              have g135 : a.eval (.tmp 135) = .bool false := hd { on := 2, ground := .guard } (by simp) rfl
              refine .inl ⟨(by simp only [Region.wanted]; rw [yielded_of (d := 135) (by rfl) g135]; rfl), ?_⟩
              clear g135
              go_simp
              exact ⟨Below.refl _ _, rfl⟩
            · have t138 : a.tmps.getD 138 undef = .pointer (some ⟨B2, 0, none⟩) := hd { on := 5, ground := .data } (by simp) rfl
              rw [Array.getD_eq_getD_getElem?] at t138
              have g135 : a.eval (.tmp 135) = .bool false := hd { on := 2, ground := .guard } (by simp) rfl
              refine .inl ⟨(by simp only [Region.wanted]; rw [yielded_of (d := 135) (by rfl) g135]; rfl), ?_⟩
              clear g135
              go_simp
              exact ⟨Below.refl _ _, rfl⟩
            · have t139 : a.tmps.getD 139 undef = .pointer (some ⟨B2, 0, none⟩) := hd { on := 6, ground := .data } (by simp) rfl
              rw [Array.getD_eq_getD_getElem?] at t139
              have g135 : a.eval (.tmp 135) = .bool false := hd { on := 2, ground := .guard } (by simp) rfl
              refine .inl ⟨(by simp only [Region.wanted]; rw [yielded_of (d := 135) (by rfl) g135]; rfl), ?_⟩
              clear g135
              go_simp
              exact ⟨Below.refl _ _, rfl⟩
            · have t140 : a.tmps.getD 140 undef = .pointer (some ⟨B2, 0, none⟩) := hd { on := 7, ground := .data } (by simp) rfl
              rw [Array.getD_eq_getD_getElem?] at t140
              have g135 : a.eval (.tmp 135) = .bool false := hd { on := 2, ground := .guard } (by simp) rfl
              refine .inl ⟨(by simp only [Region.wanted]; rw [yielded_of (d := 135) (by rfl) g135]; rfl), ?_⟩
              clear g135
              have z0 := (HCell W hE).1
              have z1 := (HCell W hE).2.1
              go_simp
              exact ⟨Below.refl _ _, rfl⟩
            · have t137 : a.tmps.getD 137 undef = .int .i64 (n) := hd { on := 4, ground := .data } (by simp) rfl
              rw [Array.getD_eq_getD_getElem?] at t137
              have t141 : a.tmps.getD 141 undef = .int .i64 (n) := hd { on := 8, ground := .data } (by simp) rfl
              rw [Array.getD_eq_getD_getElem?] at t141
              have g135 : a.eval (.tmp 135) = .bool false := hd { on := 2, ground := .guard } (by simp) rfl
              refine .inl ⟨(by simp only [Region.wanted]; rw [yielded_of (d := 135) (by rfl) g135]; rfl), ?_⟩
              clear g135
              go_simp
              exact ⟨Below.refl _ _, rfl⟩
            · have t135 : a.tmps.getD 135 undef = .bool false := hd { on := 2, ground := .data } (by simp) rfl
              rw [Array.getD_eq_getD_getElem?] at t135
              have t142 : a.tmps.getD 142 undef = .bool false := hd { on := 9, ground := .data } (by simp) rfl
              rw [Array.getD_eq_getD_getElem?] at t142
              refine .inl ⟨rfl, ?_⟩
              go_simp
              exact ⟨Below.refl _ _, rfl⟩
            · have t143 : a.tmps.getD 143 undef = .bool false := hd { on := 10, ground := .data } (by simp) rfl
              rw [Array.getD_eq_getD_getElem?] at t143
              refine .inl ⟨rfl, ?_⟩
              go_simp
              exact ⟨Below.refl _ _, rfl⟩
            · have t5 : a.tmps.getD 5 undef = .pointer (some ⟨w.heap.size, 0, none⟩) := hF.at 5 (by kernel_rfl)
              rw [Array.getD_eq_getD_getElem?] at t5
              have g144 : a.eval (.tmp 144) = .bool false := hd { on := 11, ground := .guard } (by simp) rfl
              refine .inl ⟨(by simp only [Region.wanted]; rw [yielded_of (d := 144) (by rfl) g144]; rfl), ?_⟩
              clear g144
              go_simp
              exact ⟨Below.refl _ _, rfl⟩
            · have t145 : a.tmps.getD 145 undef = .pointer (some ⟨w.heap.size, 0, none⟩) := hd { on := 12, ground := .data } (by simp) rfl
              rw [Array.getD_eq_getD_getElem?] at t145
              have g144 : a.eval (.tmp 144) = .bool false := hd { on := 11, ground := .guard } (by simp) rfl
              refine .inl ⟨(by simp only [Region.wanted]; rw [yielded_of (d := 144) (by rfl) g144]; rfl), ?_⟩
              clear g144
              go_simp
              exact (kall ((HTw W hE).ck) (by omega)).mono fun e w2 ⟨ao, cap, h1, h2, h3⟩ => ⟨_, h1, h3, h2⟩
            · have t6 : a.tmps.getD 6 undef = .pointer (some ⟨B2, 0, none⟩) := hF.at 6 (by kernel_rfl)
              rw [Array.getD_eq_getD_getElem?] at t6
              have g144 : a.eval (.tmp 144) = .bool false := hd { on := 11, ground := .guard } (by simp) rfl
              refine .inl ⟨(by simp only [Region.wanted]; rw [yielded_of (d := 144) (by rfl) g144]; rfl), ?_⟩
              clear g144
              go_simp
              exact ⟨Below.refl _ _, rfl⟩
            · have t147 : a.tmps.getD 147 undef = .pointer (some ⟨B2, 0, none⟩) := hd { on := 14, ground := .data } (by simp) rfl
              rw [Array.getD_eq_getD_getElem?] at t147
              have g144 : a.eval (.tmp 144) = .bool false := hd { on := 11, ground := .guard } (by simp) rfl
              refine .inl ⟨(by simp only [Region.wanted]; rw [yielded_of (d := 144) (by rfl) g144]; rfl), ?_⟩
              clear g144
              go_simp
              exact ⟨Below.refl _ _, rfl⟩
            · have t148 : a.tmps.getD 148 undef = .pointer (some ⟨B2, 0, none⟩) := hd { on := 15, ground := .data } (by simp) rfl
              rw [Array.getD_eq_getD_getElem?] at t148
              have g144 : a.eval (.tmp 144) = .bool false := hd { on := 11, ground := .guard } (by simp) rfl
              refine .inl ⟨(by simp only [Region.wanted]; rw [yielded_of (d := 144) (by rfl) g144]; rfl), ?_⟩
              clear g144
              go_simp
              exact ⟨Below.refl _ _, rfl⟩
            · have t149 : a.tmps.getD 149 undef = .pointer (some ⟨B2, 1, none⟩) := hd { on := 16, ground := .data } (by simp) rfl
              rw [Array.getD_eq_getD_getElem?] at t149
              have g144 : a.eval (.tmp 144) = .bool false := hd { on := 11, ground := .guard } (by simp) rfl
              refine .inl ⟨(by simp only [Region.wanted]; rw [yielded_of (d := 144) (by rfl) g144]; rfl), ?_⟩
              clear g144
              have z0 := (HCell W hE).1
              have z1 := (HCell W hE).2.1
              go_simp
              exact ⟨Below.refl _ _, rfl⟩
            · have h146 : IsTimers W (a.tmps.getD 146 undef) (setT n L x.t) := hd { on := 13, ground := .data } (by simp) rfl
              obtain ⟨p146, q146, t146⟩ := h146.shaped
              rw [t146] at h146
              rw [Array.getD_eq_getD_getElem?] at t146
              have t150 : a.tmps.getD 150 undef = .slice so (setT n L x.t).length sc := hd { on := 17, ground := .data } (by simp) rfl
              rw [Array.getD_eq_getD_getElem?] at t150
              have g144 : a.eval (.tmp 144) = .bool false := hd { on := 11, ground := .guard } (by simp) rfl
              refine .inl ⟨(by simp only [Region.wanted]; rw [yielded_of (d := 144) (by rfl) g144]; rfl), ?_⟩
              clear g144
              go_simp
              exact (rsame_true (setT n L x.t) _ _ W h146 (HCell W hE).2.2).mono fun e w2 h => ⟨_, h.1, h.2, rfl⟩
            · have t151 : a.tmps.getD 151 undef = .bool true := hd { on := 18, ground := .data } (by simp) rfl
              rw [Array.getD_eq_getD_getElem?] at t151
              have g144 : a.eval (.tmp 144) = .bool false := hd { on := 11, ground := .guard } (by simp) rfl
              refine .inl ⟨(by simp only [Region.wanted]; rw [yielded_of (d := 144) (by rfl) g144]; rfl), ?_⟩
              clear g144
              go_simp
              exact ⟨Below.refl _ _, rfl⟩
            · have t144 : a.tmps.getD 144 undef = .bool false := hd { on := 11, ground := .data } (by simp) rfl
              rw [Array.getD_eq_getD_getElem?] at t144
              have t152 : a.tmps.getD 152 undef = .bool false := hd { on := 19, ground := .data } (by simp) rfl
              rw [Array.getD_eq_getD_getElem?] at t152
              refine .inl ⟨rfl, ?_⟩
              go_simp
              exact ⟨Below.refl _ _, rfl⟩
          · intro vs W hE hV
            have h20 : vs 20 = .bool false := hV 20 (by decide)
            have HTF : Hid (Two (fun b => b = xb) w.heap.size w.heap.size B2 (n) (setT n L x.t) (n) (setT n L x.t) W) := HTw W hE
            have HBf : Hid (Below w.heap.size w W) := HB6.out.trans (hE.mono HB6.out.size)
            clear hV hE
            simp only [putsV, dstsV, List.foldl, h20, Act.put, List.setIfInBounds_toArray, List.set_cons_succ, List.set_cons_zero]
            clear h20
            generalize vs 0 = y0
            generalize vs 1 = y1
            generalize vs 2 = y2
            generalize vs 3 = y3
            generalize vs 4 = y4
            generalize vs 5 = y5
            generalize vs 6 = y6
            generalize vs 7 = y7
            generalize vs 8 = y8
            generalize vs 9 = y9
            generalize vs 10 = y10
            generalize vs 11 = y11
            generalize vs 12 = y12
            generalize vs 13 = y13
            generalize vs 14 = y14
            generalize vs 15 = y15
            generalize vs 16 = y16
            generalize vs 17 = y17
            generalize vs 18 = y18
            generalize vs 19 = y19
            refine ‹∀ (a : Act) (w : World), Code.wp Try.prog (Code.cond _ _ _) _ a w → _› _ _ ?_
            clear HTw HCell hB2l
            go_wp2
            go_roundw
            case rel => exact ⟨k + 1, n, setT n L x.t, by omega, by go_num, HTF.out.mono fun _ h => h.elim, HBf.out, by have := setT_length n L x.t; omega⟩
            case measure => simp [intOf]; omega
      | false =>
        cases q1 : (x.do_ == 1) with
        | true =>
          cases hr : hasT L x.t.kind x.t.id with
          | true =>
            have HR : Hid (hasT L x.t.kind x.t.id = true) := hr
            go_upto_region 15 with fail
            generalize hW : wr.alloc _ = wc
            have HXc : Hid (HasBox wc xb 31 (ccells x)) := by show HasBox _ _ _ _; rw [← hW, ← hxb]; exact hasBox_new wr _ _
            have HBc : Hid (Below w.heap.size w wc) := by show Below _ _ _; rw [← hW]; exact HB.out.alloc HB.out.size _
            have HTc : Hid (Two (fun b => b = xb) w.heap.size w.heap.size B2 n L n L wc) := by
              show Two _ _ _ _ _ _ _ _ _
              rw [← hW]
              exact (HT.out.fresh ((Below.refl wr.heap.size wr).alloc (Nat.le_refl _) _)).mono fun b hb => .inr (by rw [hb, ← hxb]; exact ⟨Nat.le_refl _, by simp⟩)
            clear hW
            have hTd : Two (fun b => b = xb) w.heap.size w.heap.size B2 n L n L wc.drew := HTc.out.below (Below.refl _ _).drew
            have KP := pcut hTd hL1 x.t.kind x.t.id
            rw [hr] at KP
            clear hr
            refine wp_region_split 15 (fun W' => W'.cell? ⟨xb, 0, none⟩ = some (.int .i64 x.do_) ∧ W'.cell? ⟨xb, 1, none⟩ = some (.int .i64 x.t.at_) ∧ W'.cell? ⟨xb, 2, none⟩ = some (.int .i64 x.t.kind) ∧ W'.cell? ⟨xb, 3, none⟩ = some (.int .i64 x.t.id)) (by kernel_rfl) (by kernel_rfl) (HS.out _ (HXc.out.below (Below.refl _ _).drew)) (fun hS0 => ?_)
            simp only [List.take_succ_cons, List.take_zero, List.drop_succ_cons, List.drop_zero]
            refine takeH (i := 0) (v := .pointer (some ⟨w.heap.size, 0, none⟩)) rfl (by kernel_rfl) (by kernel_rfl) (by kernel_rfl) (fun _ _ _ h => h) (Or.inl ⟨by rfl, ?_⟩) hS0 ?_
            · intro wS hSw
              go_simp
            go_frame
            refine takeH (i := 1) (v := .pointer (some ⟨xb, 1, none⟩)) rfl (by kernel_rfl) (by kernel_rfl) (by kernel_rfl) (fun _ _ _ h => h) (Or.inl ⟨by rfl, ?_⟩) hS0 ?_
            · intro wS hSw
              go_simp
            go_frame
            refine takeH (i := 2) (v := .pointer (some ⟨xb, 2, none⟩)) rfl (by kernel_rfl) (by kernel_rfl) (by kernel_rfl) (fun _ _ _ h => h) (Or.inl ⟨by rfl, ?_⟩) hS0 ?_
            · intro wS hSw
              go_simp
            go_frame
            refine takeH (i := 3) (v := .int .i64 x.t.kind) rfl (by kernel_rfl) (by kernel_rfl) (by kernel_rfl) (fun _ _ _ h => h) (Or.inl ⟨by rfl, ?_⟩) hS0 ?_
            · intro wS hSw
              go_simp
            go_frame
            refine takeH (i := 4) (v := .pointer (some ⟨xb, 1, none⟩)) rfl (by kernel_rfl) (by kernel_rfl) (by kernel_rfl) (fun _ _ _ h => h) (Or.inl ⟨by rfl, ?_⟩) hS0 ?_
            · intro wS hSw
              go_simp
            go_frame
            refine takeH (i := 5) (v := .pointer (some ⟨xb, 3, none⟩)) rfl (by kernel_rfl) (by kernel_rfl) (by kernel_rfl) (fun _ _ _ h => h) (Or.inl ⟨by rfl, ?_⟩) hS0 ?_
            · intro wS hSw
              go_simp
            go_frame
            refine takeH (i := 6) (v := .int .i64 x.t.id) rfl (by kernel_rfl) (by kernel_rfl) (by kernel_rfl) (fun _ _ _ h => h) (Or.inl ⟨by rfl, ?_⟩) hS0 ?_
            · intro wS hSw
              go_simp
            go_frame
            refine takeH (i := 8) (v := .pointer (some ⟨B2, 0, none⟩)) rfl (by kernel_rfl) (by kernel_rfl) (by kernel_rfl) (fun _ _ _ h => h) (Or.inl ⟨by rfl, ?_⟩) hS0 ?_
            · intro wS hSw
              go_simp
            go_frame
            refine takeH (i := 9) (v := .pointer (some ⟨xb, 1, none⟩)) rfl (by kernel_rfl) (by kernel_rfl) (by kernel_rfl) (fun _ _ _ h => h) (Or.inl ⟨by rfl, ?_⟩) hS0 ?_
            · intro wS hSw
              go_simp
            go_frame
            refine takeH (i := 10) (v := .pointer (some ⟨xb, 2, none⟩)) rfl (by kernel_rfl) (by kernel_rfl) (by kernel_rfl) (fun _ _ _ h => h) (Or.inl ⟨by rfl, ?_⟩) hS0 ?_
            · intro wS hSw
              go_simp
            go_frame
            refine takeH (i := 11) (v := .int .i64 x.t.kind) rfl (by kernel_rfl) (by kernel_rfl) (by kernel_rfl) (fun _ _ _ h => h) (Or.inl ⟨by rfl, ?_⟩) hS0 ?_
            · intro wS hSw
              go_simp
            go_frame
            refine takeH (i := 12) (v := .pointer (some ⟨xb, 1, none⟩)) rfl (by kernel_rfl) (by kernel_rfl) (by kernel_rfl) (fun _ _ _ h => h) (Or.inl ⟨by rfl, ?_⟩) hS0 ?_
            · intro wS hSw
              go_simp
            go_frame
            refine takeH (i := 13) (v := .pointer (some ⟨xb, 3, none⟩)) rfl (by kernel_rfl) (by kernel_rfl) (by kernel_rfl) (fun _ _ _ h => h) (Or.inl ⟨by rfl, ?_⟩) hS0 ?_
            · intro wS hSw
              go_simp
            go_frame
            refine takeH (i := 14) (v := .int .i64 x.t.id) rfl (by kernel_rfl) (by kernel_rfl) (by kernel_rfl) (fun _ _ _ h => h) (Or.inl ⟨by rfl, ?_⟩) hS0 ?_
            · intro wS hSw
              go_simp
            go_frame
            refine wpAnyH_ready (rs := [7]) (by kernel_rfl) (by simp) ?_
            refine readyH_cons rfl (fun K hK => ?_) AllReadyH.nil
            go_simp
            refine (KP).mono ?_
            rintro e w5 ⟨rfl, hT5, hp5⟩
            have HX5 : Hid (HasBox w5 xb 31 (ccells x)) := hp5.box rfl (HXc.out.below (Below.refl _ _).drew)
            have HB5 : Hid (Below w.heap.size w w5) := (HBc.out.drew).trans hp5.below
            refine hK.out _ _ (HS.out _ HX5.out) (fun hS5 => ?_)
            clear hK K
            refine wpAnyH_done (by kernel_rfl) ?_ _
            clear hS0 hp5
            unfold afterHead
            have KQ := (by have h := qcut hT5 hL1 x.t.kind x.t.id; rw [HR.out] at h; exact h)
            clear hT5
            go_wp2_with fail
            refine KQ.mono ?_
            rintro e w6 ⟨rfl, hT6, hp6⟩
            have HX6 : Hid (HasBox w6 xb 31 (ccells x)) := hp6.box rfl HX5.out
            have HB6 : Hid (Below w.heap.size w w6) := HB5.out.trans hp6.below
            have HT6 : Hid _ := hT6
            clear hp6 KQ hT6 hS5
            go_wp2_with fail
            have HTw : ∀ W, Below w6.heap.size w6 W → Two (fun b => b = xb) w.heap.size w.heap.size B2 (n) (cutT L x.t.kind x.t.id) (n) (cutT L x.t.kind x.t.id) W := fun W q => HT6.out.below q
            have hLen : (cutT L x.t.kind x.t.id).length ≤ 1000000 := by have := cutT_length L x.t.kind x.t.id; omega
            obtain ⟨so, sc, e0, e1, e2⟩ := HT6.out.own
            have hB2l : B2 < w6.heap.size := World.block_lt_of_cell? _ _ e0
            have HCell : ∀ W, Below w6.heap.size w6 W → W.cell? ⟨B2, 0, none⟩ = some (.int .i64 (n)) ∧ W.cell? ⟨B2, 1, none⟩ = some (.slice so (cutT L x.t.kind x.t.id).length sc) ∧ IsTimers W (.slice so (cutT L x.t.kind x.t.id).length sc) (cutT L x.t.kind x.t.id) := fun W q => ⟨(q.cell (p := ⟨B2, 0, none⟩) hB2l).trans e0, (q.cell (p := ⟨B2, 1, none⟩) hB2l).trans e1, e2.below q⟩
            clear e0 e1 e2
            refine wp_region_mp ([eqP (.bool true), eqP (.bool false), eqP (.bool false), eqP (.pointer (some ⟨w.heap.size, 0, none⟩)), eqP (.int .i64 (n)), eqP (.pointer (some ⟨B2, 0, none⟩)), eqP (.pointer (some ⟨B2, 0, none⟩)), eqP (.pointer (some ⟨B2, 0, none⟩)), eqP (.int .i64 (n)), eqP (.bool false), eqP (.bool false), eqP (.bool false), eqP (.pointer (some ⟨w.heap.size, 0, none⟩)), timersP (cutT L x.t.kind x.t.id), eqP (.pointer (some ⟨B2, 0, none⟩)), eqP (.pointer (some ⟨B2, 0, none⟩)), eqP (.pointer (some ⟨B2, 1, none⟩)), eqP (.slice so (cutT L x.t.kind x.t.id).length sc), eqP (.bool true), eqP (.bool false), eqP (.bool false)]) (by kernel_rfl) (by kernel_rfl) ?_ ?_
            · go_light
              simp only [stepsAll3]
              refine ⟨fun a W hF hE hd => ?_, fun a W hF hE hd => ?_, fun a W hF hE hd => ?_, fun a W hF hE hd => ?_, fun a W hF hE hd => ?_, fun a W hF hE hd => ?_, fun a W hF hE hd => ?_, fun a W hF hE hd => ?_, fun a W hF hE hd => ?_, fun a W hF hE hd => ?_, fun a W hF hE hd => ?_, fun a W hF hE hd => ?_, fun a W hF hE hd => ?_, fun a W hF hE hd => ?_, fun a W hF hE hd => ?_, fun a W hF hE hd => ?_, fun a W hF hE hd => ?_, fun a W hF hE hd => ?_, fun a W hF hE hd => ?_, fun a W hF hE hd => ?_, fun a W hF hE hd => ?_, trivial⟩
              all_goals unfold StepAt
              · have t9 : a.tmps.getD 9 undef = .bool true := hF.at 9 (by kernel_rfl)
                rw [Array.getD_eq_getD_getElem?] at t9
                refine .inl ⟨rfl, ?_⟩
                go_simp
                exact ⟨Below.refl _ _, rfl⟩
              · have t133 : a.tmps.getD 133 undef = .bool true := hd { on := 0, ground := .data } (by simp) rfl
                rw [Array.getD_eq_getD_getElem?] at t133
                refine .inl ⟨rfl, ?_⟩
                go_simp
                exact ⟨Below.refl _ _, rfl⟩
              · have t134 : a.tmps.getD 134 undef = .bool false := hd { on := 1, ground := .data } (by simp) rfl
                rw [Array.getD_eq_getD_getElem?] at t134
                refine .inl ⟨rfl, ?_⟩
                go_simp
                exact ⟨Below.refl _ _, rfl⟩
              · have t5 : a.tmps.getD 5 undef = .pointer (some ⟨w.heap.size, 0, none⟩) := hF.at 5 (by kernel_rfl)
                rw [Array.getD_eq_getD_getElem?] at t5
                have g135 : a.eval (.tmp 135) = .bool false := hd { on := 2, ground := .guard } (by simp) rfl
                refine .inl ⟨(by simp only [Region.wanted]; rw [yielded_of (d := 135) (by rfl) g135]; rfl), ?_⟩
                clear g135
                go_simp
                exact ⟨Below.refl _ _, rfl⟩
              · have t136 : a.tmps.getD 136 undef = .pointer (some ⟨w.heap.size, 0, none⟩) := hd { on := 3, ground := .data } (by simp) rfl
                rw [Array.getD_eq_getD_getElem?] at t136
                have g135 : a.eval (.tmp 135) = .bool false := hd { on := 2, ground := .guard } (by simp) rfl
                refine .inl ⟨(by simp only [Region.wanted]; rw [yielded_of (d := 135) (by rfl) g135]; rfl), ?_⟩
                clear g135
                go_simp
                exact ((know ((HTw W hE).ck)).mono fun e w2 h => (⟨h.1, by rw [h.2]; exact Below.refl _ _⟩ : _ ∧ Below W.heap.size W w2)).mono fun e w2 h => ⟨_, h.1, h.2, rfl⟩
              · have t6 : a.tmps.getD 6 undef = .pointer (some ⟨B2, 0, none⟩) := hF.at 6 (by kernel_rfl)
                rw [Array.getD_eq_getD_getElem?] at t6
                have g135 : a.eval (.tmp 135) = .bool false := hd { on := 2, ground := .guard } (by simp) rfl
                refine .inl ⟨(by simp only [Region.wanted]; rw [yielded_of (d := 135) (by rfl) g135]; rfl), ?_⟩
                clear g135
                go_simp
                exact ⟨Below.refl _ _, rfl⟩
              · have t138 : a.tmps.getD 138 undef = .pointer (some ⟨B2, 0, none⟩) := hd { on := 5, ground := .data } (by simp) rfl
                rw [Array.getD_eq_getD_getElem?] at t138
                have g135 : a.eval (.tmp 135) = .bool false := hd { on := 2, ground := .guard } (by simp) rfl
                refine .inl ⟨(by simp only [Region.wanted]; rw [yielded_of (d := 135) (by rfl) g135]; rfl), ?_⟩
                clear g135
                go_simp
                exact ⟨Below.refl _ _, rfl⟩
              · have t139 : a.tmps.getD 139 undef = .pointer (some ⟨B2, 0, none⟩) := hd { on := 6, ground := .data } (by simp) rfl
                rw [Array.getD_eq_getD_getElem?] at t139
                have g135 : a.eval (.tmp 135) = .bool false := hd { on := 2, ground := .guard } (by simp) rfl
                refine .inl ⟨(by simp only [Region.wanted]; rw [yielded_of (d := 135) (by rfl) g135]; rfl), ?_⟩
                clear g135
                go_simp
                exact ⟨Below.refl _ _, rfl⟩
              · have t140 : a.tmps.getD 140 undef = .pointer (some ⟨B2, 0, none⟩) := hd { on := 7, ground := .data } (by simp) rfl
                rw [Array.getD_eq_getD_getElem?] at t140
                have g135 : a.eval (.tmp 135) = .bool false := hd { on := 2, ground := .guard } (by simp) rfl
                refine .inl ⟨(by simp only [Region.wanted]; rw [yielded_of (d := 135) (by rfl) g135]; rfl), ?_⟩
                clear g135
                have z0 := (HCell W hE).1
                have z1 := (HCell W hE).2.1
                go_simp
                exact ⟨Below.refl _ _, rfl⟩
              · have t137 : a.tmps.getD 137 undef = .int .i64 (n) := hd { on := 4, ground := .data } (by simp) rfl
                rw [Array.getD_eq_getD_getElem?] at t137
                have t141 : a.tmps.getD 141 undef = .int .i64 (n) := hd { on := 8, ground := .data } (by simp) rfl
                rw [Array.getD_eq_getD_getElem?] at t141
                have g135 : a.eval (.tmp 135) = .bool false := hd { on := 2, ground := .guard } (by simp) rfl
                refine .inl ⟨(by simp only [Region.wanted]; rw [yielded_of (d := 135) (by rfl) g135]; rfl), ?_⟩
                clear g135
                go_simp
                exact ⟨Below.refl _ _, rfl⟩
              · have t135 : a.tmps.getD 135 undef = .bool false := hd { on := 2, ground := .data } (by simp) rfl
                rw [Array.getD_eq_getD_getElem?] at t135
                have t142 : a.tmps.getD 142 undef = .bool false := hd { on := 9, ground := .data } (by simp) rfl
                rw [Array.getD_eq_getD_getElem?] at t142
                refine .inl ⟨rfl, ?_⟩
                go_simp
                exact ⟨Below.refl _ _, rfl⟩
              · have t143 : a.tmps.getD 143 undef = .bool false := hd { on := 10, ground := .data } (by simp) rfl
                rw [Array.getD_eq_getD_getElem?] at t143
                refine .inl ⟨rfl, ?_⟩
                go_simp
                exact ⟨Below.refl _ _, rfl⟩
              · have t5 : a.tmps.getD 5 undef = .pointer (some ⟨w.heap.size, 0, none⟩) := hF.at 5 (by kernel_rfl)
                rw [Array.getD_eq_getD_getElem?] at t5
                have g144 : a.eval (.tmp 144) = .bool false := hd { on := 11, ground := .guard } (by simp) rfl
                refine .inl ⟨(by simp only [Region.wanted]; rw [yielded_of (d := 144) (by rfl) g144]; rfl), ?_⟩
                clear g144
                go_simp
                exact ⟨Below.refl _ _, rfl⟩
              · have t145 : a.tmps.getD 145 undef = .pointer (some ⟨w.heap.size, 0, none⟩) := hd { on := 12, ground := .data } (by simp) rfl
                rw [Array.getD_eq_getD_getElem?] at t145
                have g144 : a.eval (.tmp 144) = .bool false := hd { on := 11, ground := .guard } (by simp) rfl
                refine .inl ⟨(by simp only [Region.wanted]; rw [yielded_of (d := 144) (by rfl) g144]; rfl), ?_⟩
                clear g144
                go_simp
                exact (kall ((HTw W hE).ck) (by omega)).mono fun e w2 ⟨ao, cap, h1, h2, h3⟩ => ⟨_, h1, h3, h2⟩
              · have t6 : a.tmps.getD 6 undef = .pointer (some ⟨B2, 0, none⟩) := hF.at 6 (by kernel_rfl)
                rw [Array.getD_eq_getD_getElem?] at t6
                have g144 : a.eval (.tmp 144) = .bool false := hd { on := 11, ground := .guard } (by simp) rfl
                refine .inl ⟨(by simp only [Region.wanted]; rw [yielded_of (d := 144) (by rfl) g144]; rfl), ?_⟩
                clear g144
                go_simp
                exact ⟨Below.refl _ _, rfl⟩
              · have t147 : a.tmps.getD 147 undef = .pointer (some ⟨B2, 0, none⟩) := hd { on := 14, ground := .data } (by simp) rfl
                rw [Array.getD_eq_getD_getElem?] at t147
                have g144 : a.eval (.tmp 144) = .bool false := hd { on := 11, ground := .guard } (by simp) rfl
                refine .inl ⟨(by simp only [Region.wanted]; rw [yielded_of (d := 144) (by rfl) g144]; rfl), ?_⟩
                clear g144
                go_simp
                exact ⟨Below.refl _ _, rfl⟩
              · have t148 : a.tmps.getD 148 undef = .pointer (some ⟨B2, 0, none⟩) := hd { on := 15, ground := .data } (by simp) rfl
                rw [Array.getD_eq_getD_getElem?] at t148
                have g144 : a.eval (.tmp 144) = .bool false := hd { on := 11, ground := .guard } (by simp) rfl
                refine .inl ⟨(by simp only [Region.wanted]; rw [yielded_of (d := 144) (by rfl) g144]; rfl), ?_⟩
                clear g144
                go_simp
                exact ⟨Below.refl _ _, rfl⟩
              · have t149 : a.tmps.getD 149 undef = .pointer (some ⟨B2, 1, none⟩) := hd { on := 16, ground := .data } (by simp) rfl
                rw [Array.getD_eq_getD_getElem?] at t149
                have g144 : a.eval (.tmp 144) = .bool false := hd { on := 11, ground := .guard } (by simp) rfl
                refine .inl ⟨(by simp only [Region.wanted]; rw [yielded_of (d := 144) (by rfl) g144]; rfl), ?_⟩
                clear g144
                have z0 := (HCell W hE).1
                have z1 := (HCell W hE).2.1
                go_simp
                exact ⟨Below.refl _ _, rfl⟩
              · have h146 : IsTimers W (a.tmps.getD 146 undef) (cutT L x.t.kind x.t.id) := hd { on := 13, ground := .data } (by simp) rfl
                obtain ⟨p146, q146, t146⟩ := h146.shaped
                rw [t146] at h146
                rw [Array.getD_eq_getD_getElem?] at t146
                have t150 : a.tmps.getD 150 undef = .slice so (cutT L x.t.kind x.t.id).length sc := hd { on := 17, ground := .data } (by simp) rfl
                rw [Array.getD_eq_getD_getElem?] at t150
                have g144 : a.eval (.tmp 144) = .bool false := hd { on := 11, ground := .guard } (by simp) rfl
                refine .inl ⟨(by simp only [Region.wanted]; rw [yielded_of (d := 144) (by rfl) g144]; rfl), ?_⟩
                clear g144
                go_simp
                exact (rsame_true (cutT L x.t.kind x.t.id) _ _ W h146 (HCell W hE).2.2).mono fun e w2 h => ⟨_, h.1, h.2, rfl⟩
              · have t151 : a.tmps.getD 151 undef = .bool true := hd { on := 18, ground := .data } (by simp) rfl
                rw [Array.getD_eq_getD_getElem?] at t151
                have g144 : a.eval (.tmp 144) = .bool false := hd { on := 11, ground := .guard } (by simp) rfl
                refine .inl ⟨(by simp only [Region.wanted]; rw [yielded_of (d := 144) (by rfl) g144]; rfl), ?_⟩
                clear g144
                go_simp
                exact ⟨Below.refl _ _, rfl⟩
              · have t144 : a.tmps.getD 144 undef = .bool false := hd { on := 11, ground := .data } (by simp) rfl
                rw [Array.getD_eq_getD_getElem?] at t144
                have t152 : a.tmps.getD 152 undef = .bool false := hd { on := 19, ground := .data } (by simp) rfl
                rw [Array.getD_eq_getD_getElem?] at t152
                refine .inl ⟨rfl, ?_⟩
                go_simp
                exact ⟨Below.refl _ _, rfl⟩
            · intro vs W hE hV
              have h20 : vs 20 = .bool false := hV 20 (by decide)
              have HTF : Hid (Two (fun b => b = xb) w.heap.size w.heap.size B2 (n) (cutT L x.t.kind x.t.id) (n) (cutT L x.t.kind x.t.id) W) := HTw W hE
              have HBf : Hid (Below w.heap.size w W) := HB6.out.trans (hE.mono HB6.out.size)
              clear hV hE
              simp only [putsV, dstsV, List.foldl, h20, Act.put, List.setIfInBounds_toArray, List.set_cons_succ, List.set_cons_zero]
              clear h20
              generalize vs 0 = y0
              generalize vs 1 = y1
              generalize vs 2 = y2
              generalize vs 3 = y3
              generalize vs 4 = y4
              generalize vs 5 = y5
              generalize vs 6 = y6
              generalize vs 7 = y7
              generalize vs 8 = y8
              generalize vs 9 = y9
              generalize vs 10 = y10
              generalize vs 11 = y11
              generalize vs 12 = y12
              generalize vs 13 = y13
              generalize vs 14 = y14
              generalize vs 15 = y15
              generalize vs 16 = y16
              generalize vs 17 = y17
              generalize vs 18 = y18
              generalize vs 19 = y19
              refine ‹∀ (a : Act) (w : World), Code.wp Try.prog (Code.cond _ _ _) _ a w → _› _ _ ?_
              clear HTw HCell hB2l
              go_wp2
              go_roundw
              case rel => exact ⟨k + 1, n, cutT L x.t.kind x.t.id, by omega, by go_num, HTF.out.mono fun _ h => h.elim, HBf.out, by have := cutT_length L x.t.kind x.t.id; omega⟩
              case measure => simp [intOf]; omega
          | false =>
            have HR : Hid (hasT L x.t.kind x.t.id = false) := hr
            go_upto_region 15 with fail
            generalize hW : wr.alloc _ = wc
            have HXc : Hid (HasBox wc xb 31 (ccells x)) := by show HasBox _ _ _ _; rw [← hW, ← hxb]; exact hasBox_new wr _ _
            have HBc : Hid (Below w.heap.size w wc) := by show Below _ _ _; rw [← hW]; exact HB.out.alloc HB.out.size _
            have HTc : Hid (Two (fun b => b = xb) w.heap.size w.heap.size B2 n L n L wc) := by
              show Two _ _ _ _ _ _ _ _ _
              rw [← hW]
              exact (HT.out.fresh ((Below.refl wr.heap.size wr).alloc (Nat.le_refl _) _)).mono fun b hb => .inr (by rw [hb, ← hxb]; exact ⟨Nat.le_refl _, by simp⟩)
            clear hW
            have hTd : Two (fun b => b = xb) w.heap.size w.heap.size B2 n L n L wc.drew := HTc.out.below (Below.refl _ _).drew
            have KP := pcut hTd hL1 x.t.kind x.t.id
            rw [hr] at KP
            clear hr
            refine wp_region_split 15 (fun W' => W'.cell? ⟨xb, 0, none⟩ = some (.int .i64 x.do_) ∧ W'.cell? ⟨xb, 1, none⟩ = some (.int .i64 x.t.at_) ∧ W'.cell? ⟨xb, 2, none⟩ = some (.int .i64 x.t.kind) ∧ W'.cell? ⟨xb, 3, none⟩ = some (.int .i64 x.t.id)) (by kernel_rfl) (by kernel_rfl) (HS.out _ (HXc.out.below (Below.refl _ _).drew)) (fun hS0 => ?_)
            simp only [List.take_succ_cons, List.take_zero, List.drop_succ_cons, List.drop_zero]
            refine takeH (i := 0) (v := .pointer (some ⟨w.heap.size, 0, none⟩)) rfl (by kernel_rfl) (by kernel_rfl) (by kernel_rfl) (fun _ _ _ h => h) (Or.inl ⟨by rfl, ?_⟩) hS0 ?_
            · intro wS hSw
              go_simp
            go_frame
            refine takeH (i := 1) (v := .pointer (some ⟨xb, 1, none⟩)) rfl (by kernel_rfl) (by kernel_rfl) (by kernel_rfl) (fun _ _ _ h => h) (Or.inl ⟨by rfl, ?_⟩) hS0 ?_
            · intro wS hSw
              go_simp
            go_frame
            refine takeH (i := 2) (v := .pointer (some ⟨xb, 2, none⟩)) rfl (by kernel_rfl) (by kernel_rfl) (by kernel_rfl) (fun _ _ _ h => h) (Or.inl ⟨by rfl, ?_⟩) hS0 ?_
            · intro wS hSw
              go_simp
            go_frame
            refine takeH (i := 3) (v := .int .i64 x.t.kind) rfl (by kernel_rfl) (by kernel_rfl) (by kernel_rfl) (fun _ _ _ h => h) (Or.inl ⟨by rfl, ?_⟩) hS0 ?_
            · intro wS hSw
              go_simp
            go_frame
            refine takeH (i := 4) (v := .pointer (some ⟨xb, 1, none⟩)) rfl (by kernel_rfl) (by kernel_rfl) (by kernel_rfl) (fun _ _ _ h => h) (Or.inl ⟨by rfl, ?_⟩) hS0 ?_
            · intro wS hSw
              go_simp
            go_frame
            refine takeH (i := 5) (v := .pointer (some ⟨xb, 3, none⟩)) rfl (by kernel_rfl) (by kernel_rfl) (by kernel_rfl) (fun _ _ _ h => h) (Or.inl ⟨by rfl, ?_⟩) hS0 ?_
            · intro wS hSw
              go_simp
            go_frame
            refine takeH (i := 6) (v := .int .i64 x.t.id) rfl (by kernel_rfl) (by kernel_rfl) (by kernel_rfl) (fun _ _ _ h => h) (Or.inl ⟨by rfl, ?_⟩) hS0 ?_
            · intro wS hSw
              go_simp
            go_frame
            refine takeH (i := 8) (v := .pointer (some ⟨B2, 0, none⟩)) rfl (by kernel_rfl) (by kernel_rfl) (by kernel_rfl) (fun _ _ _ h => h) (Or.inl ⟨by rfl, ?_⟩) hS0 ?_
            · intro wS hSw
              go_simp
            go_frame
            refine takeH (i := 9) (v := .pointer (some ⟨xb, 1, none⟩)) rfl (by kernel_rfl) (by kernel_rfl) (by kernel_rfl) (fun _ _ _ h => h) (Or.inl ⟨by rfl, ?_⟩) hS0 ?_
            · intro wS hSw
              go_simp
            go_frame
            refine takeH (i := 10) (v := .pointer (some ⟨xb, 2, none⟩)) rfl (by kernel_rfl) (by kernel_rfl) (by kernel_rfl) (fun _ _ _ h => h) (Or.inl ⟨by rfl, ?_⟩) hS0 ?_
            · intro wS hSw
              go_simp
            go_frame
            refine takeH (i := 11) (v := .int .i64 x.t.kind) rfl (by kernel_rfl) (by kernel_rfl) (by kernel_rfl) (fun _ _ _ h => h) (Or.inl ⟨by rfl, ?_⟩) hS0 ?_
            · intro wS hSw
              go_simp
            go_frame
            refine takeH (i := 12) (v := .pointer (some ⟨xb, 1, none⟩)) rfl (by kernel_rfl) (by kernel_rfl) (by kernel_rfl) (fun _ _ _ h => h) (Or.inl ⟨by rfl, ?_⟩) hS0 ?_
            · intro wS hSw
              go_simp
            go_frame
            refine takeH (i := 13) (v := .pointer (some ⟨xb, 3, none⟩)) rfl (by kernel_rfl) (by kernel_rfl) (by kernel_rfl) (fun _ _ _ h => h) (Or.inl ⟨by rfl, ?_⟩) hS0 ?_
            · intro wS hSw
              go_simp
            go_frame
            refine takeH (i := 14) (v := .int .i64 x.t.id) rfl (by kernel_rfl) (by kernel_rfl) (by kernel_rfl) (fun _ _ _ h => h) (Or.inl ⟨by rfl, ?_⟩) hS0 ?_
            · intro wS hSw
              go_simp
            go_frame
            refine wpAnyH_ready (rs := [7]) (by kernel_rfl) (by simp) ?_
            refine readyH_cons rfl (fun K hK => ?_) AllReadyH.nil
            go_simp
            refine (KP).mono ?_
            rintro e w5 ⟨rfl, hT5, hp5⟩
            have HX5 : Hid (HasBox w5 xb 31 (ccells x)) := hp5.box rfl (HXc.out.below (Below.refl _ _).drew)
            have HB5 : Hid (Below w.heap.size w w5) := (HBc.out.drew).trans hp5.below
            refine hK.out _ _ (HS.out _ HX5.out) (fun hS5 => ?_)
            clear hK K
            refine wpAnyH_done (by kernel_rfl) ?_ _
            clear hS0 hp5
            unfold afterHead
            have KQ := (by have h := qcut hT5 hL1 x.t.kind x.t.id; rw [HR.out] at h; exact h)
            clear hT5
            go_wp2_with fail
            refine KQ.mono ?_
            rintro e w6 ⟨rfl, hT6, hp6⟩
            have HX6 : Hid (HasBox w6 xb 31 (ccells x)) := hp6.box rfl HX5.out
            have HB6 : Hid (Below w.heap.size w w6) := HB5.out.trans hp6.below
            have HT6 : Hid _ := hT6
            clear hp6 KQ hT6 hS5
            go_wp2_with fail
            have HTw : ∀ W, Below w6.heap.size w6 W → Two (fun b => b = xb) w.heap.size w.heap.size B2 (n) (cutT L x.t.kind x.t.id) (n) (cutT L x.t.kind x.t.id) W := fun W q => HT6.out.below q
            have hLen : (cutT L x.t.kind x.t.id).length ≤ 1000000 := by have := cutT_length L x.t.kind x.t.id; omega
            obtain ⟨so, sc, e0, e1, e2⟩ := HT6.out.own
            have hB2l : B2 < w6.heap.size := World.block_lt_of_cell? _ _ e0
            have HCell : ∀ W, Below w6.heap.size w6 W → W.cell? ⟨B2, 0, none⟩ = some (.int .i64 (n)) ∧ W.cell? ⟨B2, 1, none⟩ = some (.slice so (cutT L x.t.kind x.t.id).length sc) ∧ IsTimers W (.slice so (cutT L x.t.kind x.t.id).length sc) (cutT L x.t.kind x.t.id) := fun W q => ⟨(q.cell (p := ⟨B2, 0, none⟩) hB2l).trans e0, (q.cell (p := ⟨B2, 1, none⟩) hB2l).trans e1, e2.below q⟩
            clear e0 e1 e2
            refine wp_region_mp ([eqP (.bool true), eqP (.bool false), eqP (.bool false), eqP (.pointer (some ⟨w.heap.size, 0, none⟩)), eqP (.int .i64 (n)), eqP (.pointer (some ⟨B2, 0, none⟩)), eqP (.pointer (some ⟨B2, 0, none⟩)), eqP (.pointer (some ⟨B2, 0, none⟩)), eqP (.int .i64 (n)), eqP (.bool false), eqP (.bool false), eqP (.bool false), eqP (.pointer (some ⟨w.heap.size, 0, none⟩)), timersP (cutT L x.t.kind x.t.id), eqP (.pointer (some ⟨B2, 0, none⟩)), eqP (.pointer (some ⟨B2, 0, none⟩)), eqP (.pointer (some ⟨B2, 1, none⟩)), eqP (.slice so (cutT L x.t.kind x.t.id).length sc), eqP (.bool true), eqP (.bool false), eqP (.bool false)]) (by kernel_rfl) (by kernel_rfl) ?_ ?_
            · go_light
              simp only [stepsAll3]
              refine ⟨fun a W hF hE hd => ?_, fun a W hF hE hd => ?_, fun a W hF hE hd => ?_, fun a W hF hE hd => ?_, fun a W hF hE hd => ?_, fun a W hF hE hd => ?_, fun a W hF hE hd => ?_, fun a W hF hE hd => ?_, fun a W hF hE hd => ?_, fun a W hF hE hd => ?_, fun a W hF hE hd => ?_, fun a W hF hE hd => ?_, fun a W hF hE hd => ?_, fun a W hF hE hd => ?_, fun a W hF hE hd => ?_, fun a W hF hE hd => ?_, fun a W hF hE hd => ?_, fun a W hF hE hd => ?_, fun a W hF hE hd => ?_, fun a W hF hE hd => ?_, fun a W hF hE hd => ?_, trivial⟩
              all_goals unfold StepAt
              · have t9 : a.tmps.getD 9 undef = .bool true := hF.at 9 (by kernel_rfl)
                rw [Array.getD_eq_getD_getElem?] at t9
                refine .inl ⟨rfl, ?_⟩
                go_simp
                exact ⟨Below.refl _ _, rfl⟩
              · have t133 : a.tmps.getD 133 undef = .bool true := hd { on := 0, ground := .data } (by simp) rfl
                rw [Array.getD_eq_getD_getElem?] at t133
                refine .inl ⟨rfl, ?_⟩
                go_simp
                exact ⟨Below.refl _ _, rfl⟩
              · have t134 : a.tmps.getD 134 undef = .bool false := hd { on := 1, ground := .data } (by simp) rfl
                rw [Array.getD_eq_getD_getElem?] at t134
                refine .inl ⟨rfl, ?_⟩
                go_simp
                exact ⟨Below.refl _ _, rfl⟩
              · have t5 : a.tmps.getD 5 undef = .pointer (some ⟨w.heap.size, 0, none⟩) := hF.at 5 (by kernel_rfl)
                rw [Array.getD_eq_getD_getElem?] at t5
                have g135 : a.eval (.tmp 135) = .bool false := hd { on := 2, ground := .guard } (by simp) rfl
                refine .inl ⟨(by simp only [Region.wanted]; rw [yielded_of (d := 135) (by rfl) g135]; rfl), ?_⟩
                clear g135
                go_simp
                exact ⟨Below.refl _ _, rfl⟩
              · have t136 : a.tmps.getD 136 undef = .pointer (some ⟨w.heap.size, 0, none⟩) := hd { on := 3, ground := .data } (by simp) rfl
                rw [Array.getD_eq_getD_getElem?] at t136
                have g135 : a.eval (.tmp 135) = .bool false := hd { on := 2, ground := .guard } (by simp) rfl
                refine .inl ⟨(by simp only [Region.wanted]; rw [yielded_of (d := 135) (by rfl) g135]; rfl), ?_⟩
                clear g135
                go_simp
                exact ((know ((HTw W hE).ck)).mono fun e w2 h => (⟨h.1, by rw [h.2]; exact Below.refl _ _⟩ : _ ∧ Below W.heap.size W w2)).mono fun e w2 h => ⟨_, h.1, h.2, rfl⟩
              · have t6 : a.tmps.getD 6 undef = .pointer (some ⟨B2, 0, none⟩) := hF.at 6 (by kernel_rfl)
                rw [Array.getD_eq_getD_getElem?] at t6
                have g135 : a.eval (.tmp 135) = .bool false := hd { on := 2, ground := .guard } (by simp) rfl
                refine .inl ⟨(by simp only [Region.wanted]; rw [yielded_of (d := 135) (by rfl) g135]; rfl), ?_⟩
                clear g135
                go_simp
                exact ⟨Below.refl _ _, rfl⟩
              · have t138 : a.tmps.getD 138 undef = .pointer (some ⟨B2, 0, none⟩) := hd { on := 5, ground := .data } (by simp) rfl
                rw [Array.getD_eq_getD_getElem?] at t138
                have g135 : a.eval (.tmp 135) = .bool false := hd { on := 2, ground := .guard } (by simp) rfl
                refine .inl ⟨(by simp only [Region.wanted]; rw [yielded_of (d := 135) (by rfl) g135]; rfl), ?_⟩
                clear g135
                go_simp
                exact ⟨Below.refl _ _, rfl⟩
              · have t139 : a.tmps.getD 139 undef = .pointer (some ⟨B2, 0, none⟩) := hd { on := 6, ground := .data } (by simp) rfl
                rw [Array.getD_eq_getD_getElem?] at t139
                have g135 : a.eval (.tmp 135) = .bool false := hd { on := 2, ground := .guard } (by simp) rfl
                refine .inl ⟨(by simp only [Region.wanted]; rw [yielded_of (d := 135) (by rfl) g135]; rfl), ?_⟩
                clear g135
                go_simp
                exact ⟨Below.refl _ _, rfl⟩
              · have t140 : a.tmps.getD 140 undef = .pointer (some ⟨B2, 0, none⟩) := hd { on := 7, ground := .data } (by simp) rfl
                rw [Array.getD_eq_getD_getElem?] at t140
                have g135 : a.eval (.tmp 135) = .bool false := hd { on := 2, ground := .guard } (by simp) rfl
                refine .inl ⟨(by simp only [Region.wanted]; rw [yielded_of (d := 135) (by rfl) g135]; rfl), ?_⟩
                clear g135
                have z0 := (HCell W hE).1
                have z1 := (HCell W hE).2.1
                go_simp
                exact ⟨Below.refl _ _, rfl⟩
              · have t137 : a.tmps.getD 137 undef = .int .i64 (n) := hd { on := 4, ground := .data } (by simp) rfl
                rw [Array.getD_eq_getD_getElem?] at t137
                have t141 : a.tmps.getD 141 undef = .int .i64 (n) := hd { on := 8, ground := .data } (by simp) rfl
                rw [Array.getD_eq_getD_getElem?] at t141
                have g135 : a.eval (.tmp 135) = .bool false := hd { on := 2, ground := .guard } (by simp) rfl
                refine .inl ⟨(by simp only [Region.wanted]; rw [yielded_of (d := 135) (by rfl) g135]; rfl), ?_⟩
                clear g135
                go_simp
                exact ⟨Below.refl _ _, rfl⟩
              · have t135 : a.tmps.getD 135 undef = .bool false := hd { on := 2, ground := .data } (by simp) rfl
                rw [Array.getD_eq_getD_getElem?] at t135
                have t142 : a.tmps.getD 142 undef = .bool false := hd { on := 9, ground := .data } (by simp) rfl
                rw [Array.getD_eq_getD_getElem?] at t142
                refine .inl ⟨rfl, ?_⟩
                go_simp
                exact ⟨Below.refl _ _, rfl⟩
              · have t143 : a.tmps.getD 143 undef = .bool false := hd { on := 10, ground := .data } (by simp) rfl
                rw [Array.getD_eq_getD_getElem?] at t143
                refine .inl ⟨rfl, ?_⟩
                go_simp
                exact ⟨Below.refl _ _, rfl⟩
              · have t5 : a.tmps.getD 5 undef = .pointer (some ⟨w.heap.size, 0, none⟩) := hF.at 5 (by kernel_rfl)
                rw [Array.getD_eq_getD_getElem?] at t5
                have g144 : a.eval (.tmp 144) = .bool false := hd { on := 11, ground := .guard } (by simp) rfl
                refine .inl ⟨(by simp only [Region.wanted]; rw [yielded_of (d := 144) (by rfl) g144]; rfl), ?_⟩
                clear g144
                go_simp
                exact ⟨Below.refl _ _, rfl⟩
              · have t145 : a.tmps.getD 145 undef = .pointer (some ⟨w.heap.size, 0, none⟩) := hd { on := 12, ground := .data } (by simp) rfl
                rw [Array.getD_eq_getD_getElem?] at t145
                have g144 : a.eval (.tmp 144) = .bool false := hd { on := 11, ground := .guard } (by simp) rfl
                refine .inl ⟨(by simp only [Region.wanted]; rw [yielded_of (d := 144) (by rfl) g144]; rfl), ?_⟩
                clear g144
                go_simp
                exact (kall ((HTw W hE).ck) (by omega)).mono fun e w2 ⟨ao, cap, h1, h2, h3⟩ => ⟨_, h1, h3, h2⟩
              · have t6 : a.tmps.getD 6 undef = .pointer (some ⟨B2, 0, none⟩) := hF.at 6 (by kernel_rfl)
                rw [Array.getD_eq_getD_getElem?] at t6
                have g144 : a.eval (.tmp 144) = .bool false := hd { on := 11, ground := .guard } (by simp) rfl
                refine .inl ⟨(by simp only [Region.wanted]; rw [yielded_of (d := 144) (by rfl) g144]; rfl), ?_⟩
                clear g144
                go_simp
                exact ⟨Below.refl _ _, rfl⟩
              · have t147 : a.tmps.getD 147 undef = .pointer (some ⟨B2, 0, none⟩) := hd { on := 14, ground := .data } (by simp) rfl
                rw [Array.getD_eq_getD_getElem?] at t147
                have g144 : a.eval (.tmp 144) = .bool false := hd { on := 11, ground := .guard } (by simp) rfl
                refine .inl ⟨(by simp only [Region.wanted]; rw [yielded_of (d := 144) (by rfl) g144]; rfl), ?_⟩
                clear g144
                go_simp
                exact ⟨Below.refl _ _, rfl⟩
              · have t148 : a.tmps.getD 148 undef = .pointer (some ⟨B2, 0, none⟩) := hd { on := 15, ground := .data } (by simp) rfl
                rw [Array.getD_eq_getD_getElem?] at t148
                have g144 : a.eval (.tmp 144) = .bool false := hd { on := 11, ground := .guard } (by simp) rfl
                refine .inl ⟨(by simp only [Region.wanted]; rw [yielded_of (d := 144) (by rfl) g144]; rfl), ?_⟩
                clear g144
                go_simp
                exact ⟨Below.refl _ _, rfl⟩
              · have t149 : a.tmps.getD 149 undef = .pointer (some ⟨B2, 1, none⟩) := hd { on := 16, ground := .data } (by simp) rfl
                rw [Array.getD_eq_getD_getElem?] at t149
                have g144 : a.eval (.tmp 144) = .bool false := hd { on := 11, ground := .guard } (by simp) rfl
                refine .inl ⟨(by simp only [Region.wanted]; rw [yielded_of (d := 144) (by rfl) g144]; rfl), ?_⟩
                clear g144
                have z0 := (HCell W hE).1
                have z1 := (HCell W hE).2.1
                go_simp
                exact ⟨Below.refl _ _, rfl⟩
              · have h146 : IsTimers W (a.tmps.getD 146 undef) (cutT L x.t.kind x.t.id) := hd { on := 13, ground := .data } (by simp) rfl
                obtain ⟨p146, q146, t146⟩ := h146.shaped
                rw [t146] at h146
                rw [Array.getD_eq_getD_getElem?] at t146
                have t150 : a.tmps.getD 150 undef = .slice so (cutT L x.t.kind x.t.id).length sc := hd { on := 17, ground := .data } (by simp) rfl
                rw [Array.getD_eq_getD_getElem?] at t150
                have g144 : a.eval (.tmp 144) = .bool false := hd { on := 11, ground := .guard } (by simp) rfl
                refine .inl ⟨(by simp only [Region.wanted]; rw [yielded_of (d := 144) (by rfl) g144]; rfl), ?_⟩
                clear g144
                go_simp
                exact (rsame_true (cutT L x.t.kind x.t.id) _ _ W h146 (HCell W hE).2.2).mono fun e w2 h => ⟨_, h.1, h.2, rfl⟩
              · have t151 : a.tmps.getD 151 undef = .bool true := hd { on := 18, ground := .data } (by simp) rfl
                rw [Array.getD_eq_getD_getElem?] at t151
                have g144 : a.eval (.tmp 144) = .bool false := hd { on := 11, ground := .guard } (by simp) rfl
                refine .inl ⟨(by simp only [Region.wanted]; rw [yielded_of (d := 144) (by rfl) g144]; rfl), ?_⟩
                clear g144
                go_simp
                exact ⟨Below.refl _ _, rfl⟩
              · have t144 : a.tmps.getD 144 undef = .bool false := hd { on := 11, ground := .data } (by simp) rfl
                rw [Array.getD_eq_getD_getElem?] at t144
                have t152 : a.tmps.getD 152 undef = .bool false := hd { on := 19, ground := .data } (by simp) rfl
                rw [Array.getD_eq_getD_getElem?] at t152
                refine .inl ⟨rfl, ?_⟩
                go_simp
                exact ⟨Below.refl _ _, rfl⟩
            · intro vs W hE hV
              have h20 : vs 20 = .bool false := hV 20 (by decide)
              have HTF : Hid (Two (fun b => b = xb) w.heap.size w.heap.size B2 (n) (cutT L x.t.kind x.t.id) (n) (cutT L x.t.kind x.t.id) W) := HTw W hE
              have HBf : Hid (Below w.heap.size w W) := HB6.out.trans (hE.mono HB6.out.size)
              clear hV hE
              simp only [putsV, dstsV, List.foldl, h20, Act.put, List.setIfInBounds_toArray, List.set_cons_succ, List.set_cons_zero]
              clear h20
              generalize vs 0 = y0
              generalize vs 1 = y1
              generalize vs 2 = y2
              generalize vs 3 = y3
              generalize vs 4 = y4
              generalize vs 5 = y5
              generalize vs 6 = y6
              generalize vs 7 = y7
              generalize vs 8 = y8
              generalize vs 9 = y9
              generalize vs 10 = y10
              generalize vs 11 = y11
              generalize vs 12 = y12
              generalize vs 13 = y13
              generalize vs 14 = y14
              generalize vs 15 = y15
              generalize vs 16 = y16
              generalize vs 17 = y17
              generalize vs 18 = y18
              generalize vs 19 = y19
              refine ‹∀ (a : Act) (w : World), Code.wp Try.prog (Code.cond _ _ _) _ a w → _› _ _ ?_
              clear HTw HCell hB2l
              go_wp2
              go_roundw
              case rel => exact ⟨k + 1, n, cutT L x.t.kind x.t.id, by omega, by go_num, HTF.out.mono fun _ h => h.elim, HBf.out, by have := cutT_length L x.t.kind x.t.id; omega⟩
              case measure => simp [intOf]; omega
        | false =>
          cases q2 : (x.do_ == 2) with
          | true =>
            obtain ⟨Y, qy, n', L', hY⟩ : ∃ Y q n' L', nextT n L x.t.at_ = (Y, q, n', L') := ⟨_, _, _, _, rfl⟩
            have hL' : L'.length ≤ L.length := by
              have e : L' = (nextT n L x.t.at_).2.2.2 := by rw [hY]
              rw [e]; unfold nextT; split <;> simp
            have HY : Hid (nextT n L x.t.at_ = (Y, qy, n', L')) := hY
            clear hY
            go_upto_region 17 with fail
            generalize hW : wr.alloc _ = wc
            have HXc : Hid (HasBox wc xb 31 (ccells x)) := by show HasBox _ _ _ _; rw [← hW, ← hxb]; exact hasBox_new wr _ _
            have HBc : Hid (Below w.heap.size w wc) := by show Below _ _ _; rw [← hW]; exact HB.out.alloc HB.out.size _
            have HTc : Hid (Two (fun b => b = xb) w.heap.size w.heap.size B2 n L n L wc) := by
              show Two _ _ _ _ _ _ _ _ _
              rw [← hW]
              exact (HT.out.fresh ((Below.refl wr.heap.size wr).alloc (Nat.le_refl _) _)).mono fun b hb => .inr (by rw [hb, ← hxb]; exact ⟨Nat.le_refl _, by simp⟩)
            clear hW
            have d0 : wc.cell? ⟨xb, 0, none⟩ = some (.int .i64 x.do_) := HXc.out.cell 0
            have d1 : wc.cell? ⟨xb, 1, none⟩ = some (.int .i64 x.t.at_) := HXc.out.cell 1
            have d2 : wc.cell? ⟨xb, 2, none⟩ = some (.int .i64 x.t.kind) := HXc.out.cell 2
            have d3 : wc.cell? ⟨xb, 3, none⟩ = some (.int .i64 x.t.id) := HXc.out.cell 3
            have KR := pnext HTc.out hL1 x.t.at_
            rw [HY.out] at KR
            go_wp2_with fail
            refine KR.mono ?_
            rintro e w3 ⟨rfl, hT3, hp3⟩
            have HX3 : Hid (HasBox w3 xb 31 (ccells x)) := hp3.box rfl HXc.out
            have HB3 : Hid (Below w.heap.size w w3) := HBc.out.trans hp3.below
            have HT3 : Hid _ := hT3
            clear hT3 hp3 d0 d1 d2 d3 KR
            go_upto_region 18 with fail
            generalize hW : w3.alloc _ = w4
            have HX4 : Hid (HasBox w4 xb 31 (ccells x)) := by show HasBox _ _ _ _; rw [← hW]; exact HX3.out.alloc _
            have HY4 : Hid (HasBox w4 w3.heap.size 29 (tcells Y)) := by show HasBox _ _ _ _; rw [← hW]; exact hasBox_new w3 _ _
            have HB4 : Hid (Below w.heap.size w w4) := by show Below _ _ _; rw [← hW]; exact HB3.out.alloc HB3.out.size _
            have HT4 : Hid (Two (fun b => b = xb ∨ b = w3.heap.size) w.heap.size w.heap.size B2 n' L' n L w4) := by
              show Two _ _ _ _ _ _ _ _ _
              rw [← hW]
              exact (HT3.out.fresh ((Below.refl w3.heap.size w3).alloc (Nat.le_refl _) _)).mono fun b hb => hb.imp id fun h => by rw [h]; exact ⟨Nat.le_refl _, by simp⟩
            clear hW
            generalize w3.heap.size = yb at HY4 HT4 ⊢
            have d0 : w4.cell? ⟨xb, 0, none⟩ = some (.int .i64 x.do_) := HX4.out.cell 0
            have d1 : w4.cell? ⟨xb, 1, none⟩ = some (.int .i64 x.t.at_) := HX4.out.cell 1
            have d2 : w4.cell? ⟨xb, 2, none⟩ = some (.int .i64 x.t.kind) := HX4.out.cell 2
            have d3 : w4.cell? ⟨xb, 3, none⟩ = some (.int .i64 x.t.id) := HX4.out.cell 3
            have KR := qnext HT4.out hL1 x.t.at_
            rw [HY.out] at KR
            go_wp2_with fail
            refine KR.mono ?_
            rintro e w5 ⟨rfl, hT5, hp5⟩
            have HX5 : Hid (HasBox w5 xb 31 (ccells x)) := hp5.box (.inl rfl) HX4.out
            have HY5 : Hid (HasBox w5 yb 29 (tcells Y)) := hp5.box (.inr rfl) HY4.out
            have HB5 : Hid (Below w.heap.size w w5) := HB4.out.trans hp5.below
            have HT5 : Hid _ := hT5
            clear hT5 hp5 d0 d1 d2 d3 KR
            go_upto_region 19 with fail
            generalize hW : w5.alloc _ = w6
            have HX6 : Hid (HasBox w6 xb 31 (ccells x)) := by show HasBox _ _ _ _; rw [← hW]; exact HX5.out.alloc _
            have HY6 : Hid (HasBox w6 yb 29 (tcells Y)) := by show HasBox _ _ _ _; rw [← hW]; exact HY5.out.alloc _
            have HZ6 : Hid (HasBox w6 w5.heap.size 29 (tcells Y)) := by show HasBox _ _ _ _; rw [← hW]; exact hasBox_new w5 _ _
            have HB6 : Hid (Below w.heap.size w w6) := by show Below _ _ _; rw [← hW]; exact HB5.out.alloc HB5.out.size _
            have HT6 : Hid (Two (fun b => b = xb) w.heap.size w.heap.size B2 n' L' n' L' w6) := by
              show Two _ _ _ _ _ _ _ _ _
              rw [← hW]
              exact (HT5.out.mono fun b hb => .inl hb).below ((Below.refl w5.heap.size w5).alloc (Nat.le_refl _) _)
            clear hW
            generalize w5.heap.size = zb at HZ6 ⊢
            have y0 : w6.cell? ⟨yb, 0, none⟩ = some (.int .i64 Y.at_) := HY6.out.cell 0
            have y1 : w6.cell? ⟨yb, 1, none⟩ = some (.int .i64 Y.kind) := HY6.out.cell 1
            have y2 : w6.cell? ⟨yb, 2, none⟩ = some (.int .i64 Y.id) := HY6.out.cell 2
            have z0 : w6.cell? ⟨zb, 0, none⟩ = some (.int .i64 Y.at_) := HZ6.out.cell 0
            have z1 : w6.cell? ⟨zb, 1, none⟩ = some (.int .i64 Y.kind) := HZ6.out.cell 1
            have z2 : w6.cell? ⟨zb, 2, none⟩ = some (.int .i64 Y.id) := HZ6.out.cell 2
            go_upto_region 22 with fail
            clear y0 y1 y2 z0 z1 z2
            have HTw : ∀ W, Below w6.heap.size w6 W → Two (fun b => b = xb) w.heap.size w.heap.size B2 (n') (L') (n') (L') W := fun W q => HT6.out.below q
            have hLen : (L').length ≤ 1000000 := by have := hL'; omega
            obtain ⟨so, sc, e0, e1, e2⟩ := HT6.out.own
            have hB2l : B2 < w6.heap.size := World.block_lt_of_cell? _ _ e0
            have HCell : ∀ W, Below w6.heap.size w6 W → W.cell? ⟨B2, 0, none⟩ = some (.int .i64 (n')) ∧ W.cell? ⟨B2, 1, none⟩ = some (.slice so (L').length sc) ∧ IsTimers W (.slice so (L').length sc) (L') := fun W q => ⟨(q.cell (p := ⟨B2, 0, none⟩) hB2l).trans e0, (q.cell (p := ⟨B2, 1, none⟩) hB2l).trans e1, e2.below q⟩
            clear e0 e1 e2
            refine wp_region_mp ([eqP (.bool true), eqP (.bool false), eqP (.bool false), eqP (.pointer (some ⟨w.heap.size, 0, none⟩)), eqP (.int .i64 (n')), eqP (.pointer (some ⟨B2, 0, none⟩)), eqP (.pointer (some ⟨B2, 0, none⟩)), eqP (.pointer (some ⟨B2, 0, none⟩)), eqP (.int .i64 (n')), eqP (.bool false), eqP (.bool false), eqP (.bool false), eqP (.pointer (some ⟨w.heap.size, 0, none⟩)), timersP (L'), eqP (.pointer (some ⟨B2, 0, none⟩)), eqP (.pointer (some ⟨B2, 0, none⟩)), eqP (.pointer (some ⟨B2, 1, none⟩)), eqP (.slice so (L').length sc), eqP (.bool true), eqP (.bool false), eqP (.bool false)]) (by kernel_rfl) (by kernel_rfl) ?_ ?_
            · go_light
              simp only [stepsAll3]
              refine ⟨fun a W hF hE hd => ?_, fun a W hF hE hd => ?_, fun a W hF hE hd => ?_, fun a W hF hE hd => ?_, fun a W hF hE hd => ?_, fun a W hF hE hd => ?_, fun a W hF hE hd => ?_, fun a W hF hE hd => ?_, fun a W hF hE hd => ?_, fun a W hF hE hd => ?_, fun a W hF hE hd => ?_, fun a W hF hE hd => ?_, fun a W hF hE hd => ?_, fun a W hF hE hd => ?_, fun a W hF hE hd => ?_, fun a W hF hE hd => ?_, fun a W hF hE hd => ?_, fun a W hF hE hd => ?_, fun a W hF hE hd => ?_, fun a W hF hE hd => ?_, fun a W hF hE hd => ?_, trivial⟩
              all_goals unfold StepAt
              · have t9 : a.tmps.getD 9 undef = .bool true := hF.at 9 (by kernel_rfl)
                rw [Array.getD_eq_getD_getElem?] at t9
                refine .inl ⟨rfl, ?_⟩
                go_simp
                exact ⟨Below.refl _ _, rfl⟩
              · have t133 : a.tmps.getD 133 undef = .bool true := hd { on := 0, ground := .data } (by simp) rfl
                rw [Array.getD_eq_getD_getElem?] at t133
                refine .inl ⟨rfl, ?_⟩
                go_simp
                exact ⟨Below.refl _ _, rfl⟩
              · have t134 : a.tmps.getD 134 undef = .bool false := hd { on := 1, ground := .data } (by simp) rfl
                rw [Array.getD_eq_getD_getElem?] at t134
                refine .inl ⟨rfl, ?_⟩
                go_simp
                exact ⟨Below.refl _ _, rfl⟩
              · have t5 : a.tmps.getD 5 undef = .pointer (some ⟨w.heap.size, 0, none⟩) := hF.at 5 (by kernel_rfl)
                rw [Array.getD_eq_getD_getElem?] at t5
                have g135 : a.eval (.tmp 135) = .bool false := hd { on := 2, ground := .guard } (by simp) rfl
                refine .inl ⟨(by simp only [Region.wanted]; rw [yielded_of (d := 135) (by rfl) g135]; rfl), ?_⟩
                clear g135
                go_simp
                exact ⟨Below.refl _ _, rfl⟩
              · have t136 : a.tmps.getD 136 undef = .pointer (some ⟨w.heap.size, 0, none⟩) := hd { on := 3, ground := .data } (by simp) rfl
                rw [Array.getD_eq_getD_getElem?] at t136
                have g135 : a.eval (.tmp 135) = .bool false := hd { on := 2, ground := .guard } (by simp) rfl
                refine .inl ⟨(by simp only [Region.wanted]; rw [yielded_of (d := 135) (by rfl) g135]; rfl), ?_⟩
                clear g135
                go_simp
                exact ((know ((HTw W hE).ck)).mono fun e w2 h => (⟨h.1, by rw [h.2]; exact Below.refl _ _⟩ : _ ∧ Below W.heap.size W w2)).mono fun e w2 h => ⟨_, h.1, h.2, rfl⟩
              · have t6 : a.tmps.getD 6 undef = .pointer (some ⟨B2, 0, none⟩) := hF.at 6 (by kernel_rfl)
                rw [Array.getD_eq_getD_getElem?] at t6
                have g135 : a.eval (.tmp 135) = .bool false := hd { on := 2, ground := .guard } (by simp) rfl
                refine .inl ⟨(by simp only [Region.wanted]; rw [yielded_of (d := 135) (by rfl) g135]; rfl), ?_⟩
                clear g135
                go_simp
                exact ⟨Below.refl _ _, rfl⟩
              · have t138 : a.tmps.getD 138 undef = .pointer (some ⟨B2, 0, none⟩) := hd { on := 5, ground := .data } (by simp) rfl
                rw [Array.getD_eq_getD_getElem?] at t138
                have g135 : a.eval (.tmp 135) = .bool false := hd { on := 2, ground := .guard } (by simp) rfl
                refine .inl ⟨(by simp only [Region.wanted]; rw [yielded_of (d := 135) (by rfl) g135]; rfl), ?_⟩
                clear g135
                go_simp
                exact ⟨Below.refl _ _, rfl⟩
              · have t139 : a.tmps.getD 139 undef = .pointer (some ⟨B2, 0, none⟩) := hd { on := 6, ground := .data } (by simp) rfl
                rw [Array.getD_eq_getD_getElem?] at t139
                have g135 : a.eval (.tmp 135) = .bool false := hd { on := 2, ground := .guard } (by simp) rfl
                refine .inl ⟨(by simp only [Region.wanted]; rw [yielded_of (d := 135) (by rfl) g135]; rfl), ?_⟩
                clear g135
                go_simp
                exact ⟨Below.refl _ _, rfl⟩
              · have t140 : a.tmps.getD 140 undef = .pointer (some ⟨B2, 0, none⟩) := hd { on := 7, ground := .data } (by simp) rfl
                rw [Array.getD_eq_getD_getElem?] at t140
                have g135 : a.eval (.tmp 135) = .bool false := hd { on := 2, ground := .guard } (by simp) rfl
                refine .inl ⟨(by simp only [Region.wanted]; rw [yielded_of (d := 135) (by rfl) g135]; rfl), ?_⟩
                clear g135
                have z0 := (HCell W hE).1
                have z1 := (HCell W hE).2.1
                go_simp
                exact ⟨Below.refl _ _, rfl⟩
              · have t137 : a.tmps.getD 137 undef = .int .i64 (n') := hd { on := 4, ground := .data } (by simp) rfl
                rw [Array.getD_eq_getD_getElem?] at t137
                have t141 : a.tmps.getD 141 undef = .int .i64 (n') := hd { on := 8, ground := .data } (by simp) rfl
                rw [Array.getD_eq_getD_getElem?] at t141
                have g135 : a.eval (.tmp 135) = .bool false := hd { on := 2, ground := .guard } (by simp) rfl
                refine .inl ⟨(by simp only [Region.wanted]; rw [yielded_of (d := 135) (by rfl) g135]; rfl), ?_⟩
                clear g135
                go_simp
                exact ⟨Below.refl _ _, rfl⟩
              · have t135 : a.tmps.getD 135 undef = .bool false := hd { on := 2, ground := .data } (by simp) rfl
                rw [Array.getD_eq_getD_getElem?] at t135
                have t142 : a.tmps.getD 142 undef = .bool false := hd { on := 9, ground := .data } (by simp) rfl
                rw [Array.getD_eq_getD_getElem?] at t142
                refine .inl ⟨rfl, ?_⟩
                go_simp
                exact ⟨Below.refl _ _, rfl⟩
              · have t143 : a.tmps.getD 143 undef = .bool false := hd { on := 10, ground := .data } (by simp) rfl
                rw [Array.getD_eq_getD_getElem?] at t143
                refine .inl ⟨rfl, ?_⟩
                go_simp
                exact ⟨Below.refl _ _, rfl⟩
              · have t5 : a.tmps.getD 5 undef = .pointer (some ⟨w.heap.size, 0, none⟩) := hF.at 5 (by kernel_rfl)
                rw [Array.getD_eq_getD_getElem?] at t5
                have g144 : a.eval (.tmp 144) = .bool false := hd { on := 11, ground := .guard } (by simp) rfl
                refine .inl ⟨(by simp only [Region.wanted]; rw [yielded_of (d := 144) (by rfl) g144]; rfl), ?_⟩
                clear g144
                go_simp
                exact ⟨Below.refl _ _, rfl⟩
              · have t145 : a.tmps.getD 145 undef = .pointer (some ⟨w.heap.size, 0, none⟩) := hd { on := 12, ground := .data } (by simp) rfl
                rw [Array.getD_eq_getD_getElem?] at t145
                have g144 : a.eval (.tmp 144) = .bool false := hd { on := 11, ground := .guard } (by simp) rfl
                refine .inl ⟨(by simp only [Region.wanted]; rw [yielded_of (d := 144) (by rfl) g144]; rfl), ?_⟩
                clear g144
                go_simp
                exact (kall ((HTw W hE).ck) (by omega)).mono fun e w2 ⟨ao, cap, h1, h2, h3⟩ => ⟨_, h1, h3, h2⟩
              · have t6 : a.tmps.getD 6 undef = .pointer (some ⟨B2, 0, none⟩) := hF.at 6 (by kernel_rfl)
                rw [Array.getD_eq_getD_getElem?] at t6
                have g144 : a.eval (.tmp 144) = .bool false := hd { on := 11, ground := .guard } (by simp) rfl
                refine .inl ⟨(by simp only [Region.wanted]; rw [yielded_of (d := 144) (by rfl) g144]; rfl), ?_⟩
                clear g144
                go_simp
                exact ⟨Below.refl _ _, rfl⟩
              · have t147 : a.tmps.getD 147 undef = .pointer (some ⟨B2, 0, none⟩) := hd { on := 14, ground := .data } (by simp) rfl
                rw [Array.getD_eq_getD_getElem?] at t147
                have g144 : a.eval (.tmp 144) = .bool false := hd { on := 11, ground := .guard } (by simp) rfl
                refine .inl ⟨(by simp only [Region.wanted]; rw [yielded_of (d := 144) (by rfl) g144]; rfl), ?_⟩
                clear g144
                go_simp
                exact ⟨Below.refl _ _, rfl⟩
              · have t148 : a.tmps.getD 148 undef = .pointer (some ⟨B2, 0, none⟩) := hd { on := 15, ground := .data } (by simp) rfl
                rw [Array.getD_eq_getD_getElem?] at t148
                have g144 : a.eval (.tmp 144) = .bool false := hd { on := 11, ground := .guard } (by simp) rfl
                refine .inl ⟨(by simp only [Region.wanted]; rw [yielded_of (d := 144) (by rfl) g144]; rfl), ?_⟩
                clear g144
                go_simp
                exact ⟨Below.refl _ _, rfl⟩
              · have t149 : a.tmps.getD 149 undef = .pointer (some ⟨B2, 1, none⟩) := hd { on := 16, ground := .data } (by simp) rfl
                rw [Array.getD_eq_getD_getElem?] at t149
                have g144 : a.eval (.tmp 144) = .bool false := hd { on := 11, ground := .guard } (by simp) rfl
                refine .inl ⟨(by simp only [Region.wanted]; rw [yielded_of (d := 144) (by rfl) g144]; rfl), ?_⟩
                clear g144
                have z0 := (HCell W hE).1
                have z1 := (HCell W hE).2.1
                go_simp
                exact ⟨Below.refl _ _, rfl⟩
              · have h146 : IsTimers W (a.tmps.getD 146 undef) (L') := hd { on := 13, ground := .data } (by simp) rfl
                obtain ⟨p146, q146, t146⟩ := h146.shaped
                rw [t146] at h146
                rw [Array.getD_eq_getD_getElem?] at t146
                have t150 : a.tmps.getD 150 undef = .slice so (L').length sc := hd { on := 17, ground := .data } (by simp) rfl
                rw [Array.getD_eq_getD_getElem?] at t150
                have g144 : a.eval (.tmp 144) = .bool false := hd { on := 11, ground := .guard } (by simp) rfl
                refine .inl ⟨(by simp only [Region.wanted]; rw [yielded_of (d := 144) (by rfl) g144]; rfl), ?_⟩
                clear g144
                go_simp
                exact (rsame_true (L') _ _ W h146 (HCell W hE).2.2).mono fun e w2 h => ⟨_, h.1, h.2, rfl⟩
              · have t151 : a.tmps.getD 151 undef = .bool true := hd { on := 18, ground := .data } (by simp) rfl
                rw [Array.getD_eq_getD_getElem?] at t151
                have g144 : a.eval (.tmp 144) = .bool false := hd { on := 11, ground := .guard } (by simp) rfl
                refine .inl ⟨(by simp only [Region.wanted]; rw [yielded_of (d := 144) (by rfl) g144]; rfl), ?_⟩
                clear g144
                go_simp
                exact ⟨Below.refl _ _, rfl⟩
              · have t144 : a.tmps.getD 144 undef = .bool false := hd { on := 11, ground := .data } (by simp) rfl
                rw [Array.getD_eq_getD_getElem?] at t144
                have t152 : a.tmps.getD 152 undef = .bool false := hd { on := 19, ground := .data } (by simp) rfl
                rw [Array.getD_eq_getD_getElem?] at t152
                refine .inl ⟨rfl, ?_⟩
                go_simp
                exact ⟨Below.refl _ _, rfl⟩
            · intro vs W hE hV
              have h20 : vs 20 = .bool false := hV 20 (by decide)
              have HTF : Hid (Two (fun b => b = xb) w.heap.size w.heap.size B2 (n') (L') (n') (L') W) := HTw W hE
              have HBf : Hid (Below w.heap.size w W) := HB6.out.trans (hE.mono HB6.out.size)
              clear hV hE
              simp only [putsV, dstsV, List.foldl, h20, Act.put, List.setIfInBounds_toArray, List.set_cons_succ, List.set_cons_zero]
              clear h20
              generalize vs 0 = y0
              generalize vs 1 = y1
              generalize vs 2 = y2
              generalize vs 3 = y3
              generalize vs 4 = y4
              generalize vs 5 = y5
              generalize vs 6 = y6
              generalize vs 7 = y7
              generalize vs 8 = y8
              generalize vs 9 = y9
              generalize vs 10 = y10
              generalize vs 11 = y11
              generalize vs 12 = y12
              generalize vs 13 = y13
              generalize vs 14 = y14
              generalize vs 15 = y15
              generalize vs 16 = y16
              generalize vs 17 = y17
              generalize vs 18 = y18
              generalize vs 19 = y19
              refine ‹∀ (a : Act) (w : World), Code.wp Try.prog (Code.cond _ _ _) _ a w → _› _ _ ?_
              clear HTw HCell hB2l
              go_wp2
              go_roundw
              case rel => exact ⟨k + 1, n', L', by omega, by go_num, HTF.out.mono fun _ h => h.elim, HBf.out, by have := hL'; omega⟩
              case measure => simp [intOf]; omega
          | false =>
            cases q3 : (x.do_ == 3) with
            | true =>
              cases hr : goOK n L x.t.at_ with
              | true =>
                have HR : Hid (goOK n L x.t.at_ = true) := hr
                go_upto_region 21 with fail
                generalize hW : wr.alloc _ = wc
                have HXc : Hid (HasBox wc xb 31 (ccells x)) := by show HasBox _ _ _ _; rw [← hW, ← hxb]; exact hasBox_new wr _ _
                have HBc : Hid (Below w.heap.size w wc) := by show Below _ _ _; rw [← hW]; exact HB.out.alloc HB.out.size _
                have HTc : Hid (Two (fun b => b = xb) w.heap.size w.heap.size B2 n L n L wc) := by
                  show Two _ _ _ _ _ _ _ _ _
                  rw [← hW]
                  exact (HT.out.fresh ((Below.refl wr.heap.size wr).alloc (Nat.le_refl _) _)).mono fun b hb => .inr (by rw [hb, ← hxb]; exact ⟨Nat.le_refl _, by simp⟩)
                clear hW
                have hTd : Two (fun b => b = xb) w.heap.size w.heap.size B2 n L n L wc.drew := HTc.out.below (Below.refl _ _).drew
                have KP := pgo hTd hL1 x.t.at_
                rw [hr, if_pos rfl] at KP
                clear hr
                refine wp_region_split 9 (fun W' => W'.cell? ⟨xb, 0, none⟩ = some (.int .i64 x.do_) ∧ W'.cell? ⟨xb, 1, none⟩ = some (.int .i64 x.t.at_) ∧ W'.cell? ⟨xb, 2, none⟩ = some (.int .i64 x.t.kind) ∧ W'.cell? ⟨xb, 3, none⟩ = some (.int .i64 x.t.id)) (by kernel_rfl) (by kernel_rfl) (HS.out _ (HXc.out.below (Below.refl _ _).drew)) (fun hS0 => ?_)
                simp only [List.take_succ_cons, List.take_zero, List.drop_succ_cons, List.drop_zero]
                refine takeH (i := 0) (v := .pointer (some ⟨w.heap.size, 0, none⟩)) rfl (by kernel_rfl) (by kernel_rfl) (by kernel_rfl) (fun _ _ _ h => h) (Or.inl ⟨by rfl, ?_⟩) hS0 ?_
                · intro wS hSw
                  go_simp
                go_frame
                refine takeH (i := 1) (v := .pointer (some ⟨xb, 1, none⟩)) rfl (by kernel_rfl) (by kernel_rfl) (by kernel_rfl) (fun _ _ _ h => h) (Or.inl ⟨by rfl, ?_⟩) hS0 ?_
                · intro wS hSw
                  go_simp
                go_frame
                refine takeH (i := 2) (v := .pointer (some ⟨xb, 1, none⟩)) rfl (by kernel_rfl) (by kernel_rfl) (by kernel_rfl) (fun _ _ _ h => h) (Or.inl ⟨by rfl, ?_⟩) hS0 ?_
                · intro wS hSw
                  go_simp
                go_frame
                refine takeH (i := 3) (v := .int .i64 x.t.at_) rfl (by kernel_rfl) (by kernel_rfl) (by kernel_rfl) (fun _ _ _ h => h) (Or.inl ⟨by rfl, ?_⟩) hS0 ?_
                · intro wS hSw
                  go_simp
                go_frame
                refine takeH (i := 5) (v := .pointer (some ⟨B2, 0, none⟩)) rfl (by kernel_rfl) (by kernel_rfl) (by kernel_rfl) (fun _ _ _ h => h) (Or.inl ⟨by rfl, ?_⟩) hS0 ?_
                · intro wS hSw
                  go_simp
                go_frame
                refine takeH (i := 6) (v := .pointer (some ⟨xb, 1, none⟩)) rfl (by kernel_rfl) (by kernel_rfl) (by kernel_rfl) (fun _ _ _ h => h) (Or.inl ⟨by rfl, ?_⟩) hS0 ?_
                · intro wS hSw
                  go_simp
                go_frame
                refine takeH (i := 7) (v := .pointer (some ⟨xb, 1, none⟩)) rfl (by kernel_rfl) (by kernel_rfl) (by kernel_rfl) (fun _ _ _ h => h) (Or.inl ⟨by rfl, ?_⟩) hS0 ?_
                · intro wS hSw
                  go_simp
                go_frame
                refine takeH (i := 8) (v := .int .i64 x.t.at_) rfl (by kernel_rfl) (by kernel_rfl) (by kernel_rfl) (fun _ _ _ h => h) (Or.inl ⟨by rfl, ?_⟩) hS0 ?_
                · intro wS hSw
                  go_simp
                go_frame
                refine wpAnyH_ready (rs := [4]) (by kernel_rfl) (by simp) ?_
                refine readyH_cons rfl (fun K hK => ?_) AllReadyH.nil
                go_simp
                refine (KP).mono ?_
                rintro e w5 ⟨rfl, hT5, hp5⟩
                have HX5 : Hid (HasBox w5 xb 31 (ccells x)) := hp5.box rfl (HXc.out.below (Below.refl _ _).drew)
                have HB5 : Hid (Below w.heap.size w w5) := (HBc.out.drew).trans hp5.below
                refine hK.out _ _ (HS.out _ HX5.out) (fun hS5 => ?_)
                clear hK K
                refine wpAnyH_done (by kernel_rfl) ?_ _
                clear hS0 hp5
                unfold afterHead
                have KQ := (by have h := qgo hT5 x.t.at_; rw [HR.out, if_pos rfl] at h; exact h)
                clear hT5
                go_wp2_with fail
                refine KQ.mono ?_
                rintro e w6 ⟨rfl, hT6, hp6⟩
                have HX6 : Hid (HasBox w6 xb 31 (ccells x)) := hp6.box rfl HX5.out
                have HB6 : Hid (Below w.heap.size w w6) := HB5.out.trans hp6.below
                have HT6 : Hid _ := hT6
                clear hp6 KQ hT6 hS5
                go_wp2_with fail
                have HTw : ∀ W, Below w6.heap.size w6 W → Two (fun b => b = xb) w.heap.size w.heap.size B2 (x.t.at_) (L) (x.t.at_) (L) W := fun W q => HT6.out.below q
                have hLen : (L).length ≤ 1000000 := by have := hLk; omega
                obtain ⟨so, sc, e0, e1, e2⟩ := HT6.out.own
                have hB2l : B2 < w6.heap.size := World.block_lt_of_cell? _ _ e0
                have HCell : ∀ W, Below w6.heap.size w6 W → W.cell? ⟨B2, 0, none⟩ = some (.int .i64 (x.t.at_)) ∧ W.cell? ⟨B2, 1, none⟩ = some (.slice so (L).length sc) ∧ IsTimers W (.slice so (L).length sc) (L) := fun W q => ⟨(q.cell (p := ⟨B2, 0, none⟩) hB2l).trans e0, (q.cell (p := ⟨B2, 1, none⟩) hB2l).trans e1, e2.below q⟩
                clear e0 e1 e2
                refine wp_region_mp ([eqP (.bool true), eqP (.bool false), eqP (.bool false), eqP (.pointer (some ⟨w.heap.size, 0, none⟩)), eqP (.int .i64 (x.t.at_)), eqP (.pointer (some ⟨B2, 0, none⟩)), eqP (.pointer (some ⟨B2, 0, none⟩)), eqP (.pointer (some ⟨B2, 0, none⟩)), eqP (.int .i64 (x.t.at_)), eqP (.bool false), eqP (.bool false), eqP (.bool false), eqP (.pointer (some ⟨w.heap.size, 0, none⟩)), timersP (L), eqP (.pointer (some ⟨B2, 0, none⟩)), eqP (.pointer (some ⟨B2, 0, none⟩)), eqP (.pointer (some ⟨B2, 1, none⟩)), eqP (.slice so (L).length sc), eqP (.bool true), eqP (.bool false), eqP (.bool false)]) (by kernel_rfl) (by kernel_rfl) ?_ ?_
                · go_light
                  simp only [stepsAll3]
                  refine ⟨fun a W hF hE hd => ?_, fun a W hF hE hd => ?_, fun a W hF hE hd => ?_, fun a W hF hE hd => ?_, fun a W hF hE hd => ?_, fun a W hF hE hd => ?_, fun a W hF hE hd => ?_, fun a W hF hE hd => ?_, fun a W hF hE hd => ?_, fun a W hF hE hd => ?_, fun a W hF hE hd => ?_, fun a W hF hE hd => ?_, fun a W hF hE hd => ?_, fun a W hF hE hd => ?_, fun a W hF hE hd => ?_, fun a W hF hE hd => ?_, fun a W hF hE hd => ?_, fun a W hF hE hd => ?_, fun a W hF hE hd => ?_, fun a W hF hE hd => ?_, fun a W hF hE hd => ?_, trivial⟩
                  all_goals unfold StepAt
                  · have t9 : a.tmps.getD 9 undef = .bool true := hF.at 9 (by kernel_rfl)
                    rw [Array.getD_eq_getD_getElem?] at t9
                    refine .inl ⟨rfl, ?_⟩
                    go_simp
                    exact ⟨Below.refl _ _, rfl⟩
                  · have t133 : a.tmps.getD 133 undef = .bool true := hd { on := 0, ground := .data } (by simp) rfl
                    rw [Array.getD_eq_getD_getElem?] at t133
                    refine .inl ⟨rfl, ?_⟩
                    go_simp
                    exact ⟨Below.refl _ _, rfl⟩
                  · have t134 : a.tmps.getD 134 undef = .bool false := hd { on := 1, ground := .data } (by simp) rfl
                    rw [Array.getD_eq_getD_getElem?] at t134
                    refine .inl ⟨rfl, ?_⟩
                    go_simp
                    exact ⟨Below.refl _ _, rfl⟩
                  · have t5 : a.tmps.getD 5 undef = .pointer (some ⟨w.heap.size, 0, none⟩) := hF.at 5 (by kernel_rfl)
                    rw [Array.getD_eq_getD_getElem?] at t5
                    have g135 : a.eval (.tmp 135) = .bool false := hd { on := 2, ground := .guard } (by simp) rfl
                    refine .inl ⟨(by simp only [Region.wanted]; rw [yielded_of (d := 135) (by rfl) g135]; rfl), ?_⟩
                    clear g135
                    go_simp
                    exact ⟨Below.refl _ _, rfl⟩
                  · have t136 : a.tmps.getD 136 undef = .pointer (some ⟨w.heap.size, 0, none⟩) := hd { on := 3, ground := .data } (by simp) rfl
                    rw [Array.getD_eq_getD_getElem?] at t136
                    have g135 : a.eval (.tmp 135) = .bool false := hd { on := 2, ground := .guard } (by simp) rfl
                    refine .inl ⟨(by simp only [Region.wanted]; rw [yielded_of (d := 135) (by rfl) g135]; rfl), ?_⟩
                    clear g135
                    go_simp
                    exact ((know ((HTw W hE).ck)).mono fun e w2 h => (⟨h.1, by rw [h.2]; exact Below.refl _ _⟩ : _ ∧ Below W.heap.size W w2)).mono fun e w2 h => ⟨_, h.1, h.2, rfl⟩
                  · have t6 : a.tmps.getD 6 undef = .pointer (some ⟨B2, 0, none⟩) := hF.at 6 (by kernel_rfl)
                    rw [Array.getD_eq_getD_getElem?] at t6
                    have g135 : a.eval (.tmp 135) = .bool false := hd { on := 2, ground := .guard } (by simp) rfl
                    refine .inl ⟨(by simp only [Region.wanted]; rw [yielded_of (d := 135) (by rfl) g135]; rfl), ?_⟩
                    clear g135
                    go_simp
                    exact ⟨Below.refl _ _, rfl⟩
                  · have t138 : a.tmps.getD 138 undef = .pointer (some ⟨B2, 0, none⟩) := hd { on := 5, ground := .data } (by simp) rfl
                    rw [Array.getD_eq_getD_getElem?] at t138
                    have g135 : a.eval (.tmp 135) = .bool false := hd { on := 2, ground := .guard } (by simp) rfl
                    refine .inl ⟨(by simp only [Region.wanted]; rw [yielded_of (d := 135) (by rfl) g135]; rfl), ?_⟩
                    clear g135
                    go_simp
                    exact ⟨Below.refl _ _, rfl⟩
                  · have t139 : a.tmps.getD 139 undef = .pointer (some ⟨B2, 0, none⟩) := hd { on := 6, ground := .data } (by simp) rfl
                    rw [Array.getD_eq_getD_getElem?] at t139
                    have g135 : a.eval (.tmp 135) = .bool false := hd { on := 2, ground := .guard } (by simp) rfl
                    refine .inl ⟨(by simp only [Region.wanted]; rw [yielded_of (d := 135) (by rfl) g135]; rfl), ?_⟩
                    clear g135
                    go_simp
                    exact ⟨Below.refl _ _, rfl⟩
                  · have t140 : a.tmps.getD 140 undef = .pointer (some ⟨B2, 0, none⟩) := hd { on := 7, ground := .data } (by simp) rfl
                    rw [Array.getD_eq_getD_getElem?] at t140
                    have g135 : a.eval (.tmp 135) = .bool false := hd { on := 2, ground := .guard } (by simp) rfl
                    refine .inl ⟨(by simp only [Region.wanted]; rw [yielded_of (d := 135) (by rfl) g135]; rfl), ?_⟩
                    clear g135
                    have z0 := (HCell W hE).1
                    have z1 := (HCell W hE).2.1
                    go_simp
                    exact ⟨Below.refl _ _, rfl⟩
                  · have t137 : a.tmps.getD 137 undef = .int .i64 (x.t.at_) := hd { on := 4, ground := .data } (by simp) rfl
                    rw [Array.getD_eq_getD_getElem?] at t137
                    have t141 : a.tmps.getD 141 undef = .int .i64 (x.t.at_) := hd { on := 8, ground := .data } (by simp) rfl
                    rw [Array.getD_eq_getD_getElem?] at t141
                    have g135 : a.eval (.tmp 135) = .bool false := hd { on := 2, ground := .guard } (by simp) rfl
                    refine .inl ⟨(by simp only [Region.wanted]; rw [yielded_of (d := 135) (by rfl) g135]; rfl), ?_⟩
                    clear g135
                    go_simp
                    exact ⟨Below.refl _ _, rfl⟩
                  · have t135 : a.tmps.getD 135 undef = .bool false := hd { on := 2, ground := .data } (by simp) rfl
                    rw [Array.getD_eq_getD_getElem?] at t135
                    have t142 : a.tmps.getD 142 undef = .bool false := hd { on := 9, ground := .data } (by simp) rfl
                    rw [Array.getD_eq_getD_getElem?] at t142
                    refine .inl ⟨rfl, ?_⟩
                    go_simp
                    exact ⟨Below.refl _ _, rfl⟩
                  · have t143 : a.tmps.getD 143 undef = .bool false := hd { on := 10, ground := .data } (by simp) rfl
                    rw [Array.getD_eq_getD_getElem?] at t143
                    refine .inl ⟨rfl, ?_⟩
                    go_simp
                    exact ⟨Below.refl _ _, rfl⟩
                  · have t5 : a.tmps.getD 5 undef = .pointer (some ⟨w.heap.size, 0, none⟩) := hF.at 5 (by kernel_rfl)
                    rw [Array.getD_eq_getD_getElem?] at t5
                    have g144 : a.eval (.tmp 144) = .bool false := hd { on := 11, ground := .guard } (by simp) rfl
                    refine .inl ⟨(by simp only [Region.wanted]; rw [yielded_of (d := 144) (by rfl) g144]; rfl), ?_⟩
                    clear g144
                    go_simp
                    exact ⟨Below.refl _ _, rfl⟩
                  · have t145 : a.tmps.getD 145 undef = .pointer (some ⟨w.heap.size, 0, none⟩) := hd { on := 12, ground := .data } (by simp) rfl
                    rw [Array.getD_eq_getD_getElem?] at t145
                    have g144 : a.eval (.tmp 144) = .bool false := hd { on := 11, ground := .guard } (by simp) rfl
                    refine .inl ⟨(by simp only [Region.wanted]; rw [yielded_of (d := 144) (by rfl) g144]; rfl), ?_⟩
                    clear g144
                    go_simp
                    exact (kall ((HTw W hE).ck) (by omega)).mono fun e w2 ⟨ao, cap, h1, h2, h3⟩ => ⟨_, h1, h3, h2⟩
                  · have t6 : a.tmps.getD 6 undef = .pointer (some ⟨B2, 0, none⟩) := hF.at 6 (by kernel_rfl)
                    rw [Array.getD_eq_getD_getElem?] at t6
                    have g144 : a.eval (.tmp 144) = .bool false := hd { on := 11, ground := .guard } (by simp) rfl
                    refine .inl ⟨(by simp only [Region.wanted]; rw [yielded_of (d := 144) (by rfl) g144]; rfl), ?_⟩
                    clear g144
                    go_simp
                    exact ⟨Below.refl _ _, rfl⟩
                  · have t147 : a.tmps.getD 147 undef = .pointer (some ⟨B2, 0, none⟩) := hd { on := 14, ground := .data } (by simp) rfl
                    rw [Array.getD_eq_getD_getElem?] at t147
                    have g144 : a.eval (.tmp 144) = .bool false := hd { on := 11, ground := .guard } (by simp) rfl
                    refine .inl ⟨(by simp only [Region.wanted]; rw [yielded_of (d := 144) (by rfl) g144]; rfl), ?_⟩
                    clear g144
                    go_simp
                    exact ⟨Below.refl _ _, rfl⟩
                  · have t148 : a.tmps.getD 148 undef = .pointer (some ⟨B2, 0, none⟩) := hd { on := 15, ground := .data } (by simp) rfl
                    rw [Array.getD_eq_getD_getElem?] at t148
                    have g144 : a.eval (.tmp 144) = .bool false := hd { on := 11, ground := .guard } (by simp) rfl
                    refine .inl ⟨(by simp only [Region.wanted]; rw [yielded_of (d := 144) (by rfl) g144]; rfl), ?_⟩
                    clear g144
                    go_simp
                    exact ⟨Below.refl _ _, rfl⟩
                  · have t149 : a.tmps.getD 149 undef = .pointer (some ⟨B2, 1, none⟩) := hd { on := 16, ground := .data } (by simp) rfl
                    rw [Array.getD_eq_getD_getElem?] at t149
                    have g144 : a.eval (.tmp 144) = .bool false := hd { on := 11, ground := .guard } (by simp) rfl
                    refine .inl ⟨(by simp only [Region.wanted]; rw [yielded_of (d := 144) (by rfl) g144]; rfl), ?_⟩
                    clear g144
                    have z0 := (HCell W hE).1
                    have z1 := (HCell W hE).2.1
                    go_simp
                    exact ⟨Below.refl _ _, rfl⟩
                  · have h146 : IsTimers W (a.tmps.getD 146 undef) (L) := hd { on := 13, ground := .data } (by simp) rfl
                    obtain ⟨p146, q146, t146⟩ := h146.shaped
                    rw [t146] at h146
                    rw [Array.getD_eq_getD_getElem?] at t146
                    have t150 : a.tmps.getD 150 undef = .slice so (L).length sc := hd { on := 17, ground := .data } (by simp) rfl
                    rw [Array.getD_eq_getD_getElem?] at t150
                    have g144 : a.eval (.tmp 144) = .bool false := hd { on := 11, ground := .guard } (by simp) rfl
                    refine .inl ⟨(by simp only [Region.wanted]; rw [yielded_of (d := 144) (by rfl) g144]; rfl), ?_⟩
                    clear g144
                    go_simp
                    exact (rsame_true (L) _ _ W h146 (HCell W hE).2.2).mono fun e w2 h => ⟨_, h.1, h.2, rfl⟩
                  · have t151 : a.tmps.getD 151 undef = .bool true := hd { on := 18, ground := .data } (by simp) rfl
                    rw [Array.getD_eq_getD_getElem?] at t151
                    have g144 : a.eval (.tmp 144) = .bool false := hd { on := 11, ground := .guard } (by simp) rfl
                    refine .inl ⟨(by simp only [Region.wanted]; rw [yielded_of (d := 144) (by rfl) g144]; rfl), ?_⟩
                    clear g144
                    go_simp
                    exact ⟨Below.refl _ _, rfl⟩
                  · have t144 : a.tmps.getD 144 undef = .bool false := hd { on := 11, ground := .data } (by simp) rfl
                    rw [Array.getD_eq_getD_getElem?] at t144
                    have t152 : a.tmps.getD 152 undef = .bool false := hd { on := 19, ground := .data } (by simp) rfl
                    rw [Array.getD_eq_getD_getElem?] at t152
                    refine .inl ⟨rfl, ?_⟩
                    go_simp
                    exact ⟨Below.refl _ _, rfl⟩
                · intro vs W hE hV
                  have h20 : vs 20 = .bool false := hV 20 (by decide)
                  have HTF : Hid (Two (fun b => b = xb) w.heap.size w.heap.size B2 (x.t.at_) (L) (x.t.at_) (L) W) := HTw W hE
                  have HBf : Hid (Below w.heap.size w W) := HB6.out.trans (hE.mono HB6.out.size)
                  clear hV hE
                  simp only [putsV, dstsV, List.foldl, h20, Act.put, List.setIfInBounds_toArray, List.set_cons_succ, List.set_cons_zero]
                  clear h20
                  generalize vs 0 = y0
                  generalize vs 1 = y1
                  generalize vs 2 = y2
                  generalize vs 3 = y3
                  generalize vs 4 = y4
                  generalize vs 5 = y5
                  generalize vs 6 = y6
                  generalize vs 7 = y7
                  generalize vs 8 = y8
                  generalize vs 9 = y9
                  generalize vs 10 = y10
                  generalize vs 11 = y11
                  generalize vs 12 = y12
                  generalize vs 13 = y13
                  generalize vs 14 = y14
                  generalize vs 15 = y15
                  generalize vs 16 = y16
                  generalize vs 17 = y17
                  generalize vs 18 = y18
                  generalize vs 19 = y19
                  refine ‹∀ (a : Act) (w : World), Code.wp Try.prog (Code.cond _ _ _) _ a w → _› _ _ ?_
                  clear HTw HCell hB2l
                  go_wp2
                  go_roundw
                  case rel => exact ⟨k + 1, x.t.at_, L, by omega, by go_num, HTF.out.mono fun _ h => h.elim, HBf.out, by have := hLk; omega⟩
                  case measure => simp [intOf]; omega
              | false =>
                have HR : Hid (goOK n L x.t.at_ = false) := hr
                go_upto_region 21 with fail
                generalize hW : wr.alloc _ = wc
                have HXc : Hid (HasBox wc xb 31 (ccells x)) := by show HasBox _ _ _ _; rw [← hW, ← hxb]; exact hasBox_new wr _ _
                have HBc : Hid (Below w.heap.size w wc) := by show Below _ _ _; rw [← hW]; exact HB.out.alloc HB.out.size _
                have HTc : Hid (Two (fun b => b = xb) w.heap.size w.heap.size B2 n L n L wc) := by
                  show Two _ _ _ _ _ _ _ _ _
                  rw [← hW]
                  exact (HT.out.fresh ((Below.refl wr.heap.size wr).alloc (Nat.le_refl _) _)).mono fun b hb => .inr (by rw [hb, ← hxb]; exact ⟨Nat.le_refl _, by simp⟩)
                clear hW
                have hTd : Two (fun b => b = xb) w.heap.size w.heap.size B2 n L n L wc.drew := HTc.out.below (Below.refl _ _).drew
                have KP := pgo hTd hL1 x.t.at_
                rw [hr, if_neg (by decide)] at KP
                clear hr
                refine wp_region_split 9 (fun W' => W'.cell? ⟨xb, 0, none⟩ = some (.int .i64 x.do_) ∧ W'.cell? ⟨xb, 1, none⟩ = some (.int .i64 x.t.at_) ∧ W'.cell? ⟨xb, 2, none⟩ = some (.int .i64 x.t.kind) ∧ W'.cell? ⟨xb, 3, none⟩ = some (.int .i64 x.t.id)) (by kernel_rfl) (by kernel_rfl) (HS.out _ (HXc.out.below (Below.refl _ _).drew)) (fun hS0 => ?_)
                simp only [List.take_succ_cons, List.take_zero, List.drop_succ_cons, List.drop_zero]
                refine takeH (i := 0) (v := .pointer (some ⟨w.heap.size, 0, none⟩)) rfl (by kernel_rfl) (by kernel_rfl) (by kernel_rfl) (fun _ _ _ h => h) (Or.inl ⟨by rfl, ?_⟩) hS0 ?_
                · intro wS hSw
                  go_simp
                go_frame
                refine takeH (i := 1) (v := .pointer (some ⟨xb, 1, none⟩)) rfl (by kernel_rfl) (by kernel_rfl) (by kernel_rfl) (fun _ _ _ h => h) (Or.inl ⟨by rfl, ?_⟩) hS0 ?_
                · intro wS hSw
                  go_simp
                go_frame
                refine takeH (i := 2) (v := .pointer (some ⟨xb, 1, none⟩)) rfl (by kernel_rfl) (by kernel_rfl) (by kernel_rfl) (fun _ _ _ h => h) (Or.inl ⟨by rfl, ?_⟩) hS0 ?_
                · intro wS hSw
                  go_simp
                go_frame
                refine takeH (i := 3) (v := .int .i64 x.t.at_) rfl (by kernel_rfl) (by kernel_rfl) (by kernel_rfl) (fun _ _ _ h => h) (Or.inl ⟨by rfl, ?_⟩) hS0 ?_
                · intro wS hSw
                  go_simp
                go_frame
                refine takeH (i := 5) (v := .pointer (some ⟨B2, 0, none⟩)) rfl (by kernel_rfl) (by kernel_rfl) (by kernel_rfl) (fun _ _ _ h => h) (Or.inl ⟨by rfl, ?_⟩) hS0 ?_
                · intro wS hSw
                  go_simp
                go_frame
                refine takeH (i := 6) (v := .pointer (some ⟨xb, 1, none⟩)) rfl (by kernel_rfl) (by kernel_rfl) (by kernel_rfl) (fun _ _ _ h => h) (Or.inl ⟨by rfl, ?_⟩) hS0 ?_
                · intro wS hSw
                  go_simp
                go_frame
                refine takeH (i := 7) (v := .pointer (some ⟨xb, 1, none⟩)) rfl (by kernel_rfl) (by kernel_rfl) (by kernel_rfl) (fun _ _ _ h => h) (Or.inl ⟨by rfl, ?_⟩) hS0 ?_
                · intro wS hSw
                  go_simp
                go_frame
                refine takeH (i := 8) (v := .int .i64 x.t.at_) rfl (by kernel_rfl) (by kernel_rfl) (by kernel_rfl) (fun _ _ _ h => h) (Or.inl ⟨by rfl, ?_⟩) hS0 ?_
                · intro wS hSw
                  go_simp
                go_frame
                refine wpAnyH_ready (rs := [4]) (by kernel_rfl) (by simp) ?_
                refine readyH_cons rfl (fun K hK => ?_) AllReadyH.nil
                go_simp
                refine (KP).mono ?_
                rintro e w5 ⟨rfl, hT5, hp5⟩
                have HX5 : Hid (HasBox w5 xb 31 (ccells x)) := hp5.box rfl (HXc.out.below (Below.refl _ _).drew)
                have HB5 : Hid (Below w.heap.size w w5) := (HBc.out.drew).trans hp5.below
                refine hK.out _ _ (HS.out _ HX5.out) (fun hS5 => ?_)
                clear hK K
                refine wpAnyH_done (by kernel_rfl) ?_ _
                clear hS0 hp5
                unfold afterHead
                have KQ := (by have h := qgo hT5 x.t.at_; rw [HR.out, if_neg (by decide)] at h; exact h)
                clear hT5
                go_wp2_with fail
                refine KQ.mono ?_
                rintro e w6 ⟨rfl, hT6, hp6⟩
                have HX6 : Hid (HasBox w6 xb 31 (ccells x)) := hp6.box rfl HX5.out
                have HB6 : Hid (Below w.heap.size w w6) := HB5.out.trans hp6.below
                have HT6 : Hid _ := hT6
                clear hp6 KQ hT6 hS5
                go_wp2_with fail
                have HTw : ∀ W, Below w6.heap.size w6 W → Two (fun b => b = xb) w.heap.size w.heap.size B2 (n) (L) (n) (L) W := fun W q => HT6.out.below q
                have hLen : (L).length ≤ 1000000 := by have := hLk; omega
                obtain ⟨so, sc, e0, e1, e2⟩ := HT6.out.own
                have hB2l : B2 < w6.heap.size := World.block_lt_of_cell? _ _ e0
                have HCell : ∀ W, Below w6.heap.size w6 W → W.cell? ⟨B2, 0, none⟩ = some (.int .i64 (n)) ∧ W.cell? ⟨B2, 1, none⟩ = some (.slice so (L).length sc) ∧ IsTimers W (.slice so (L).length sc) (L) := fun W q => ⟨(q.cell (p := ⟨B2, 0, none⟩) hB2l).trans e0, (q.cell (p := ⟨B2, 1, none⟩) hB2l).trans e1, e2.below q⟩
                clear e0 e1 e2
                refine wp_region_mp ([eqP (.bool true), eqP (.bool false), eqP (.bool false), eqP (.pointer (some ⟨w.heap.size, 0, none⟩)), eqP (.int .i64 (n)), eqP (.pointer (some ⟨B2, 0, none⟩)), eqP (.pointer (some ⟨B2, 0, none⟩)), eqP (.pointer (some ⟨B2, 0, none⟩)), eqP (.int .i64 (n)), eqP (.bool false), eqP (.bool false), eqP (.bool false), eqP (.pointer (some ⟨w.heap.size, 0, none⟩)), timersP (L), eqP (.pointer (some ⟨B2, 0, none⟩)), eqP (.pointer (some ⟨B2, 0, none⟩)), eqP (.pointer (some ⟨B2, 1, none⟩)), eqP (.slice so (L).length sc), eqP (.bool true), eqP (.bool false), eqP (.bool false)]) (by kernel_rfl) (by kernel_rfl) ?_ ?_
                · go_light
                  simp only [stepsAll3]
                  refine ⟨fun a W hF hE hd => ?_, fun a W hF hE hd => ?_, fun a W hF hE hd => ?_, fun a W hF hE hd => ?_, fun a W hF hE hd => ?_, fun a W hF hE hd => ?_, fun a W hF hE hd => ?_, fun a W hF hE hd => ?_, fun a W hF hE hd => ?_, fun a W hF hE hd => ?_, fun a W hF hE hd => ?_, fun a W hF hE hd => ?_, fun a W hF hE hd => ?_, fun a W hF hE hd => ?_, fun a W hF hE hd => ?_, fun a W hF hE hd => ?_, fun a W hF hE hd => ?_, fun a W hF hE hd => ?_, fun a W hF hE hd => ?_, fun a W hF hE hd => ?_, fun a W hF hE hd => ?_, trivial⟩
                  all_goals unfold StepAt
                  · have t9 : a.tmps.getD 9 undef = .bool true := hF.at 9 (by kernel_rfl)
                    rw [Array.getD_eq_getD_getElem?] at t9
                    refine .inl ⟨rfl, ?_⟩
                    go_simp
                    exact ⟨Below.refl _ _, rfl⟩
                  · have t133 : a.tmps.getD 133 undef = .bool true := hd { on := 0, ground := .data } (by simp) rfl
                    rw [Array.getD_eq_getD_getElem?] at t133
                    refine .inl ⟨rfl, ?_⟩
                    go_simp
                    exact ⟨Below.refl _ _, rfl⟩
                  · have t134 : a.tmps.getD 134 undef = .bool false := hd { on := 1, ground := .data } (by simp) rfl
                    rw [Array.getD_eq_getD_getElem?] at t134
                    refine .inl ⟨rfl, ?_⟩
                    go_simp
                    exact ⟨Below.refl _ _, rfl⟩
                  · have t5 : a.tmps.getD 5 undef = .pointer (some ⟨w.heap.size, 0, none⟩) := hF.at 5 (by kernel_rfl)
                    rw [Array.getD_eq_getD_getElem?] at t5
                    have g135 : a.eval (.tmp 135) = .bool false := hd { on := 2, ground := .guard } (by simp) rfl
                    refine .inl ⟨(by simp only [Region.wanted]; rw [yielded_of (d := 135) (by rfl) g135]; rfl), ?_⟩
                    clear g135
                    go_simp
                    exact ⟨Below.refl _ _, rfl⟩
                  · have t136 : a.tmps.getD 136 undef = .pointer (some ⟨w.heap.size, 0, none⟩) := hd { on := 3, ground := .data } (by simp) rfl
                    rw [Array.getD_eq_getD_getElem?] at t136
                    have g135 : a.eval (.tmp 135) = .bool false := hd { on := 2, ground := .guard } (by simp) rfl
                    refine .inl ⟨(by simp only [Region.wanted]; rw [yielded_of (d := 135) (by rfl) g135]; rfl), ?_⟩
                    clear g135
                    go_simp
                    exact ((know ((HTw W hE).ck)).mono fun e w2 h => (⟨h.1, by rw [h.2]; exact Below.refl _ _⟩ : _ ∧ Below W.heap.size W w2)).mono fun e w2 h => ⟨_, h.1, h.2, rfl⟩
                  · have t6 : a.tmps.getD 6 undef = .pointer (some ⟨B2, 0, none⟩) := hF.at 6 (by kernel_rfl)
                    rw [Array.getD_eq_getD_getElem?] at t6
                    have g135 : a.eval (.tmp 135) = .bool false := hd { on := 2, ground := .guard } (by simp) rfl
                    refine .inl ⟨(by simp only [Region.wanted]; rw [yielded_of (d := 135) (by rfl) g135]; rfl), ?_⟩
                    clear g135
                    go_simp
                    exact ⟨Below.refl _ _, rfl⟩
                  · have t138 : a.tmps.getD 138 undef = .pointer (some ⟨B2, 0, none⟩) := hd { on := 5, ground := .data } (by simp) rfl
                    rw [Array.getD_eq_getD_getElem?] at t138
                    have g135 : a.eval (.tmp 135) = .bool false := hd { on := 2, ground := .guard } (by simp) rfl
                    refine .inl ⟨(by simp only [Region.wanted]; rw [yielded_of (d := 135) (by rfl) g135]; rfl), ?_⟩
                    clear g135
                    go_simp
                    exact ⟨Below.refl _ _, rfl⟩
                  · have t139 : a.tmps.getD 139 undef = .pointer (some ⟨B2, 0, none⟩) := hd { on := 6, ground := .data } (by simp) rfl
                    rw [Array.getD_eq_getD_getElem?] at t139
                    have g135 : a.eval (.tmp 135) = .bool false := hd { on := 2, ground := .guard } (by simp) rfl
                    refine .inl ⟨(by simp only [Region.wanted]; rw [yielded_of (d := 135) (by rfl) g135]; rfl), ?_⟩
                    clear g135
                    go_simp
                    exact ⟨Below.refl _ _, rfl⟩
                  · have t140 : a.tmps.getD 140 undef = .pointer (some ⟨B2, 0, none⟩) := hd { on := 7, ground := .data } (by simp) rfl
                    rw [Array.getD_eq_getD_getElem?] at t140
                    have g135 : a.eval (.tmp 135) = .bool false := hd { on := 2, ground := .guard } (by simp) rfl
                    refine .inl ⟨(by simp only [Region.wanted]; rw [yielded_of (d := 135) (by rfl) g135]; rfl), ?_⟩
                    clear g135
                    have z0 := (HCell W hE).1
                    have z1 := (HCell W hE).2.1
                    go_simp
                    exact ⟨Below.refl _ _, rfl⟩
                  · have t137 : a.tmps.getD 137 undef = .int .i64 (n) := hd { on := 4, ground := .data } (by simp) rfl
                    rw [Array.getD_eq_getD_getElem?] at t137
                    have t141 : a.tmps.getD 141 undef = .int .i64 (n) := hd { on := 8, ground := .data } (by simp) rfl
                    rw [Array.getD_eq_getD_getElem?] at t141
                    have g135 : a.eval (.tmp 135) = .bool false := hd { on := 2, ground := .guard } (by simp) rfl
                    refine .inl ⟨(by simp only [Region.wanted]; rw [yielded_of (d := 135) (by rfl) g135]; rfl), ?_⟩
                    clear g135
                    go_simp
                    exact ⟨Below.refl _ _, rfl⟩
                  · have t135 : a.tmps.getD 135 undef = .bool false := hd { on := 2, ground := .data } (by simp) rfl
                    rw [Array.getD_eq_getD_getElem?] at t135
                    have t142 : a.tmps.getD 142 undef = .bool false := hd { on := 9, ground := .data } (by simp) rfl
                    rw [Array.getD_eq_getD_getElem?] at t142
                    refine .inl ⟨rfl, ?_⟩
                    go_simp
                    exact ⟨Below.refl _ _, rfl⟩
                  · have t143 : a.tmps.getD 143 undef = .bool false := hd { on := 10, ground := .data } (by simp) rfl
                    rw [Array.getD_eq_getD_getElem?] at t143
                    refine .inl ⟨rfl, ?_⟩
                    go_simp
                    exact ⟨Below.refl _ _, rfl⟩
                  · have t5 : a.tmps.getD 5 undef = .pointer (some ⟨w.heap.size, 0, none⟩) := hF.at 5 (by kernel_rfl)
                    rw [Array.getD_eq_getD_getElem?] at t5
                    have g144 : a.eval (.tmp 144) = .bool false := hd { on := 11, ground := .guard } (by simp) rfl
                    refine .inl ⟨(by simp only [Region.wanted]; rw [yielded_of (d := 144) (by rfl) g144]; rfl), ?_⟩
                    clear g144
                    go_simp
                    exact ⟨Below.refl _ _, rfl⟩
                  · have t145 : a.tmps.getD 145 undef = .pointer (some ⟨w.heap.size, 0, none⟩) := hd { on := 12, ground := .data } (by simp) rfl
                    rw [Array.getD_eq_getD_getElem?] at t145
                    have g144 : a.eval (.tmp 144) = .bool false := hd { on := 11, ground := .guard } (by simp) rfl
                    refine .inl ⟨(by simp only [Region.wanted]; rw [yielded_of (d := 144) (by rfl) g144]; rfl), ?_⟩
                    clear g144
                    go_simp
                    exact (kall ((HTw W hE).ck) (by omega)).mono fun e w2 ⟨ao, cap, h1, h2, h3⟩ => ⟨_, h1, h3, h2⟩
                  · have t6 : a.tmps.getD 6 undef = .pointer (some ⟨B2, 0, none⟩) := hF.at 6 (by kernel_rfl)
                    rw [Array.getD_eq_getD_getElem?] at t6
                    have g144 : a.eval (.tmp 144) = .bool false := hd { on := 11, ground := .guard } (by simp) rfl
                    refine .inl ⟨(by simp only [Region.wanted]; rw [yielded_of (d := 144) (by rfl) g144]; rfl), ?_⟩
                    clear g144
                    go_simp
                    exact ⟨Below.refl _ _, rfl⟩
                  · have t147 : a.tmps.getD 147 undef = .pointer (some ⟨B2, 0, none⟩) := hd { on := 14, ground := .data } (by simp) rfl
                    rw [Array.getD_eq_getD_getElem?] at t147
                    have g144 : a.eval (.tmp 144) = .bool false := hd { on := 11, ground := .guard } (by simp) rfl
                    refine .inl ⟨(by simp only [Region.wanted]; rw [yielded_of (d := 144) (by rfl) g144]; rfl), ?_⟩
                    clear g144
                    go_simp
                    exact ⟨Below.refl _ _, rfl⟩
                  · have t148 : a.tmps.getD 148 undef = .pointer (some ⟨B2, 0, none⟩) := hd { on := 15, ground := .data } (by simp) rfl
                    rw [Array.getD_eq_getD_getElem?] at t148
                    have g144 : a.eval (.tmp 144) = .bool false := hd { on := 11, ground := .guard } (by simp) rfl
                    refine .inl ⟨(by simp only [Region.wanted]; rw [yielded_of (d := 144) (by rfl) g144]; rfl), ?_⟩
                    clear g144
                    go_simp
                    exact ⟨Below.refl _ _, rfl⟩
                  · have t149 : a.tmps.getD 149 undef = .pointer (some ⟨B2, 1, none⟩) := hd { on := 16, ground := .data } (by simp) rfl
                    rw [Array.getD_eq_getD_getElem?] at t149
                    have g144 : a.eval (.tmp 144) = .bool false := hd { on := 11, ground := .guard } (by simp) rfl
                    refine .inl ⟨(by simp only [Region.wanted]; rw [yielded_of (d := 144) (by rfl) g144]; rfl), ?_⟩
                    clear g144
                    have z0 := (HCell W hE).1
                    have z1 := (HCell W hE).2.1
                    go_simp
                    exact ⟨Below.refl _ _, rfl⟩
                  · have h146 : IsTimers W (a.tmps.getD 146 undef) (L) := hd { on := 13, ground := .data } (by simp) rfl
                    obtain ⟨p146, q146, t146⟩ := h146.shaped
                    rw [t146] at h146
                    rw [Array.getD_eq_getD_getElem?] at t146
                    have t150 : a.tmps.getD 150 undef = .slice so (L).length sc := hd { on := 17, ground := .data } (by simp) rfl
                    rw [Array.getD_eq_getD_getElem?] at t150
                    have g144 : a.eval (.tmp 144) = .bool false := hd { on := 11, ground := .guard } (by simp) rfl
                    refine .inl ⟨(by simp only [Region.wanted]; rw [yielded_of (d := 144) (by rfl) g144]; rfl), ?_⟩
                    clear g144
                    go_simp
                    exact (rsame_true (L) _ _ W h146 (HCell W hE).2.2).mono fun e w2 h => ⟨_, h.1, h.2, rfl⟩
                  · have t151 : a.tmps.getD 151 undef = .bool true := hd { on := 18, ground := .data } (by simp) rfl
                    rw [Array.getD_eq_getD_getElem?] at t151
                    have g144 : a.eval (.tmp 144) = .bool false := hd { on := 11, ground := .guard } (by simp) rfl
                    refine .inl ⟨(by simp only [Region.wanted]; rw [yielded_of (d := 144) (by rfl) g144]; rfl), ?_⟩
                    clear g144
                    go_simp
                    exact ⟨Below.refl _ _, rfl⟩
                  · have t144 : a.tmps.getD 144 undef = .bool false := hd { on := 11, ground := .data } (by simp) rfl
                    rw [Array.getD_eq_getD_getElem?] at t144
                    have t152 : a.tmps.getD 152 undef = .bool false := hd { on := 19, ground := .data } (by simp) rfl
                    rw [Array.getD_eq_getD_getElem?] at t152
                    refine .inl ⟨rfl, ?_⟩
                    go_simp
                    exact ⟨Below.refl _ _, rfl⟩
                · intro vs W hE hV
                  have h20 : vs 20 = .bool false := hV 20 (by decide)
                  have HTF : Hid (Two (fun b => b = xb) w.heap.size w.heap.size B2 (n) (L) (n) (L) W) := HTw W hE
                  have HBf : Hid (Below w.heap.size w W) := HB6.out.trans (hE.mono HB6.out.size)
                  clear hV hE
                  simp only [putsV, dstsV, List.foldl, h20, Act.put, List.setIfInBounds_toArray, List.set_cons_succ, List.set_cons_zero]
                  clear h20
                  generalize vs 0 = y0
                  generalize vs 1 = y1
                  generalize vs 2 = y2
                  generalize vs 3 = y3
                  generalize vs 4 = y4
                  generalize vs 5 = y5
                  generalize vs 6 = y6
                  generalize vs 7 = y7
                  generalize vs 8 = y8
                  generalize vs 9 = y9
                  generalize vs 10 = y10
                  generalize vs 11 = y11
                  generalize vs 12 = y12
                  generalize vs 13 = y13
                  generalize vs 14 = y14
                  generalize vs 15 = y15
                  generalize vs 16 = y16
                  generalize vs 17 = y17
                  generalize vs 18 = y18
                  generalize vs 19 = y19
                  refine ‹∀ (a : Act) (w : World), Code.wp Try.prog (Code.cond _ _ _) _ a w → _› _ _ ?_
                  clear HTw HCell hB2l
                  go_wp2
                  go_roundw
                  case rel => exact ⟨k + 1, n, L, by omega, by go_num, HTF.out.mono fun _ h => h.elim, HBf.out, by have := hLk; omega⟩
                  case measure => simp [intOf]; omega
            | false =>
              obtain ⟨wn, wq, hwn⟩ : ∃ a b, whenT L x.t.kind x.t.id = (a, b) := ⟨_, _, rfl⟩
              have HW : Hid (whenT L x.t.kind x.t.id = (wn, wq)) := hwn
              clear hwn
              go_upto_region 9 with fail
              generalize hW : wr.alloc _ = wc
              have HXc : Hid (HasBox wc xb 31 (ccells x)) := by show HasBox _ _ _ _; rw [← hW, ← hxb]; exact hasBox_new wr _ _
              have HBc : Hid (Below w.heap.size w wc) := by show Below _ _ _; rw [← hW]; exact HB.out.alloc HB.out.size _
              have HTc : Hid (Two (fun b => b = xb) w.heap.size w.heap.size B2 n L n L wc) := by
                show Two _ _ _ _ _ _ _ _ _
                rw [← hW]
                exact (HT.out.fresh ((Below.refl wr.heap.size wr).alloc (Nat.le_refl _) _)).mono fun b hb => .inr (by rw [hb, ← hxb]; exact ⟨Nat.le_refl _, by simp⟩)
              clear hW
              have d0 : wc.cell? ⟨xb, 0, none⟩ = some (.int .i64 x.do_) := HXc.out.cell 0
              have d1 : wc.cell? ⟨xb, 1, none⟩ = some (.int .i64 x.t.at_) := HXc.out.cell 1
              have d2 : wc.cell? ⟨xb, 2, none⟩ = some (.int .i64 x.t.kind) := HXc.out.cell 2
              have d3 : wc.cell? ⟨xb, 3, none⟩ = some (.int .i64 x.t.id) := HXc.out.cell 3
              have KR := kat HTc.out.ck hL1 x.t.kind x.t.id
              rw [HW.out] at KR
              go_wp2_with fail
              refine KR.mono ?_
              rintro e w3 ⟨rfl, hb⟩
              have HX3 : Hid (HasBox w3 xb 31 (ccells x)) := HXc.out.below hb
              have HB3 : Hid (Below w.heap.size w w3) := HBc.out.trans (hb.mono HBc.out.size)
              have HT3 : Hid (Two (fun b => b = xb) w.heap.size w.heap.size B2 n L n L w3) := HTc.out.below hb
              clear hb d0 d1 d2 d3 KR
              have d0 : w3.cell? ⟨xb, 0, none⟩ = some (.int .i64 x.do_) := HX3.out.cell 0
              have d1 : w3.cell? ⟨xb, 1, none⟩ = some (.int .i64 x.t.at_) := HX3.out.cell 1
              have d2 : w3.cell? ⟨xb, 2, none⟩ = some (.int .i64 x.t.kind) := HX3.out.cell 2
              have d3 : w3.cell? ⟨xb, 3, none⟩ = some (.int .i64 x.t.id) := HX3.out.cell 3
              have KR := qat HT3.out hL1 x.t.kind x.t.id
              rw [HW.out] at KR
              go_wp2_with fail
              refine KR.mono ?_
              rintro e w6 ⟨rfl, hb⟩
              have HB6 : Hid (Below w.heap.size w w6) := HB3.out.trans (hb.mono HB3.out.size)
              have HT6 : Hid (Two (fun b => b = xb) w.heap.size w.heap.size B2 n L n L w6) := HT3.out.below hb
              clear hb d0 d1 d2 d3 KR
              go_wp2_with fail
              have HTw : ∀ W, Below w6.heap.size w6 W → Two (fun b => b = xb) w.heap.size w.heap.size B2 (n) (L) (n) (L) W := fun W q => HT6.out.below q
              have hLen : (L).length ≤ 1000000 := by have := hLk; omega
              obtain ⟨so, sc, e0, e1, e2⟩ := HT6.out.own
              have hB2l : B2 < w6.heap.size := World.block_lt_of_cell? _ _ e0
              have HCell : ∀ W, Below w6.heap.size w6 W → W.cell? ⟨B2, 0, none⟩ = some (.int .i64 (n)) ∧ W.cell? ⟨B2, 1, none⟩ = some (.slice so (L).length sc) ∧ IsTimers W (.slice so (L).length sc) (L) := fun W q => ⟨(q.cell (p := ⟨B2, 0, none⟩) hB2l).trans e0, (q.cell (p := ⟨B2, 1, none⟩) hB2l).trans e1, e2.below q⟩
              clear e0 e1 e2
              refine wp_region_mp ([eqP (.bool true), eqP (.bool false), eqP (.bool false), eqP (.pointer (some ⟨w.heap.size, 0, none⟩)), eqP (.int .i64 (n)), eqP (.pointer (some ⟨B2, 0, none⟩)), eqP (.pointer (some ⟨B2, 0, none⟩)), eqP (.pointer (some ⟨B2, 0, none⟩)), eqP (.int .i64 (n)), eqP (.bool false), eqP (.bool false), eqP (.bool false), eqP (.pointer (some ⟨w.heap.size, 0, none⟩)), timersP (L), eqP (.pointer (some ⟨B2, 0, none⟩)), eqP (.pointer (some ⟨B2, 0, none⟩)), eqP (.pointer (some ⟨B2, 1, none⟩)), eqP (.slice so (L).length sc), eqP (.bool true), eqP (.bool false), eqP (.bool false)]) (by kernel_rfl) (by kernel_rfl) ?_ ?_
              · go_light
                simp only [stepsAll3]
                refine ⟨fun a W hF hE hd => ?_, fun a W hF hE hd => ?_, fun a W hF hE hd => ?_, fun a W hF hE hd => ?_, fun a W hF hE hd => ?_, fun a W hF hE hd => ?_, fun a W hF hE hd => ?_, fun a W hF hE hd => ?_, fun a W hF hE hd => ?_, fun a W hF hE hd => ?_, fun a W hF hE hd => ?_, fun a W hF hE hd => ?_, fun a W hF hE hd => ?_, fun a W hF hE hd => ?_, fun a W hF hE hd => ?_, fun a W hF hE hd => ?_, fun a W hF hE hd => ?_, fun a W hF hE hd => ?_, fun a W hF hE hd => ?_, fun a W hF hE hd => ?_, fun a W hF hE hd => ?_, trivial⟩
                all_goals unfold StepAt
                · have t9 : a.tmps.getD 9 undef = .bool true := hF.at 9 (by kernel_rfl)
                  rw [Array.getD_eq_getD_getElem?] at t9
                  refine .inl ⟨rfl, ?_⟩
                  go_simp
                  exact ⟨Below.refl _ _, rfl⟩
                · have t133 : a.tmps.getD 133 undef = .bool true := hd { on := 0, ground := .data } (by simp) rfl
                  rw [Array.getD_eq_getD_getElem?] at t133
                  refine .inl ⟨rfl, ?_⟩
                  go_simp
                  exact ⟨Below.refl _ _, rfl⟩
                · have t134 : a.tmps.getD 134 undef = .bool false := hd { on := 1, ground := .data } (by simp) rfl
                  rw [Array.getD_eq_getD_getElem?] at t134
                  refine .inl ⟨rfl, ?_⟩
                  go_simp
                  exact ⟨Below.refl _ _, rfl⟩
                · have t5 : a.tmps.getD 5 undef = .pointer (some ⟨w.heap.size, 0, none⟩) := hF.at 5 (by kernel_rfl)
                  rw [Array.getD_eq_getD_getElem?] at t5
                  have g135 : a.eval (.tmp 135) = .bool false := hd { on := 2, ground := .guard } (by simp) rfl
                  refine .inl ⟨(by simp only [Region.wanted]; rw [yielded_of (d := 135) (by rfl) g135]; rfl), ?_⟩
                  clear g135
                  go_simp
                  exact ⟨Below.refl _ _, rfl⟩
                · have t136 : a.tmps.getD 136 undef = .pointer (some ⟨w.heap.size, 0, none⟩) := hd { on := 3, ground := .data } (by simp) rfl
                  rw [Array.getD_eq_getD_getElem?] at t136
                  have g135 : a.eval (.tmp 135) = .bool false := hd { on := 2, ground := .guard } (by simp) rfl
                  refine .inl ⟨(by simp only [Region.wanted]; rw [yielded_of (d := 135) (by rfl) g135]; rfl), ?_⟩
                  clear g135
                  go_simp
                  exact ((know ((HTw W hE).ck)).mono fun e w2 h => (⟨h.1, by rw [h.2]; exact Below.refl _ _⟩ : _ ∧ Below W.heap.size W w2)).mono fun e w2 h => ⟨_, h.1, h.2, rfl⟩
                · have t6 : a.tmps.getD 6 undef = .pointer (some ⟨B2, 0, none⟩) := hF.at 6 (by kernel_rfl)
                  rw [Array.getD_eq_getD_getElem?] at t6
                  have g135 : a.eval (.tmp 135) = .bool false := hd { on := 2, ground := .guard } (by simp) rfl
                  refine .inl ⟨(by simp only [Region.wanted]; rw [yielded_of (d := 135) (by rfl) g135]; rfl), ?_⟩
                  clear g135
                  go_simp
                  exact ⟨Below.refl _ _, rfl⟩
                · have t138 : a.tmps.getD 138 undef = .pointer (some ⟨B2, 0, none⟩) := hd { on := 5, ground := .data } (by simp) rfl
                  rw [Array.getD_eq_getD_getElem?] at t138
                  have g135 : a.eval (.tmp 135) = .bool false := hd { on := 2, ground := .guard } (by simp) rfl
                  refine .inl ⟨(by simp only [Region.wanted]; rw [yielded_of (d := 135) (by rfl) g135]; rfl), ?_⟩
                  clear g135
                  go_simp
                  exact ⟨Below.refl _ _, rfl⟩
                · have t139 : a.tmps.getD 139 undef = .pointer (some ⟨B2, 0, none⟩) := hd { on := 6, ground := .data } (by simp) rfl
                  rw [Array.getD_eq_getD_getElem?] at t139
                  have g135 : a.eval (.tmp 135) = .bool false := hd { on := 2, ground := .guard } (by simp) rfl
                  refine .inl ⟨(by simp only [Region.wanted]; rw [yielded_of (d := 135) (by rfl) g135]; rfl), ?_⟩
                  clear g135
                  go_simp
                  exact ⟨Below.refl _ _, rfl⟩
                · have t140 : a.tmps.getD 140 undef = .pointer (some ⟨B2, 0, none⟩) := hd { on := 7, ground := .data } (by simp) rfl
                  rw [Array.getD_eq_getD_getElem?] at t140
                  have g135 : a.eval (.tmp 135) = .bool false := hd { on := 2, ground := .guard } (by simp) rfl
                  refine .inl ⟨(by simp only [Region.wanted]; rw [yielded_of (d := 135) (by rfl) g135]; rfl), ?_⟩
                  clear g135
                  have z0 := (HCell W hE).1
                  have z1 := (HCell W hE).2.1
                  go_simp
                  exact ⟨Below.refl _ _, rfl⟩
                · have t137 : a.tmps.getD 137 undef = .int .i64 (n) := hd { on := 4, ground := .data } (by simp) rfl
                  rw [Array.getD_eq_getD_getElem?] at t137
                  have t141 : a.tmps.getD 141 undef = .int .i64 (n) := hd { on := 8, ground := .data } (by simp) rfl
                  rw [Array.getD_eq_getD_getElem?] at t141
                  have g135 : a.eval (.tmp 135) = .bool false := hd { on := 2, ground := .guard } (by simp) rfl
                  refine .inl ⟨(by simp only [Region.wanted]; rw [yielded_of (d := 135) (by rfl) g135]; rfl), ?_⟩
                  clear g135
                  go_simp
                  exact ⟨Below.refl _ _, rfl⟩
                · have t135 : a.tmps.getD 135 undef = .bool false := hd { on := 2, ground := .data } (by simp) rfl
                  rw [Array.getD_eq_getD_getElem?] at t135
                  have t142 : a.tmps.getD 142 undef = .bool false := hd { on := 9, ground := .data } (by simp) rfl
                  rw [Array.getD_eq_getD_getElem?] at t142
                  refine .inl ⟨rfl, ?_⟩
                  go_simp
                  exact ⟨Below.refl _ _, rfl⟩
                · have t143 : a.tmps.getD 143 undef = .bool false := hd { on := 10, ground := .data } (by simp) rfl
                  rw [Array.getD_eq_getD_getElem?] at t143
                  refine .inl ⟨rfl, ?_⟩
                  go_simp
                  exact ⟨Below.refl _ _, rfl⟩
                · have t5 : a.tmps.getD 5 undef = .pointer (some ⟨w.heap.size, 0, none⟩) := hF.at 5 (by kernel_rfl)
                  rw [Array.getD_eq_getD_getElem?] at t5
                  have g144 : a.eval (.tmp 144) = .bool false := hd { on := 11, ground := .guard } (by simp) rfl
                  refine .inl ⟨(by simp only [Region.wanted]; rw [yielded_of (d := 144) (by rfl) g144]; rfl), ?_⟩
                  clear g144
                  go_simp
                  exact ⟨Below.refl _ _, rfl⟩
                · have t145 : a.tmps.getD 145 undef = .pointer (some ⟨w.heap.size, 0, none⟩) := hd { on := 12, ground := .data } (by simp) rfl
                  rw [Array.getD_eq_getD_getElem?] at t145
                  have g144 : a.eval (.tmp 144) = .bool false := hd { on := 11, ground := .guard } (by simp) rfl
                  refine .inl ⟨(by simp only [Region.wanted]; rw [yielded_of (d := 144) (by rfl) g144]; rfl), ?_⟩
                  clear g144
                  go_simp
                  exact (kall ((HTw W hE).ck) (by omega)).mono fun e w2 ⟨ao, cap, h1, h2, h3⟩ => ⟨_, h1, h3, h2⟩
                · have t6 : a.tmps.getD 6 undef = .pointer (some ⟨B2, 0, none⟩) := hF.at 6 (by kernel_rfl)
                  rw [Array.getD_eq_getD_getElem?] at t6
                  have g144 : a.eval (.tmp 144) = .bool false := hd { on := 11, ground := .guard } (by simp) rfl
                  refine .inl ⟨(by simp only [Region.wanted]; rw [yielded_of (d := 144) (by rfl) g144]; rfl), ?_⟩
                  clear g144
                  go_simp
                  exact ⟨Below.refl _ _, rfl⟩
                · have t147 : a.tmps.getD 147 undef = .pointer (some ⟨B2, 0, none⟩) := hd { on := 14, ground := .data } (by simp) rfl
                  rw [Array.getD_eq_getD_getElem?] at t147
                  have g144 : a.eval (.tmp 144) = .bool false := hd { on := 11, ground := .guard } (by simp) rfl
                  refine .inl ⟨(by simp only [Region.wanted]; rw [yielded_of (d := 144) (by rfl) g144]; rfl), ?_⟩
                  clear g144
                  go_simp
                  exact ⟨Below.refl _ _, rfl⟩
                · have t148 : a.tmps.getD 148 undef = .pointer (some ⟨B2, 0, none⟩) := hd { on := 15, ground := .data } (by simp) rfl
                  rw [Array.getD_eq_getD_getElem?] at t148
                  have g144 : a.eval (.tmp 144) = .bool false := hd { on := 11, ground := .guard } (by simp) rfl
                  refine .inl ⟨(by simp only [Region.wanted]; rw [yielded_of (d := 144) (by rfl) g144]; rfl), ?_⟩
                  clear g144
                  go_simp
                  exact ⟨Below.refl _ _, rfl⟩
                · have t149 : a.tmps.getD 149 undef = .pointer (some ⟨B2, 1, none⟩) := hd { on := 16, ground := .data } (by simp) rfl
                  rw [Array.getD_eq_getD_getElem?] at t149
                  have g144 : a.eval (.tmp 144) = .bool false := hd { on := 11, ground := .guard } (by simp) rfl
                  refine .inl ⟨(by simp only [Region.wanted]; rw [yielded_of (d := 144) (by rfl) g144]; rfl), ?_⟩
                  clear g144
                  have z0 := (HCell W hE).1
                  have z1 := (HCell W hE).2.1
                  go_simp
                  exact ⟨Below.refl _ _, rfl⟩
                · have h146 : IsTimers W (a.tmps.getD 146 undef) (L) := hd { on := 13, ground := .data } (by simp) rfl
                  obtain ⟨p146, q146, t146⟩ := h146.shaped
                  rw [t146] at h146
                  rw [Array.getD_eq_getD_getElem?] at t146
                  have t150 : a.tmps.getD 150 undef = .slice so (L).length sc := hd { on := 17, ground := .data } (by simp) rfl
                  rw [Array.getD_eq_getD_getElem?] at t150
                  have g144 : a.eval (.tmp 144) = .bool false := hd { on := 11, ground := .guard } (by simp) rfl
                  refine .inl ⟨(by simp only [Region.wanted]; rw [yielded_of (d := 144) (by rfl) g144]; rfl), ?_⟩
                  clear g144
                  go_simp
                  exact (rsame_true (L) _ _ W h146 (HCell W hE).2.2).mono fun e w2 h => ⟨_, h.1, h.2, rfl⟩
                · have t151 : a.tmps.getD 151 undef = .bool true := hd { on := 18, ground := .data } (by simp) rfl
                  rw [Array.getD_eq_getD_getElem?] at t151
                  have g144 : a.eval (.tmp 144) = .bool false := hd { on := 11, ground := .guard } (by simp) rfl
                  refine .inl ⟨(by simp only [Region.wanted]; rw [yielded_of (d := 144) (by rfl) g144]; rfl), ?_⟩
                  clear g144
                  go_simp
                  exact ⟨Below.refl _ _, rfl⟩
                · have t144 : a.tmps.getD 144 undef = .bool false := hd { on := 11, ground := .data } (by simp) rfl
                  rw [Array.getD_eq_getD_getElem?] at t144
                  have t152 : a.tmps.getD 152 undef = .bool false := hd { on := 19, ground := .data } (by simp) rfl
                  rw [Array.getD_eq_getD_getElem?] at t152
                  refine .inl ⟨rfl, ?_⟩
                  go_simp
                  exact ⟨Below.refl _ _, rfl⟩
              · intro vs W hE hV
                have h20 : vs 20 = .bool false := hV 20 (by decide)
                have HTF : Hid (Two (fun b => b = xb) w.heap.size w.heap.size B2 (n) (L) (n) (L) W) := HTw W hE
                have HBf : Hid (Below w.heap.size w W) := HB6.out.trans (hE.mono HB6.out.size)
                clear hV hE
                simp only [putsV, dstsV, List.foldl, h20, Act.put, List.setIfInBounds_toArray, List.set_cons_succ, List.set_cons_zero]
                clear h20
                generalize vs 0 = y0
                generalize vs 1 = y1
                generalize vs 2 = y2
                generalize vs 3 = y3
                generalize vs 4 = y4
                generalize vs 5 = y5
                generalize vs 6 = y6
                generalize vs 7 = y7
                generalize vs 8 = y8
                generalize vs 9 = y9
                generalize vs 10 = y10
                generalize vs 11 = y11
                generalize vs 12 = y12
                generalize vs 13 = y13
                generalize vs 14 = y14
                generalize vs 15 = y15
                generalize vs 16 = y16
                generalize vs 17 = y17
                generalize vs 18 = y18
                generalize vs 19 = y19
                refine ‹∀ (a : Act) (w : World), Code.wp Try.prog (Code.cond _ _ _) _ a w → _› _ _ ?_
                clear HTw HCell hB2l
                go_wp2
                go_roundw
                case rel => exact ⟨k + 1, n, L, by omega, by go_num, HTF.out.mono fun _ h => h.elim, HBf.out, by have := hLk; omega⟩
                case measure => simp [intOf]; omega
    · go_wp2_with fail
      refine (KA _).mono ?_
      rintro e w3 ⟨rfl, hb⟩
      have HB3 : Hid (Below w.heap.size w w3) := HB.out.trans (hb.mono HB.out.size)
      clear hb KA
      go_wp2
      go_ret
      exact ⟨rfl, HB3.out⟩


set_option maxRecDepth 100000 in
theorem lifted_ClockPlays (os : Os) (started : os.Started) (H : Type) (enc : TypeId × Value → H) :
    ReturnsInHanded {} Try.checked os 3 .any (Rows.clockPlaysSpec.pre6 enc Try.prog Try.f3 Rows.clockPlaysRow.domain false) (Rows.clockPlaysSpec.post enc Try.prog Try.f3 false true false false) := by
  refine returnsInHanded_of_change (C := Try.checked) own started (by kernel_rfl) Try.func3
    (ChangeSpec.witness6 (enc := enc) (C := Try.checked) false ⟨#[], #[.int .i64 0, .slice none 0 0], []⟩ 8 (by kernel_rfl) (by kernel_rfl) (by kernel_rfl) (by kernel_rfl)) ?_
  intro W base args ds gs before hval0 hW hcnd _
  have hval : ∀ (j : Nat) t v, Try.f3.params[j]? = some t → args[j]? = some v → Value.okWide Try.prog W .any base t v := hval0
  have hW' := hW
  obtain ⟨p, q, hA0, hV, rfl, hfz, hnd⟩ := hW
  have hA : DataW.TrodAll enc Try.prog W 0 (fun _ => true) true Try.f3.params.toList args.toList ds p := hA0
  rw [Try.params3] at hA hval
  obtain ⟨v0, vs0, d0, ds0, p0, q0, hargs, rfl, rfl, h0, r0⟩ := trodAll_cons hA
  obtain ⟨v1, vs1, d1, ds1, p1, q1, rfl, rfl, rfl, h1, r1⟩ := trodAll_cons r0
  obtain ⟨rfl, rfl, rfl⟩ := trodAll_nil r1
  obtain rfl : args = #[v0, v1] := by cases args; simp_all
  obtain ⟨rfl, rfl⟩ := trodVars_none hV
  obtain ⟨a0, rfl, rfl, rfl, w0⟩ := open_int Try.underlying3 (hval 0 3 v0 rfl rfl) h0
  have k1 := h1
  have lt1 : ∀ x ∈ p1, x.block < W.heap.size := by obtain ⟨m, hm⟩ := k1; exact DataW.trod_lt m _ _ _ hm
  obtain ⟨c1, w1⟩ := open_calls (hval 1 22 v1 rfl rfl) h1
  clear hA0 hval0
  refine (walk_ClockPlays a0 (wf_i64 w0) c1 v1 W w1).mono fun e W' ⟨he, bel⟩ => ?_
  subst he
  exact ⟨_, rfl, _, _, _, [], _, [], hW', trodAll_mk1 (shut_bool Try.underlying4 _), (trodAll_cons_mk (shut_int Try.underlying3 w0) (trodAll_cons_mk (Below.trod laidOut (by kernel_rfl) (of_decide_eq_true (by kernel_rfl)) k1 bel lt1) trodAll_mk0)), rfl, bel.frame _, fun h => by cases h⟩

theorem over_ClockPlays : Rows.clockPlaysRow.holds Try.pinned (OpenSpec.ofChange Rows.clockPlaysSpec) :=
  OpenClaim.holds_of_wide 3 Try.f3 rfl rfl rfl rfl rfl rfl rfl ⟨rfl, rfl, rfl, rfl, rfl⟩ rfl rfl rfl rfl rfl (by kernel_rfl) Try.func3 (by kernel_rfl)
    (of_decide_eq_true (by kernel_rfl)) (by unfold Func.isWrapper; first | (rw [if_pos (by decide +kernel)]; kernel_rfl) | (rw [if_neg (by decide +kernel)]; exact ⟨rfl, rfl⟩))
    (fun os started H enc _ => lifted_ClockPlays os started H enc)

/-- The statement. -/
theorem clockPlays_holds : Rows.ClockPlaysSaid := over_ClockPlays
#print axioms clockPlays_holds

end Go.Proofs.Ytelpdmaphmfkiaa

/-
  ClockTime, for any calls: the time never goes back; no timer is set in the past; none is passed over. No condition.
-/
import Derived.Test.YtelpdmaphmfkiaaClockFrame
import Derived.Test.YtelpdmaphmfkiaaClockState
import Derived.Test.YtelpdmaphmfkiaaRel6
import Derived.Test.YtelpdmaphmfkiaaRelFlags
namespace Go.Proofs.Ytelpdmaphmfkiaa
open Go.ChangeShapes Go.WideShapes Go.ChangeAt Go.RowKit

/-- What holds while Go is called: the call's box, the clock ahead and behind. -/
def TimeS (base B xb : Nat) (x : CallT) (w0 : World) (n n' : Int) (L : List TimerT) (b _ : Bool) (W : World) : Prop :=
  HasBox W xb 31 (ccells x) ∧ Ck (fun b => b = xb) base B (cond b n' n) L W ∧ Below base w0 W
theorem timeS_up {base B xb : Nat} {x : CallT} {w0 : World} {n n' : Int} {L : List TimerT} {b : Bool} {W : World} (h : TimeS base B xb x w0 n n' L true b W) : Ck (fun b => b = xb) base B n' L W := h.2.1
theorem timeS_down {base B xb : Nat} {x : CallT} {w0 : World} {n n' : Int} {L : List TimerT} {b : Bool} {W : World} (h : TimeS base B xb x w0 n n' L false b W) : Ck (fun b => b = xb) base B n L W := h.2.1

set_option maxRecDepth 100000 in
set_option maxHeartbeats 40000000 in
theorem walk_ClockTime (l : List CallT) (v : Value) (w : World) (hl : IsCalls w v l) :
    Calls Try.prog 7 #[v] w fun e w' => e = .returned (.bool true) ∧ Below w.heap.size w w' := by
  obtain ⟨ao, cap, rfl⟩ := hl.shaped
  have hl63 : l.length ≤ 9223372036854775807 := hl.row.2.1.1
  have HL : Hid (IsCalls w (.slice ao l.length cap) l) := hl
  clear hl
  have KA := fun W => awake9_any W
  by_cases hbig : (150 : Int) < (l.length : Int)
  · go_enter Try.func7, Try.ntmps7
    go_wp2_with fail
    refine (KA _).mono ?_
    rintro e w1 ⟨rfl, hb⟩
    have HB1 : Hid (Below w.heap.size w w1) := hb
    clear hb KA
    go_wp2
    go_ret
    exact ⟨rfl, HB1.out⟩
  have hlen : l.length ≤ 150 := by omega
  go_enter Try.func7, Try.ntmps7
  go_wp2_with fail
  refine (knew 100 w).mono ?_
  rintro e w1 ⟨rfl, hk, hb⟩
  have HB1 : Hid (Below w.heap.size w w1) := hb
  have HK1 : Hid (Ck (fun _ => False) w.heap.size w.heap.size (clampT 100) [] w1) := hk.mono fun _ h => h.elim
  clear hb hk
  go_wp2
  go_loopw [18] (fun i wr => ∃ (k : Nat) (n : Int) (L : List TimerT), k ≤ l.length ∧ i = .int .i64 k ∧ Ck (fun _ => False) w.heap.size w.heap.size n L wr ∧ Below w.heap.size w wr ∧ L.length ≤ k) (fun i _ => l.length - (intOf i).toNat)
  case atStart => exact ⟨0, _, _, Nat.zero_le _, rfl, HK1.out, HB1.out, Nat.le_refl _⟩
  case round =>
    obtain ⟨k, n, L, hkl, rfl, hC, hb, hLk⟩ := hrel
    have HB : Hid (Below w.heap.size w wr) := hb
    have HC : Hid (Ck (fun _ => False) w.heap.size w.heap.size n L wr) := hC
    have hL1 : L.length ≤ 1000000 := by omega
    clear hb hC
    by_cases hlt : k < l.length
    · obtain ⟨xc, off, rfl, hbl, c0, c1, c2, c3⟩ := (HL.out.below HB.out).at k hlt
      have hxi : inC (l.getD k noCall) := by
        rw [show l.getD k noCall = l[k] by simp [hlt]]
        exact HL.out.ok _ (List.getElem_mem _)
      generalize l.getD k noCall = x at c0 c1 c2 c3 hxi
      have hltI : (k : Int) < (l.length : Int) := by omega
      obtain ⟨xb, hxb⟩ : ∃ xb, wr.heap.size = xb := ⟨_, rfl⟩
      cases q0 : (x.do_ == 0) with
      | true =>
        cases hr : setOK n x.t with
        | true =>
          have HR : Hid (setOK n x.t = true) := hr
          clear hr
          have hok : n ≤ x.t.at_ := by have h := HR.out; unfold setOK at h; simp only [Bool.and_eq_true, decide_eq_true_eq] at h; exact h.1
          have hnl : ¬ x.t.at_ < n := by omega
          clear hok
          go_upto_region 7 with fail
          generalize hW : wr.alloc _ = wc
          have HXc : Hid (HasBox wc xb 31 (ccells x)) := by show HasBox _ _ _ _; rw [← hW, ← hxb]; exact hasBox_new wr _ _
          have HBc : Hid (Below w.heap.size w wc) := by show Below _ _ _; rw [← hW]; exact HB.out.alloc HB.out.size _
          have HCc : Hid (Ck (fun b => b = xb) w.heap.size w.heap.size n L wc) := by
            show Ck _ _ _ _ _ _
            rw [← hW]
            exact (HC.out.fresh ((Below.refl wr.heap.size wr).alloc (Nat.le_refl _) _)).mono fun b hb => .inr (by rw [hb, ← hxb]; exact ⟨Nat.le_refl _, by simp⟩)
          have KW := know HCc.out
          clear hW hxb HB HC c0 c1 c2 c3
          have d0 : wc.cell? ⟨xb, 0, none⟩ = some (.int .i64 x.do_) := HXc.out.cell 0
          have d1 : wc.cell? ⟨xb, 1, none⟩ = some (.int .i64 x.t.at_) := HXc.out.cell 1
          have d2 : wc.cell? ⟨xb, 2, none⟩ = some (.int .i64 x.t.kind) := HXc.out.cell 2
          have d3 : wc.cell? ⟨xb, 3, none⟩ = some (.int .i64 x.t.id) := HXc.out.cell 3
          go_wp2_with (first | (go_at_call 22; refine KW.mono ?_; rintro e wq ⟨rfl, hwq⟩; subst wq) | fail)
          clear KW
          have KS := kset HCc.out hL1 x.t hxi.2
          rw [HR.out] at KS
          refine KS.mono ?_
          rintro e w3 ⟨rfl, hC3, hp3⟩
          have HX3 : Hid (HasBox w3 xb 31 (ccells x)) := hp3.box rfl HXc.out
          have HB3 : Hid (Below w.heap.size w w3) := HBc.out.trans hp3.below
          have HC3 : Hid (Ck (fun b => b = xb) w.heap.size w.heap.size n (setT n L x.t) w3) := hC3
          clear hC3 hp3 d0 d1 d2 d3 KS
          have d0 : w3.cell? ⟨xb, 0, none⟩ = some (.int .i64 x.do_) := HX3.out.cell 0
          have d1 : w3.cell? ⟨xb, 1, none⟩ = some (.int .i64 x.t.at_) := HX3.out.cell 1
          have d2 : w3.cell? ⟨xb, 2, none⟩ = some (.int .i64 x.t.kind) := HX3.out.cell 2
          have d3 : w3.cell? ⟨xb, 3, none⟩ = some (.int .i64 x.t.id) := HX3.out.cell 3
          have hmono : n ≤ n := Int.le_refl _
          have hL2 : (setT n L x.t).length ≤ 1000000 := by have := setT_length n L x.t; omega
          have hgd := HC3.out.good
          have hq1 : ¬ n < n := by omega
          have hq2 : ¬ (4611686018427387904 : Int) < n := by have := hgd.high; unfold top62 at this; omega
          have HG : Hid (GoodC (n) (setT n L x.t)) := hgd
          have KW := know HC3.out
          have KL := kall HC3.out hL2
          clear hgd hmono
          go_wp2_with (first | (go_at_call 22; refine KW.mono ?_; rintro e wq ⟨rfl, hwq⟩; subst wq) | fail)
          refine KL.mono ?_
          rintro e w7 ⟨tq, tc, rfl, ht, hb⟩
          have HT7 : Hid (IsTimers w7 (.slice tq (setT n L x.t).length tc) (setT n L x.t)) := ht
          have HC7 : Hid (Ck (fun _ => False) w.heap.size w.heap.size (n) (setT n L x.t) w7) := (HC3.out.below hb).mono fun _ h => h.elim
          have HB7 : Hid (Below w.heap.size w w7) := HB3.out.trans (hb.mono HB3.out.size)
          clear ht hb KW KL hq1 hq2
          go_wp2
          go_loopw [83] (fun i wr => ∃ m : Nat, m ≤ (setT n L x.t).length ∧ i = .int .i64 m ∧ Below w7.heap.size w7 wr) (fun i _ => (setT n L x.t).length - (intOf i).toNat)
          case atStart => exact ⟨0, Nat.zero_le _, rfl, Below.refl _ _⟩
          case round =>

            obtain ⟨m, hm, rfl, hb⟩ := hrel
            have HBi : Hid (Below w7.heap.size w7 wr) := hb
            clear hb
            by_cases hml : m < (setT n L x.t).length
            · obtain ⟨tb, toff, rfl, htl, e0, e1, e2⟩ := (HT7.out.below HBi.out).at m hml
              have hny : ¬ ((setT n L x.t).getD m noTimer).at_ < (n) := by
                rw [show (setT n L x.t).getD m noTimer = (setT n L x.t)[m] by simp [hml]]
                have := HG.out.from_ _ (List.getElem_mem hml)
                omega
              generalize (setT n L x.t).getD m noTimer = y at e0 e1 e2 hny
              have hmI : (m : Int) < ((setT n L x.t).length : Int) := by omega
              go_upto_region 23 with fail
              generalize hW : wr.alloc _ = w8
              have HB8 : Hid (Below w7.heap.size w7 w8) := by show Below _ _ _; rw [← hW]; exact HBi.out.alloc HBi.out.size _
              have f0 : w8.cell? ⟨wr.heap.size, 0, none⟩ = some (.int .i64 y.at_) := by rw [← hW]; exact (hasBox_new wr 29 (tcells y)).cell 0
              clear hW e0 e1 e2
              have HC8 := HC7.out.below HB8.out
              go_quiet ((go_at_call 22; exact Calls.quiet_of_same (know (HC8.below (below_drews (Below.refl _ _) _)))))
              clear HC8 f0
              go_wp2
              go_roundw
              case rel => exact ⟨m + 1, by omega, by go_num, below_drews HB8.out _⟩
              case measure => simp [intOf]; omega
            · go_wp2
              go_roundw
              case rel => exact ⟨k + 1, n, setT n L x.t, by omega, by go_num, HC7.out.below HBi.out, HB7.out.trans (HBi.out.mono HB7.out.size), by have := setT_length n L x.t; omega⟩
              case measure => simp [intOf]; omega
        | false =>
          have HR : Hid (setOK n x.t = false) := hr
          clear hr
          go_upto_region 7 with fail
          generalize hW : wr.alloc _ = wc
          have HXc : Hid (HasBox wc xb 31 (ccells x)) := by show HasBox _ _ _ _; rw [← hW, ← hxb]; exact hasBox_new wr _ _
          have HBc : Hid (Below w.heap.size w wc) := by show Below _ _ _; rw [← hW]; exact HB.out.alloc HB.out.size _
          have HCc : Hid (Ck (fun b => b = xb) w.heap.size w.heap.size n L wc) := by
            show Ck _ _ _ _ _ _
            rw [← hW]
            exact (HC.out.fresh ((Below.refl wr.heap.size wr).alloc (Nat.le_refl _) _)).mono fun b hb => .inr (by rw [hb, ← hxb]; exact ⟨Nat.le_refl _, by simp⟩)
          have KW := know HCc.out
          clear hW hxb HB HC c0 c1 c2 c3
          have d0 : wc.cell? ⟨xb, 0, none⟩ = some (.int .i64 x.do_) := HXc.out.cell 0
          have d1 : wc.cell? ⟨xb, 1, none⟩ = some (.int .i64 x.t.at_) := HXc.out.cell 1
          have d2 : wc.cell? ⟨xb, 2, none⟩ = some (.int .i64 x.t.kind) := HXc.out.cell 2
          have d3 : wc.cell? ⟨xb, 3, none⟩ = some (.int .i64 x.t.id) := HXc.out.cell 3
          go_wp2_with (first | (go_at_call 22; refine KW.mono ?_; rintro e wq ⟨rfl, hwq⟩; subst wq) | fail)
          clear KW
          have KS := kset HCc.out hL1 x.t hxi.2
          rw [HR.out] at KS
          refine KS.mono ?_
          rintro e w3 ⟨rfl, hC3, hp3⟩
          have HX3 : Hid (HasBox w3 xb 31 (ccells x)) := hp3.box rfl HXc.out
          have HB3 : Hid (Below w.heap.size w w3) := HBc.out.trans hp3.below
          have HC3 : Hid (Ck (fun b => b = xb) w.heap.size w.heap.size n (setT n L x.t) w3) := hC3
          clear hC3 hp3 d0 d1 d2 d3 KS
          have d0 : w3.cell? ⟨xb, 0, none⟩ = some (.int .i64 x.do_) := HX3.out.cell 0
          have d1 : w3.cell? ⟨xb, 1, none⟩ = some (.int .i64 x.t.at_) := HX3.out.cell 1
          have d2 : w3.cell? ⟨xb, 2, none⟩ = some (.int .i64 x.t.kind) := HX3.out.cell 2
          have d3 : w3.cell? ⟨xb, 3, none⟩ = some (.int .i64 x.t.id) := HX3.out.cell 3
          have hmono : n ≤ n := Int.le_refl _
          have hL2 : (setT n L x.t).length ≤ 1000000 := by have := setT_length n L x.t; omega
          have hgd := HC3.out.good
          have hq1 : ¬ n < n := by omega
          have hq2 : ¬ (4611686018427387904 : Int) < n := by have := hgd.high; unfold top62 at this; omega
          have HG : Hid (GoodC (n) (setT n L x.t)) := hgd
          have KW := know HC3.out
          have KL := kall HC3.out hL2
          clear hgd hmono
          go_wp2_with (first | (go_at_call 22; refine KW.mono ?_; rintro e wq ⟨rfl, hwq⟩; subst wq) | fail)
          refine KL.mono ?_
          rintro e w7 ⟨tq, tc, rfl, ht, hb⟩
          have HT7 : Hid (IsTimers w7 (.slice tq (setT n L x.t).length tc) (setT n L x.t)) := ht
          have HC7 : Hid (Ck (fun _ => False) w.heap.size w.heap.size (n) (setT n L x.t) w7) := (HC3.out.below hb).mono fun _ h => h.elim
          have HB7 : Hid (Below w.heap.size w w7) := HB3.out.trans (hb.mono HB3.out.size)
          clear ht hb KW KL hq1 hq2
          go_wp2
          go_loopw [83] (fun i wr => ∃ m : Nat, m ≤ (setT n L x.t).length ∧ i = .int .i64 m ∧ Below w7.heap.size w7 wr) (fun i _ => (setT n L x.t).length - (intOf i).toNat)
          case atStart => exact ⟨0, Nat.zero_le _, rfl, Below.refl _ _⟩
          case round =>

            obtain ⟨m, hm, rfl, hb⟩ := hrel
            have HBi : Hid (Below w7.heap.size w7 wr) := hb
            clear hb
            by_cases hml : m < (setT n L x.t).length
            · obtain ⟨tb, toff, rfl, htl, e0, e1, e2⟩ := (HT7.out.below HBi.out).at m hml
              have hny : ¬ ((setT n L x.t).getD m noTimer).at_ < (n) := by
                rw [show (setT n L x.t).getD m noTimer = (setT n L x.t)[m] by simp [hml]]
                have := HG.out.from_ _ (List.getElem_mem hml)
                omega
              generalize (setT n L x.t).getD m noTimer = y at e0 e1 e2 hny
              have hmI : (m : Int) < ((setT n L x.t).length : Int) := by omega
              go_upto_region 23 with fail
              generalize hW : wr.alloc _ = w8
              have HB8 : Hid (Below w7.heap.size w7 w8) := by show Below _ _ _; rw [← hW]; exact HBi.out.alloc HBi.out.size _
              have f0 : w8.cell? ⟨wr.heap.size, 0, none⟩ = some (.int .i64 y.at_) := by rw [← hW]; exact (hasBox_new wr 29 (tcells y)).cell 0
              clear hW e0 e1 e2
              have HC8 := HC7.out.below HB8.out
              go_quiet ((go_at_call 22; exact Calls.quiet_of_same (know (HC8.below (below_drews (Below.refl _ _) _)))))
              clear HC8 f0
              go_wp2
              go_roundw
              case rel => exact ⟨m + 1, by omega, by go_num, below_drews HB8.out _⟩
              case measure => simp [intOf]; omega
            · go_wp2
              go_roundw
              case rel => exact ⟨k + 1, n, setT n L x.t, by omega, by go_num, HC7.out.below HBi.out, HB7.out.trans (HBi.out.mono HB7.out.size), by have := setT_length n L x.t; omega⟩
              case measure => simp [intOf]; omega
      | false =>
        cases q2 : (x.do_ == 2) with
        | true =>
          cases hr : (nextT n L x.t.at_).2.1 with
          | true =>
            obtain ⟨Y, n', L', hY⟩ : ∃ Y n' L', nextT n L x.t.at_ = (Y, true, n', L') := ⟨(nextT n L x.t.at_).1, (nextT n L x.t.at_).2.2.1, (nextT n L x.t.at_).2.2.2, by rw [← hr]⟩
            have hL' : L'.length ≤ L.length := by
              have e : L' = (nextT n L x.t.at_).2.2.2 := by rw [hY]
              rw [e]; unfold nextT; split <;> simp
            have hn' : n ≤ n' := by
              have e : n' = (nextT n L x.t.at_).2.2.1 := by rw [hY]
              rw [e]; exact HC.out.good.next_now _
            have hdu : ¬ x.t.at_ < Y.at_ := by
              have h := (next_due (now := n) (L := L) (til := x.t.at_) (by rw [hY])).1
              rw [hY] at h
              have h' : Y.at_ ≤ x.t.at_ := h
              omega
            have HY : Hid (nextT n L x.t.at_ = (Y, true, n', L')) := hY
            clear hY hr
            go_upto_region 7 with fail
            generalize hW : wr.alloc _ = wc
            have HXc : Hid (HasBox wc xb 31 (ccells x)) := by show HasBox _ _ _ _; rw [← hW, ← hxb]; exact hasBox_new wr _ _
            have HBc : Hid (Below w.heap.size w wc) := by show Below _ _ _; rw [← hW]; exact HB.out.alloc HB.out.size _
            have HCc : Hid (Ck (fun b => b = xb) w.heap.size w.heap.size n L wc) := by
              show Ck _ _ _ _ _ _
              rw [← hW]
              exact (HC.out.fresh ((Below.refl wr.heap.size wr).alloc (Nat.le_refl _) _)).mono fun b hb => .inr (by rw [hb, ← hxb]; exact ⟨Nat.le_refl _, by simp⟩)
            have KW := know HCc.out
            clear hW hxb HB HC c0 c1 c2 c3
            have d0 : wc.cell? ⟨xb, 0, none⟩ = some (.int .i64 x.do_) := HXc.out.cell 0
            have d1 : wc.cell? ⟨xb, 1, none⟩ = some (.int .i64 x.t.at_) := HXc.out.cell 1
            have d2 : wc.cell? ⟨xb, 2, none⟩ = some (.int .i64 x.t.kind) := HXc.out.cell 2
            have d3 : wc.cell? ⟨xb, 3, none⟩ = some (.int .i64 x.t.id) := HXc.out.cell 3
            go_wp2_with (first | (go_at_call 22; refine KW.mono ?_; rintro e wq ⟨rfl, hwq⟩; subst wq) | fail)
            clear KW
            have KN := knext HCc.out hL1 x.t.at_
            rw [HY.out] at KN
            refine KN.mono ?_
            rintro e w3 ⟨rfl, hC3, hp3⟩
            have HX3 : Hid (HasBox w3 xb 31 (ccells x)) := hp3.box rfl HXc.out
            have HB3 : Hid (Below w.heap.size w w3) := HBc.out.trans hp3.below
            have HC3 : Hid (Ck (fun b => b = xb) w.heap.size w.heap.size n' L' w3) := hC3
            clear hC3 hp3 d0 d1 d2 d3 KN
            go_upto_region 16 with fail
            generalize hW : w3.alloc _ = w4
            have HX4 : Hid (HasBox w4 xb 31 (ccells x)) := by show HasBox _ _ _ _; rw [← hW]; exact HX3.out.alloc _
            have HY4 : Hid (HasBox w4 w3.heap.size 29 (tcells Y)) := by show HasBox _ _ _ _; rw [← hW]; exact hasBox_new w3 _ _
            have HB4 : Hid (Below w.heap.size w w4) := by show Below _ _ _; rw [← hW]; exact HB3.out.alloc HB3.out.size _
            have HC4 : Hid (Ck (fun b => b = xb) w.heap.size w.heap.size n' L' w4) := by
              show Ck _ _ _ _ _ _
              rw [← hW]
              exact HC3.out.below ((Below.refl w3.heap.size w3).alloc (Nat.le_refl _) _)
            clear hW
            generalize w3.heap.size = yb at HY4 ⊢
            have y0 : w4.cell? ⟨yb, 0, none⟩ = some (.int .i64 Y.at_) := HY4.out.cell 0
            have d0 : w4.cell? ⟨xb, 0, none⟩ = some (.int .i64 x.do_) := HX4.out.cell 0
            have d1 : w4.cell? ⟨xb, 1, none⟩ = some (.int .i64 x.t.at_) := HX4.out.cell 1
            have d2 : w4.cell? ⟨xb, 2, none⟩ = some (.int .i64 x.t.kind) := HX4.out.cell 2
            have d3 : w4.cell? ⟨xb, 3, none⟩ = some (.int .i64 x.t.id) := HX4.out.cell 3
            have hmono : n ≤ n' := hn'
            have hL2 : (L').length ≤ 1000000 := by have := hL'; omega
            have hgd := HC4.out.good
            have hq1 : ¬ n' < n := by omega
            have hq2 : ¬ (4611686018427387904 : Int) < n' := by have := hgd.high; unfold top62 at this; omega
            have HG : Hid (GoodC (n') (L')) := hgd
            have KW := know HC4.out
            have KL := kall HC4.out hL2
            clear hgd hmono
            go_wp2_with (first | (go_at_call 22; refine KW.mono ?_; rintro e wq ⟨rfl, hwq⟩; subst wq) | fail)
            refine KL.mono ?_
            rintro e w7 ⟨tq, tc, rfl, ht, hb⟩
            have HT7 : Hid (IsTimers w7 (.slice tq (L').length tc) (L')) := ht
            have HC7 : Hid (Ck (fun _ => False) w.heap.size w.heap.size (n') (L') w7) := (HC4.out.below hb).mono fun _ h => h.elim
            have HB7 : Hid (Below w.heap.size w w7) := HB4.out.trans (hb.mono HB4.out.size)
            clear ht hb KW KL hq1 hq2
            go_wp2
            go_loopw [83] (fun i wr => ∃ m : Nat, m ≤ (L').length ∧ i = .int .i64 m ∧ Below w7.heap.size w7 wr) (fun i _ => (L').length - (intOf i).toNat)
            case atStart => exact ⟨0, Nat.zero_le _, rfl, Below.refl _ _⟩
            case round =>

              obtain ⟨m, hm, rfl, hb⟩ := hrel
              have HBi : Hid (Below w7.heap.size w7 wr) := hb
              clear hb
              by_cases hml : m < (L').length
              · obtain ⟨tb, toff, rfl, htl, e0, e1, e2⟩ := (HT7.out.below HBi.out).at m hml
                have hny : ¬ ((L').getD m noTimer).at_ < (n') := by
                  rw [show (L').getD m noTimer = (L')[m] by simp [hml]]
                  have := HG.out.from_ _ (List.getElem_mem hml)
                  omega
                generalize (L').getD m noTimer = y at e0 e1 e2 hny
                have hmI : (m : Int) < ((L').length : Int) := by omega
                go_upto_region 23 with fail
                generalize hW : wr.alloc _ = w8
                have HB8 : Hid (Below w7.heap.size w7 w8) := by show Below _ _ _; rw [← hW]; exact HBi.out.alloc HBi.out.size _
                have f0 : w8.cell? ⟨wr.heap.size, 0, none⟩ = some (.int .i64 y.at_) := by rw [← hW]; exact (hasBox_new wr 29 (tcells y)).cell 0
                clear hW e0 e1 e2
                have HC8 := HC7.out.below HB8.out
                go_quiet ((go_at_call 22; exact Calls.quiet_of_same (know (HC8.below (below_drews (Below.refl _ _) _)))))
                clear HC8 f0
                go_wp2
                go_roundw
                case rel => exact ⟨m + 1, by omega, by go_num, below_drews HB8.out _⟩
                case measure => simp [intOf]; omega
              · go_wp2
                go_roundw
                case rel => exact ⟨k + 1, n', L', by omega, by go_num, HC7.out.below HBi.out, HB7.out.trans (HBi.out.mono HB7.out.size), by have := hL'; omega⟩
                case measure => simp [intOf]; omega
          | false =>
            obtain ⟨Y, n', L', hY⟩ : ∃ Y n' L', nextT n L x.t.at_ = (Y, false, n', L') := ⟨(nextT n L x.t.at_).1, (nextT n L x.t.at_).2.2.1, (nextT n L x.t.at_).2.2.2, by rw [← hr]⟩
            have hL' : L'.length ≤ L.length := by
              have e : L' = (nextT n L x.t.at_).2.2.2 := by rw [hY]
              rw [e]; unfold nextT; split <;> simp
            have hn' : n ≤ n' := by
              have e : n' = (nextT n L x.t.at_).2.2.1 := by rw [hY]
              rw [e]; exact HC.out.good.next_now _
            have HY : Hid (nextT n L x.t.at_ = (Y, false, n', L')) := hY
            clear hY hr
            go_upto_region 7 with fail
            generalize hW : wr.alloc _ = wc
            have HXc : Hid (HasBox wc xb 31 (ccells x)) := by show HasBox _ _ _ _; rw [← hW, ← hxb]; exact hasBox_new wr _ _
            have HBc : Hid (Below w.heap.size w wc) := by show Below _ _ _; rw [← hW]; exact HB.out.alloc HB.out.size _
            have HCc : Hid (Ck (fun b => b = xb) w.heap.size w.heap.size n L wc) := by
              show Ck _ _ _ _ _ _
              rw [← hW]
              exact (HC.out.fresh ((Below.refl wr.heap.size wr).alloc (Nat.le_refl _) _)).mono fun b hb => .inr (by rw [hb, ← hxb]; exact ⟨Nat.le_refl _, by simp⟩)
            have KW := know HCc.out
            clear hW hxb HB HC c0 c1 c2 c3
            have d0 : wc.cell? ⟨xb, 0, none⟩ = some (.int .i64 x.do_) := HXc.out.cell 0
            have d1 : wc.cell? ⟨xb, 1, none⟩ = some (.int .i64 x.t.at_) := HXc.out.cell 1
            have d2 : wc.cell? ⟨xb, 2, none⟩ = some (.int .i64 x.t.kind) := HXc.out.cell 2
            have d3 : wc.cell? ⟨xb, 3, none⟩ = some (.int .i64 x.t.id) := HXc.out.cell 3
            go_wp2_with (first | (go_at_call 22; refine KW.mono ?_; rintro e wq ⟨rfl, hwq⟩; subst wq) | fail)
            clear KW
            have KN := knext HCc.out hL1 x.t.at_
            rw [HY.out] at KN
            refine KN.mono ?_
            rintro e w3 ⟨rfl, hC3, hp3⟩
            have HX3 : Hid (HasBox w3 xb 31 (ccells x)) := hp3.box rfl HXc.out
            have HB3 : Hid (Below w.heap.size w w3) := HBc.out.trans hp3.below
            have HC3 : Hid (Ck (fun b => b = xb) w.heap.size w.heap.size n' L' w3) := hC3
            clear hC3 hp3 d0 d1 d2 d3 KN
            go_upto_region 16 with fail
            generalize hW : w3.alloc _ = w4
            have HX4 : Hid (HasBox w4 xb 31 (ccells x)) := by show HasBox _ _ _ _; rw [← hW]; exact HX3.out.alloc _
            have HY4 : Hid (HasBox w4 w3.heap.size 29 (tcells Y)) := by show HasBox _ _ _ _; rw [← hW]; exact hasBox_new w3 _ _
            have HB4 : Hid (Below w.heap.size w w4) := by show Below _ _ _; rw [← hW]; exact HB3.out.alloc HB3.out.size _
            have HC4 : Hid (Ck (fun b => b = xb) w.heap.size w.heap.size n' L' w4) := by
              show Ck _ _ _ _ _ _
              rw [← hW]
              exact HC3.out.below ((Below.refl w3.heap.size w3).alloc (Nat.le_refl _) _)
            clear hW
            generalize w3.heap.size = yb at HY4 ⊢
            have y0 : w4.cell? ⟨yb, 0, none⟩ = some (.int .i64 Y.at_) := HY4.out.cell 0
            have d0 : w4.cell? ⟨xb, 0, none⟩ = some (.int .i64 x.do_) := HX4.out.cell 0
            have d1 : w4.cell? ⟨xb, 1, none⟩ = some (.int .i64 x.t.at_) := HX4.out.cell 1
            have d2 : w4.cell? ⟨xb, 2, none⟩ = some (.int .i64 x.t.kind) := HX4.out.cell 2
            have d3 : w4.cell? ⟨xb, 3, none⟩ = some (.int .i64 x.t.id) := HX4.out.cell 3
            have hmono : n ≤ n' := hn'
            have hL2 : (L').length ≤ 1000000 := by have := hL'; omega
            have hgd := HC4.out.good
            have hq1 : ¬ n' < n := by omega
            have hq2 : ¬ (4611686018427387904 : Int) < n' := by have := hgd.high; unfold top62 at this; omega
            have HG : Hid (GoodC (n') (L')) := hgd
            have KW := know HC4.out
            have KL := kall HC4.out hL2
            clear hgd hmono
            go_wp2_with (first | (go_at_call 22; refine KW.mono ?_; rintro e wq ⟨rfl, hwq⟩; subst wq) | fail)
            refine KL.mono ?_
            rintro e w7 ⟨tq, tc, rfl, ht, hb⟩
            have HT7 : Hid (IsTimers w7 (.slice tq (L').length tc) (L')) := ht
            have HC7 : Hid (Ck (fun _ => False) w.heap.size w.heap.size (n') (L') w7) := (HC4.out.below hb).mono fun _ h => h.elim
            have HB7 : Hid (Below w.heap.size w w7) := HB4.out.trans (hb.mono HB4.out.size)
            clear ht hb KW KL hq1 hq2
            go_wp2
            go_loopw [83] (fun i wr => ∃ m : Nat, m ≤ (L').length ∧ i = .int .i64 m ∧ Below w7.heap.size w7 wr) (fun i _ => (L').length - (intOf i).toNat)
            case atStart => exact ⟨0, Nat.zero_le _, rfl, Below.refl _ _⟩
            case round =>

              obtain ⟨m, hm, rfl, hb⟩ := hrel
              have HBi : Hid (Below w7.heap.size w7 wr) := hb
              clear hb
              by_cases hml : m < (L').length
              · obtain ⟨tb, toff, rfl, htl, e0, e1, e2⟩ := (HT7.out.below HBi.out).at m hml
                have hny : ¬ ((L').getD m noTimer).at_ < (n') := by
                  rw [show (L').getD m noTimer = (L')[m] by simp [hml]]
                  have := HG.out.from_ _ (List.getElem_mem hml)
                  omega
                generalize (L').getD m noTimer = y at e0 e1 e2 hny
                have hmI : (m : Int) < ((L').length : Int) := by omega
                go_upto_region 23 with fail
                generalize hW : wr.alloc _ = w8
                have HB8 : Hid (Below w7.heap.size w7 w8) := by show Below _ _ _; rw [← hW]; exact HBi.out.alloc HBi.out.size _
                have f0 : w8.cell? ⟨wr.heap.size, 0, none⟩ = some (.int .i64 y.at_) := by rw [← hW]; exact (hasBox_new wr 29 (tcells y)).cell 0
                clear hW e0 e1 e2
                have HC8 := HC7.out.below HB8.out
                go_quiet ((go_at_call 22; exact Calls.quiet_of_same (know (HC8.below (below_drews (Below.refl _ _) _)))))
                clear HC8 f0
                go_wp2
                go_roundw
                case rel => exact ⟨m + 1, by omega, by go_num, below_drews HB8.out _⟩
                case measure => simp [intOf]; omega
              · go_wp2
                go_roundw
                case rel => exact ⟨k + 1, n', L', by omega, by go_num, HC7.out.below HBi.out, HB7.out.trans (HBi.out.mono HB7.out.size), by have := hL'; omega⟩
                case measure => simp [intOf]; omega
        | false =>
          cases hr : goOK n L x.t.at_ with
          | true =>
            have HR : Hid (goOK n L x.t.at_ = true) := hr
            clear hr
            have hok : n ≤ x.t.at_ := by have h := HR.out; unfold goOK at h; simp only [Bool.and_eq_true, decide_eq_true_eq] at h; exact h.1.1
            go_upto_region 7 with fail
            generalize hW : wr.alloc _ = wc
            have HXc : Hid (HasBox wc xb 31 (ccells x)) := by show HasBox _ _ _ _; rw [← hW, ← hxb]; exact hasBox_new wr _ _
            have HBc : Hid (Below w.heap.size w wc) := by show Below _ _ _; rw [← hW]; exact HB.out.alloc HB.out.size _
            have HCc : Hid (Ck (fun b => b = xb) w.heap.size w.heap.size n L wc) := by
              show Ck _ _ _ _ _ _
              rw [← hW]
              exact (HC.out.fresh ((Below.refl wr.heap.size wr).alloc (Nat.le_refl _) _)).mono fun b hb => .inr (by rw [hb, ← hxb]; exact ⟨Nat.le_refl _, by simp⟩)
            have KW := know HCc.out
            clear hW hxb HB HC c0 c1 c2 c3
            have d0 : wc.cell? ⟨xb, 0, none⟩ = some (.int .i64 x.do_) := HXc.out.cell 0
            have d1 : wc.cell? ⟨xb, 1, none⟩ = some (.int .i64 x.t.at_) := HXc.out.cell 1
            have d2 : wc.cell? ⟨xb, 2, none⟩ = some (.int .i64 x.t.kind) := HXc.out.cell 2
            have d3 : wc.cell? ⟨xb, 3, none⟩ = some (.int .i64 x.t.id) := HXc.out.cell 3
            go_wp2_with (first | (go_at_call 22; refine KW.mono ?_; rintro e wq ⟨rfl, hwq⟩; subst wq) | fail)
            clear KW
            have KG : ∀ (W : World) (b : Bool), TimeS w.heap.size w.heap.size xb x w n (x.t.at_) L false b W → Calls Try.prog 18 #[.pointer (some ⟨w.heap.size, 0, none⟩), .int .i64 x.t.at_] W fun e w' => e = .returned (.bool true) ∧ (TimeS w.heap.size w.heap.size xb x w n (x.t.at_) L) true true w' := fun W b hS => by
              have KQ := kgo (timeS_down hS) hL1 x.t.at_
              rw [HR.out, if_pos rfl] at KQ
              exact KQ.mono fun e w' h => ⟨h.1, h.2.2.box rfl hS.1, h.2.1, hS.2.2.trans h.2.2.below⟩
            refine wp_region_flags [.pointer (some ⟨w.heap.size, 0, none⟩), .pointer (some ⟨xb, 1, none⟩), .pointer (some ⟨xb, 1, none⟩), .int .i64 x.t.at_, .bool true, .bool true, .pointer (some ⟨w.heap.size, 0, none⟩), .int .i64 x.t.at_, .pointer (some ⟨xb, 1, none⟩), .pointer (some ⟨xb, 1, none⟩), .int .i64 x.t.at_, .bool false, .bool false] 4 4 (TimeS w.heap.size w.heap.size xb x w n (x.t.at_) L) (by kernel_rfl) (by kernel_rfl) (by decide) (by decide) (⟨HXc.out.below (Below.refl _ _).drew, HCc.out.below (Below.refl _ _).drew, HBc.out.drew⟩) ?_ ?_
            · go_light
              simp only [stepsF]
              refine ⟨fun a W b1 b2 hF hd hx1 hx2 hr1 hr2 hS => ?_, fun a W b1 b2 hF hd hx1 hx2 hr1 hr2 hS => ?_, fun a W b1 b2 hF hd hx1 hx2 hr1 hr2 hS => ?_, fun a W b1 b2 hF hd hx1 hx2 hr1 hr2 hS => ?_, fun a W b1 b2 hF hd hx1 hx2 hr1 hr2 hS => ?_, fun a W b1 b2 hF hd hx1 hx2 hr1 hr2 hS => ?_, fun a W b1 b2 hF hd hx1 hx2 hr1 hr2 hS => ?_, fun a W b1 b2 hF hd hx1 hx2 hr1 hr2 hS => ?_, fun a W b1 b2 hF hd hx1 hx2 hr1 hr2 hS => ?_, fun a W b1 b2 hF hd hx1 hx2 hr1 hr2 hS => ?_, fun a W b1 b2 hF hd hx1 hx2 hr1 hr2 hS => ?_, fun a W b1 b2 hF hd hx1 hx2 hr1 hr2 hS => ?_, fun a W b1 b2 hF hd hx1 hx2 hr1 hr2 hS => ?_, trivial⟩
              all_goals unfold StepF
              · have t3 : a.tmps.getD 3 undef = .pointer (some ⟨w.heap.size, 0, none⟩) := hF.at 3 (by kernel_rfl)
                rw [Array.getD_eq_getD_getElem?] at t3
                refine .inl ⟨rfl, ?_⟩
                go_simp
                first | exact ⟨rfl, hS⟩ | exact ⟨rfl, by simpa using hS⟩
              · have t5 : a.tmps.getD 5 undef = .pointer (some ⟨xb, 0, none⟩) := hF.at 5 (by kernel_rfl)
                rw [Array.getD_eq_getD_getElem?] at t5
                refine .inl ⟨rfl, ?_⟩
                go_simp
                first | exact ⟨rfl, hS⟩ | exact ⟨rfl, by simpa using hS⟩
              · have t27 : a.tmps.getD 27 undef = .pointer (some ⟨xb, 1, none⟩) := hd { on := 1, ground := .data } (by simp) rfl
                rw [Array.getD_eq_getD_getElem?] at t27
                refine .inl ⟨rfl, ?_⟩
                go_simp
                first | exact ⟨rfl, hS⟩ | exact ⟨rfl, by simpa using hS⟩
              · have t28 : a.tmps.getD 28 undef = .pointer (some ⟨xb, 1, none⟩) := hd { on := 2, ground := .data } (by simp) rfl
                rw [Array.getD_eq_getD_getElem?] at t28
                refine .inl ⟨rfl, ?_⟩
                have d1 := hS.1.cell 1
                go_simp
                first | exact ⟨rfl, hS⟩ | exact ⟨rfl, by simpa using hS⟩
              · have t26 : a.tmps.getD 26 undef = .pointer (some ⟨w.heap.size, 0, none⟩) := hd { on := 0, ground := .data } (by simp) rfl
                rw [Array.getD_eq_getD_getElem?] at t26
                have t29 : a.tmps.getD 29 undef = .int .i64 x.t.at_ := hd { on := 3, ground := .data } (by simp) rfl
                rw [Array.getD_eq_getD_getElem?] at t29
                refine .inl ⟨rfl, ?_⟩
                obtain rfl := hx1 (by trivial)
                clear hx1 hx2 hr1 hr2
                go_simp
                exact (KG W _ hS).mono fun e w2 h => ⟨_, h.1, rfl, by simpa using h.2⟩
              · have t30 : a.tmps.getD 30 undef = .bool true := hd { on := 4, ground := .data } (by simp) rfl
                rw [Array.getD_eq_getD_getElem?] at t30
                refine .inl ⟨rfl, ?_⟩
                go_simp
                first | exact ⟨rfl, hS⟩ | exact ⟨rfl, by simpa using hS⟩
              · have t3 : a.tmps.getD 3 undef = .pointer (some ⟨w.heap.size, 0, none⟩) := hF.at 3 (by kernel_rfl)
                rw [Array.getD_eq_getD_getElem?] at t3
                have g31 : a.eval (.tmp 31) = .bool true := hd { on := 5, ground := .guard } (by simp) rfl
                refine .inl ⟨(by simp only [Region.wanted]; rw [yielded_of (d := 31) (by rfl) g31]; rfl), ?_⟩
                clear g31
                go_simp
                first | exact ⟨rfl, hS⟩ | exact ⟨rfl, by simpa using hS⟩
              · have t32 : a.tmps.getD 32 undef = .pointer (some ⟨w.heap.size, 0, none⟩) := hd { on := 6, ground := .data } (by simp) rfl
                rw [Array.getD_eq_getD_getElem?] at t32
                have g31 : a.eval (.tmp 31) = .bool true := hd { on := 5, ground := .guard } (by simp) rfl
                refine .inl ⟨(by simp only [Region.wanted]; rw [yielded_of (d := 31) (by rfl) g31]; rfl), ?_⟩
                clear g31
                go_simp
                obtain rfl := hr1 (by kernel_rfl)
                exact (know (timeS_up hS)).mono fun e w2 h => ⟨_, h.1, rfl, by rw [h.2]; simpa using hS⟩
              · have t5 : a.tmps.getD 5 undef = .pointer (some ⟨xb, 0, none⟩) := hF.at 5 (by kernel_rfl)
                rw [Array.getD_eq_getD_getElem?] at t5
                have g31 : a.eval (.tmp 31) = .bool true := hd { on := 5, ground := .guard } (by simp) rfl
                refine .inl ⟨(by simp only [Region.wanted]; rw [yielded_of (d := 31) (by rfl) g31]; rfl), ?_⟩
                clear g31
                go_simp
                first | exact ⟨rfl, hS⟩ | exact ⟨rfl, by simpa using hS⟩
              · have t34 : a.tmps.getD 34 undef = .pointer (some ⟨xb, 1, none⟩) := hd { on := 8, ground := .data } (by simp) rfl
                rw [Array.getD_eq_getD_getElem?] at t34
                have g31 : a.eval (.tmp 31) = .bool true := hd { on := 5, ground := .guard } (by simp) rfl
                refine .inl ⟨(by simp only [Region.wanted]; rw [yielded_of (d := 31) (by rfl) g31]; rfl), ?_⟩
                clear g31
                go_simp
                first | exact ⟨rfl, hS⟩ | exact ⟨rfl, by simpa using hS⟩
              · have t35 : a.tmps.getD 35 undef = .pointer (some ⟨xb, 1, none⟩) := hd { on := 9, ground := .data } (by simp) rfl
                rw [Array.getD_eq_getD_getElem?] at t35
                have g31 : a.eval (.tmp 31) = .bool true := hd { on := 5, ground := .guard } (by simp) rfl
                refine .inl ⟨(by simp only [Region.wanted]; rw [yielded_of (d := 31) (by rfl) g31]; rfl), ?_⟩
                clear g31
                have d1 := hS.1.cell 1
                go_simp
                first | exact ⟨rfl, hS⟩ | exact ⟨rfl, by simpa using hS⟩
              · have t33 : a.tmps.getD 33 undef = .int .i64 x.t.at_ := hd { on := 7, ground := .data } (by simp) rfl
                rw [Array.getD_eq_getD_getElem?] at t33
                have t36 : a.tmps.getD 36 undef = .int .i64 x.t.at_ := hd { on := 10, ground := .data } (by simp) rfl
                rw [Array.getD_eq_getD_getElem?] at t36
                have g31 : a.eval (.tmp 31) = .bool true := hd { on := 5, ground := .guard } (by simp) rfl
                refine .inl ⟨(by simp only [Region.wanted]; rw [yielded_of (d := 31) (by rfl) g31]; rfl), ?_⟩
                clear g31
                go_simp
                first | exact ⟨rfl, hS⟩ | exact ⟨rfl, by simpa using hS⟩
              · have t31 : a.tmps.getD 31 undef = .bool true := hd { on := 5, ground := .data } (by simp) rfl
                rw [Array.getD_eq_getD_getElem?] at t31
                have t37 : a.tmps.getD 37 undef = .bool false := hd { on := 11, ground := .data } (by simp) rfl
                rw [Array.getD_eq_getD_getElem?] at t37
                refine .inl ⟨rfl, ?_⟩
                go_simp
                first | exact ⟨rfl, hS⟩ | exact ⟨rfl, by simpa using hS⟩
            · intro W hS
              simp only [putsV, dstsV, List.foldl, List.getD_cons_zero, List.getD_cons_succ, Act.put, List.setIfInBounds_toArray, List.set_cons_succ, List.set_cons_zero]
              refine ‹∀ (a : Act) (w : World), Code.wp Try.prog (Code.cond _ _ _) _ a w → _› _ _ ?_
              have HXz : Hid (HasBox W xb 31 (ccells x)) := hS.1
              have HBz : Hid (Below w.heap.size w W) := hS.2.2
              have HCz : Hid (Ck (fun b => b = xb) w.heap.size w.heap.size (x.t.at_) L W) := timeS_up hS
              clear hS KG d0 d1 d2 d3
              have hmono : n ≤ x.t.at_ := (by omega)
              have hL2 : (L).length ≤ 1000000 := by have := hLk; omega
              have hgd := HCz.out.good
              have hq1 : ¬ x.t.at_ < n := by omega
              have hq2 : ¬ (4611686018427387904 : Int) < x.t.at_ := by have := hgd.high; unfold top62 at this; omega
              have HG : Hid (GoodC (x.t.at_) (L)) := hgd
              have KW := know HCz.out
              have KL := kall HCz.out hL2
              clear hgd hmono
              go_wp2_with (first | (go_at_call 22; refine KW.mono ?_; rintro e wq ⟨rfl, hwq⟩; subst wq) | fail)
              refine KL.mono ?_
              rintro e w7 ⟨tq, tc, rfl, ht, hb⟩
              have HT7 : Hid (IsTimers w7 (.slice tq (L).length tc) (L)) := ht
              have HC7 : Hid (Ck (fun _ => False) w.heap.size w.heap.size (x.t.at_) (L) w7) := (HCz.out.below hb).mono fun _ h => h.elim
              have HB7 : Hid (Below w.heap.size w w7) := HBz.out.trans (hb.mono HBz.out.size)
              clear ht hb KW KL hq1 hq2
              go_wp2
              go_loopw [83] (fun i wr => ∃ m : Nat, m ≤ (L).length ∧ i = .int .i64 m ∧ Below w7.heap.size w7 wr) (fun i _ => (L).length - (intOf i).toNat)
              case atStart => exact ⟨0, Nat.zero_le _, rfl, Below.refl _ _⟩
              case round =>

                obtain ⟨m, hm, rfl, hb⟩ := hrel
                have HBi : Hid (Below w7.heap.size w7 wr) := hb
                clear hb
                by_cases hml : m < (L).length
                · obtain ⟨tb, toff, rfl, htl, e0, e1, e2⟩ := (HT7.out.below HBi.out).at m hml
                  have hny : ¬ ((L).getD m noTimer).at_ < (x.t.at_) := by
                    rw [show (L).getD m noTimer = (L)[m] by simp [hml]]
                    have := HG.out.from_ _ (List.getElem_mem hml)
                    omega
                  generalize (L).getD m noTimer = y at e0 e1 e2 hny
                  have hmI : (m : Int) < ((L).length : Int) := by omega
                  go_upto_region 23 with fail
                  generalize hW : wr.alloc _ = w8
                  have HB8 : Hid (Below w7.heap.size w7 w8) := by show Below _ _ _; rw [← hW]; exact HBi.out.alloc HBi.out.size _
                  have f0 : w8.cell? ⟨wr.heap.size, 0, none⟩ = some (.int .i64 y.at_) := by rw [← hW]; exact (hasBox_new wr 29 (tcells y)).cell 0
                  clear hW e0 e1 e2
                  have HC8 := HC7.out.below HB8.out
                  go_quiet ((go_at_call 22; exact Calls.quiet_of_same (know (HC8.below (below_drews (Below.refl _ _) _)))))
                  clear HC8 f0
                  go_wp2
                  go_roundw
                  case rel => exact ⟨m + 1, by omega, by go_num, below_drews HB8.out _⟩
                  case measure => simp [intOf]; omega
                · go_wp2
                  go_roundw
                  case rel => exact ⟨k + 1, x.t.at_, L, by omega, by go_num, HC7.out.below HBi.out, HB7.out.trans (HBi.out.mono HB7.out.size), by have := hLk; omega⟩
                  case measure => simp [intOf]; omega
          | false =>
            have HR : Hid (goOK n L x.t.at_ = false) := hr
            clear hr
            go_upto_region 7 with fail
            generalize hW : wr.alloc _ = wc
            have HXc : Hid (HasBox wc xb 31 (ccells x)) := by show HasBox _ _ _ _; rw [← hW, ← hxb]; exact hasBox_new wr _ _
            have HBc : Hid (Below w.heap.size w wc) := by show Below _ _ _; rw [← hW]; exact HB.out.alloc HB.out.size _
            have HCc : Hid (Ck (fun b => b = xb) w.heap.size w.heap.size n L wc) := by
              show Ck _ _ _ _ _ _
              rw [← hW]
              exact (HC.out.fresh ((Below.refl wr.heap.size wr).alloc (Nat.le_refl _) _)).mono fun b hb => .inr (by rw [hb, ← hxb]; exact ⟨Nat.le_refl _, by simp⟩)
            have KW := know HCc.out
            clear hW hxb HB HC c0 c1 c2 c3
            have d0 : wc.cell? ⟨xb, 0, none⟩ = some (.int .i64 x.do_) := HXc.out.cell 0
            have d1 : wc.cell? ⟨xb, 1, none⟩ = some (.int .i64 x.t.at_) := HXc.out.cell 1
            have d2 : wc.cell? ⟨xb, 2, none⟩ = some (.int .i64 x.t.kind) := HXc.out.cell 2
            have d3 : wc.cell? ⟨xb, 3, none⟩ = some (.int .i64 x.t.id) := HXc.out.cell 3
            go_wp2_with (first | (go_at_call 22; refine KW.mono ?_; rintro e wq ⟨rfl, hwq⟩; subst wq) | fail)
            clear KW
            have KG : ∀ (W : World) (b : Bool), TimeS w.heap.size w.heap.size xb x w n (n) L false b W → Calls Try.prog 18 #[.pointer (some ⟨w.heap.size, 0, none⟩), .int .i64 x.t.at_] W fun e w' => e = .returned (.bool false) ∧ (TimeS w.heap.size w.heap.size xb x w n (n) L) true true w' := fun W b hS => by
              have KQ := kgo (timeS_down hS) hL1 x.t.at_
              rw [HR.out, if_neg (by decide)] at KQ
              exact KQ.mono fun e w' h => ⟨h.1, h.2.2.box rfl hS.1, h.2.1, hS.2.2.trans h.2.2.below⟩
            refine wp_region_flags [.pointer (some ⟨w.heap.size, 0, none⟩), .pointer (some ⟨xb, 1, none⟩), .pointer (some ⟨xb, 1, none⟩), .int .i64 x.t.at_, .bool false, .bool false, undef, undef, undef, undef, undef, undef, .bool false] 4 4 (TimeS w.heap.size w.heap.size xb x w n (n) L) (by kernel_rfl) (by kernel_rfl) (by decide) (by decide) (⟨HXc.out.below (Below.refl _ _).drew, HCc.out.below (Below.refl _ _).drew, HBc.out.drew⟩) ?_ ?_
            · go_light
              simp only [stepsF]
              refine ⟨fun a W b1 b2 hF hd hx1 hx2 hr1 hr2 hS => ?_, fun a W b1 b2 hF hd hx1 hx2 hr1 hr2 hS => ?_, fun a W b1 b2 hF hd hx1 hx2 hr1 hr2 hS => ?_, fun a W b1 b2 hF hd hx1 hx2 hr1 hr2 hS => ?_, fun a W b1 b2 hF hd hx1 hx2 hr1 hr2 hS => ?_, fun a W b1 b2 hF hd hx1 hx2 hr1 hr2 hS => ?_, fun a W b1 b2 hF hd hx1 hx2 hr1 hr2 hS => ?_, fun a W b1 b2 hF hd hx1 hx2 hr1 hr2 hS => ?_, fun a W b1 b2 hF hd hx1 hx2 hr1 hr2 hS => ?_, fun a W b1 b2 hF hd hx1 hx2 hr1 hr2 hS => ?_, fun a W b1 b2 hF hd hx1 hx2 hr1 hr2 hS => ?_, fun a W b1 b2 hF hd hx1 hx2 hr1 hr2 hS => ?_, fun a W b1 b2 hF hd hx1 hx2 hr1 hr2 hS => ?_, trivial⟩
              all_goals unfold StepF
              · have t3 : a.tmps.getD 3 undef = .pointer (some ⟨w.heap.size, 0, none⟩) := hF.at 3 (by kernel_rfl)
                rw [Array.getD_eq_getD_getElem?] at t3
                refine .inl ⟨rfl, ?_⟩
                go_simp
                first | exact ⟨rfl, hS⟩ | exact ⟨rfl, by simpa using hS⟩
              · have t5 : a.tmps.getD 5 undef = .pointer (some ⟨xb, 0, none⟩) := hF.at 5 (by kernel_rfl)
                rw [Array.getD_eq_getD_getElem?] at t5
                refine .inl ⟨rfl, ?_⟩
                go_simp
                first | exact ⟨rfl, hS⟩ | exact ⟨rfl, by simpa using hS⟩
              · have t27 : a.tmps.getD 27 undef = .pointer (some ⟨xb, 1, none⟩) := hd { on := 1, ground := .data } (by simp) rfl
                rw [Array.getD_eq_getD_getElem?] at t27
                refine .inl ⟨rfl, ?_⟩
                go_simp
                first | exact ⟨rfl, hS⟩ | exact ⟨rfl, by simpa using hS⟩
              · have t28 : a.tmps.getD 28 undef = .pointer (some ⟨xb, 1, none⟩) := hd { on := 2, ground := .data } (by simp) rfl
                rw [Array.getD_eq_getD_getElem?] at t28
                refine .inl ⟨rfl, ?_⟩
                have d1 := hS.1.cell 1
                go_simp
                first | exact ⟨rfl, hS⟩ | exact ⟨rfl, by simpa using hS⟩
              · have t26 : a.tmps.getD 26 undef = .pointer (some ⟨w.heap.size, 0, none⟩) := hd { on := 0, ground := .data } (by simp) rfl
                rw [Array.getD_eq_getD_getElem?] at t26
                have t29 : a.tmps.getD 29 undef = .int .i64 x.t.at_ := hd { on := 3, ground := .data } (by simp) rfl
                rw [Array.getD_eq_getD_getElem?] at t29
                refine .inl ⟨rfl, ?_⟩
                obtain rfl := hx1 (by trivial)
                clear hx1 hx2 hr1 hr2
                go_simp
                exact (KG W _ hS).mono fun e w2 h => ⟨_, h.1, rfl, by simpa using h.2⟩
              · have t30 : a.tmps.getD 30 undef = .bool false := hd { on := 4, ground := .data } (by simp) rfl
                rw [Array.getD_eq_getD_getElem?] at t30
                refine .inl ⟨rfl, ?_⟩
                go_simp
                first | exact ⟨rfl, hS⟩ | exact ⟨rfl, by simpa using hS⟩
              · have g31 : a.eval (.tmp 31) = .bool false := hd { on := 5, ground := .guard } (by simp) rfl
                exact .inr ⟨(by simp only [Region.wanted]; rw [yielded_of (d := 31) (by rfl) g31]; rfl), rfl, by simpa using hS⟩
              · have g31 : a.eval (.tmp 31) = .bool false := hd { on := 5, ground := .guard } (by simp) rfl
                exact .inr ⟨(by simp only [Region.wanted]; rw [yielded_of (d := 31) (by rfl) g31]; rfl), rfl, by simpa using hS⟩
              · have g31 : a.eval (.tmp 31) = .bool false := hd { on := 5, ground := .guard } (by simp) rfl
                exact .inr ⟨(by simp only [Region.wanted]; rw [yielded_of (d := 31) (by rfl) g31]; rfl), rfl, by simpa using hS⟩
              · have g31 : a.eval (.tmp 31) = .bool false := hd { on := 5, ground := .guard } (by simp) rfl
                exact .inr ⟨(by simp only [Region.wanted]; rw [yielded_of (d := 31) (by rfl) g31]; rfl), rfl, by simpa using hS⟩
              · have g31 : a.eval (.tmp 31) = .bool false := hd { on := 5, ground := .guard } (by simp) rfl
                exact .inr ⟨(by simp only [Region.wanted]; rw [yielded_of (d := 31) (by rfl) g31]; rfl), rfl, by simpa using hS⟩
              · have g31 : a.eval (.tmp 31) = .bool false := hd { on := 5, ground := .guard } (by simp) rfl
                exact .inr ⟨(by simp only [Region.wanted]; rw [yielded_of (d := 31) (by rfl) g31]; rfl), rfl, by simpa using hS⟩
              · have t31 : a.tmps.getD 31 undef = .bool false := hd { on := 5, ground := .data } (by simp) rfl
                rw [Array.getD_eq_getD_getElem?] at t31
                refine .inl ⟨rfl, ?_⟩
                go_simp
                first | exact ⟨rfl, hS⟩ | exact ⟨rfl, by simpa using hS⟩
            · intro W hS
              simp only [putsV, dstsV, List.foldl, List.getD_cons_zero, List.getD_cons_succ, Act.put, List.setIfInBounds_toArray, List.set_cons_succ, List.set_cons_zero]
              refine ‹∀ (a : Act) (w : World), Code.wp Try.prog (Code.cond _ _ _) _ a w → _› _ _ ?_
              have HXz : Hid (HasBox W xb 31 (ccells x)) := hS.1
              have HBz : Hid (Below w.heap.size w W) := hS.2.2
              have HCz : Hid (Ck (fun b => b = xb) w.heap.size w.heap.size (n) L W) := timeS_up hS
              clear hS KG d0 d1 d2 d3
              have hmono : n ≤ n := Int.le_refl _
              have hL2 : (L).length ≤ 1000000 := by have := hLk; omega
              have hgd := HCz.out.good
              have hq1 : ¬ n < n := by omega
              have hq2 : ¬ (4611686018427387904 : Int) < n := by have := hgd.high; unfold top62 at this; omega
              have HG : Hid (GoodC (n) (L)) := hgd
              have KW := know HCz.out
              have KL := kall HCz.out hL2
              clear hgd hmono
              go_wp2_with (first | (go_at_call 22; refine KW.mono ?_; rintro e wq ⟨rfl, hwq⟩; subst wq) | fail)
              refine KL.mono ?_
              rintro e w7 ⟨tq, tc, rfl, ht, hb⟩
              have HT7 : Hid (IsTimers w7 (.slice tq (L).length tc) (L)) := ht
              have HC7 : Hid (Ck (fun _ => False) w.heap.size w.heap.size (n) (L) w7) := (HCz.out.below hb).mono fun _ h => h.elim
              have HB7 : Hid (Below w.heap.size w w7) := HBz.out.trans (hb.mono HBz.out.size)
              clear ht hb KW KL hq1 hq2
              go_wp2
              go_loopw [83] (fun i wr => ∃ m : Nat, m ≤ (L).length ∧ i = .int .i64 m ∧ Below w7.heap.size w7 wr) (fun i _ => (L).length - (intOf i).toNat)
              case atStart => exact ⟨0, Nat.zero_le _, rfl, Below.refl _ _⟩
              case round =>

                obtain ⟨m, hm, rfl, hb⟩ := hrel
                have HBi : Hid (Below w7.heap.size w7 wr) := hb
                clear hb
                by_cases hml : m < (L).length
                · obtain ⟨tb, toff, rfl, htl, e0, e1, e2⟩ := (HT7.out.below HBi.out).at m hml
                  have hny : ¬ ((L).getD m noTimer).at_ < (n) := by
                    rw [show (L).getD m noTimer = (L)[m] by simp [hml]]
                    have := HG.out.from_ _ (List.getElem_mem hml)
                    omega
                  generalize (L).getD m noTimer = y at e0 e1 e2 hny
                  have hmI : (m : Int) < ((L).length : Int) := by omega
                  go_upto_region 23 with fail
                  generalize hW : wr.alloc _ = w8
                  have HB8 : Hid (Below w7.heap.size w7 w8) := by show Below _ _ _; rw [← hW]; exact HBi.out.alloc HBi.out.size _
                  have f0 : w8.cell? ⟨wr.heap.size, 0, none⟩ = some (.int .i64 y.at_) := by rw [← hW]; exact (hasBox_new wr 29 (tcells y)).cell 0
                  clear hW e0 e1 e2
                  have HC8 := HC7.out.below HB8.out
                  go_quiet ((go_at_call 22; exact Calls.quiet_of_same (know (HC8.below (below_drews (Below.refl _ _) _)))))
                  clear HC8 f0
                  go_wp2
                  go_roundw
                  case rel => exact ⟨m + 1, by omega, by go_num, below_drews HB8.out _⟩
                  case measure => simp [intOf]; omega
                · go_wp2
                  go_roundw
                  case rel => exact ⟨k + 1, n, L, by omega, by go_num, HC7.out.below HBi.out, HB7.out.trans (HBi.out.mono HB7.out.size), by have := hLk; omega⟩
                  case measure => simp [intOf]; omega
    · go_wp2_with fail
      refine (KA _).mono ?_
      rintro e w3 ⟨rfl, hb⟩
      have HB3 : Hid (Below w.heap.size w w3) := HB.out.trans (hb.mono HB.out.size)
      clear hb KA
      go_wp2
      go_ret
      exact ⟨rfl, HB3.out⟩


set_option maxRecDepth 100000 in
theorem lifted_ClockTime (os : Os) (started : os.Started) (H : Type) (enc : TypeId × Value → H) :
    ReturnsInHanded {} Try.checked os 7 .any (Rows.clockTimeSpec.pre6 enc Try.prog Try.f7 Rows.clockTimeRow.domain false) (Rows.clockTimeSpec.post enc Try.prog Try.f7 false true false false) := by
  refine returnsInHanded_of_change (C := Try.checked) own started (by kernel_rfl) Try.func7
    (ChangeSpec.witness6 (enc := enc) (C := Try.checked) false ⟨#[], #[.slice none 0 0], []⟩ 8 (by kernel_rfl) (by kernel_rfl) (by kernel_rfl) (by kernel_rfl)) ?_
  intro W base args ds gs before hval0 hW hcnd _
  have hval : ∀ (j : Nat) t v, Try.f7.params[j]? = some t → args[j]? = some v → Value.okWide Try.prog W .any base t v := hval0
  have hW' := hW
  obtain ⟨p, q, hA0, hV, rfl, hfz, hnd⟩ := hW
  have hA : DataW.TrodAll enc Try.prog W 0 (fun _ => true) true Try.f7.params.toList args.toList ds p := hA0
  rw [Try.params7] at hA hval
  obtain ⟨v0, vs0, d0, ds0, p0, q0, hargs, rfl, rfl, h0, r0⟩ := trodAll_cons hA
  obtain ⟨rfl, rfl, rfl⟩ := trodAll_nil r0
  obtain rfl : args = #[v0] := by cases args; simp_all
  obtain ⟨rfl, rfl⟩ := trodVars_none hV
  have k0 := h0
  have lt0 : ∀ x ∈ p0, x.block < W.heap.size := by obtain ⟨m, hm⟩ := k0; exact DataW.trod_lt m _ _ _ hm
  obtain ⟨c0, w0⟩ := open_calls (hval 0 22 v0 rfl rfl) h0
  clear hA0 hval0
  refine (walk_ClockTime c0 v0 W w0).mono fun e W' ⟨he, bel⟩ => ?_
  subst he
  exact ⟨_, rfl, _, _, _, [], _, [], hW', trodAll_mk1 (shut_bool Try.underlying4 _), (trodAll_cons_mk (Below.trod laidOut (by kernel_rfl) (of_decide_eq_true (by kernel_rfl)) k0 bel lt0) trodAll_mk0), rfl, bel.frame _, fun h => by cases h⟩

theorem over_ClockTime : Rows.clockTimeRow.holds Try.pinned (OpenSpec.ofChange Rows.clockTimeSpec) :=
  OpenClaim.holds_of_wide 7 Try.f7 rfl rfl rfl rfl rfl rfl rfl ⟨rfl, rfl, rfl, rfl, rfl⟩ rfl rfl rfl rfl rfl (by kernel_rfl) Try.func7 (by kernel_rfl)
    (of_decide_eq_true (by kernel_rfl)) (by unfold Func.isWrapper; first | (rw [if_pos (by decide +kernel)]; kernel_rfl) | (rw [if_neg (by decide +kernel)]; exact ⟨rfl, rfl⟩))
    (fun os started H enc _ => lifted_ClockTime os started H enc)

/-- The statement. -/
theorem clockTime_holds : Rows.ClockTimeSaid := over_ClockTime
#print axioms clockTime_holds

end Go.Proofs.Ytelpdmaphmfkiaa

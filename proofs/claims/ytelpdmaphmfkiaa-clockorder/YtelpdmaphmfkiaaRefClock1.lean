/-
  The reference's answers to chapter 9: a new clock, which is ahead, when, rows of timers held against each other.
-/
import Derived.Test.YtelpdmaphmfkiaaTimerKit
import Derived.Test.YtelpdmaphmfkiaaChecked
import Derived.WalkSmall
import Derived.BigQuiet
import Derived.Deep.QuietTactic
import Derived.Deep.CutRange
namespace Go.Proofs.Ytelpdmaphmfkiaa
open Go.RowKit

theorem infoTimer : (Try.prog.info? 29).map (fun i => (i.zero, i.size, i.bytes)) = some (some (tval noTimer), 3, 24) := by kernel_rfl
theorem sizeTimer : (Try.prog.info? 29).map (·.size) = some 3 := by kernel_rfl
theorem sizeClock : (Try.prog.info? 42).map (·.size) = some 2 := by kernel_rfl

def clampT (n : Int) : Int := if n < 0 then 0 else if top62 < n then top62 else n
theorem clampT_ok (n : Int) : 0 ≤ clampT n ∧ clampT n ≤ top62 := by unfold clampT top62; split <;> (try split) <;> omega

set_option maxHeartbeats 1000000 in
theorem newClock_any (n : Int) (w : World) :
    Calls Try.prog 11 #[.int .i64 n] w fun e w' => e = .returned (.pointer (some ⟨w.heap.size, 0, none⟩)) ∧ RClock w' w.heap.size w.heap.size 42 29 nilW (clampT n) [] ∧ Below w.heap.size w w' := by
  have key : ∀ m : Int, clampT n = m → RClock (w.alloc (.cells #[.int .i64 m, nilW] 42)) w.heap.size w.heap.size 42 29 nilW (clampT n) [] := fun m hm =>
    ⟨Nat.le_refl _, by rw [hm]; exact hasBox_new w _ _, ⟨rfl, .inl ⟨rfl, rfl⟩⟩, by simp [Value.ownBlock], by simp, clampT_ok n⟩
  have HK : Hid (∀ m : Int, clampT n = m → RClock (w.alloc (.cells #[.int .i64 m, nilW] 42)) w.heap.size w.heap.size 42 29 nilW (clampT n) []) := key
  clear key
  by_cases h1 : (4611686018427387904 : Int) < n
  · have h2 : (0 : Int) < 4611686018427387904 := by decide
    go_enter Try.func11, Try.ntmps11
    go_wp2
    go_ret
    exact ⟨rfl, HK.out _ (by unfold clampT top62; rw [if_neg (by omega), if_pos h1]), (Below.refl _ _).alloc (Nat.le_refl _) _⟩
  · by_cases h2 : (0 : Int) < n
    · go_enter Try.func11, Try.ntmps11
      go_wp2
      go_ret
      exact ⟨rfl, HK.out _ (by unfold clampT top62; rw [if_neg (by omega), if_neg (by omega)]), (Below.refl _ _).alloc (Nat.le_refl _) _⟩
    · go_enter Try.func11, Try.ntmps11
      go_wp2
      go_ret
      exact ⟨rfl, HK.out _ (by unfold clampT top62; split <;> (try split) <;> omega), (Below.refl _ _).alloc (Nat.le_refl _) _⟩

set_option maxHeartbeats 2000000 in
theorem ahead_any (a b : TimerT) (w : World) :
    Calls Try.prog 29 #[tval a, tval b] w fun e w' => e = .returned (.bool (ltT a b)) ∧ Below w.heap.size w w' := by
  obtain ⟨a1, a2, a3⟩ := a
  obtain ⟨b1, b2, b3⟩ := b
  have HB : Hid (∀ o1 o2, Below w.heap.size w ((w.alloc o1).alloc o2)) := fun o1 o2 => ((Below.refl _ _).alloc (Nat.le_refl _) _).alloc (by simp) _
  obtain ⟨R, hR⟩ : ∃ R, ltT ⟨a1, a2, a3⟩ ⟨b1, b2, b3⟩ = R := ⟨_, rfl⟩
  rw [hR]
  unfold ltT at hR
  simp only at hR
  have HR : Hid (decide (a1 < b1 ∨ a1 = b1 ∧ (a2 < b2 ∨ a2 = b2 ∧ a3 < b3)) = R) := hR
  clear hR
  by_cases h1 : a1 < b1
  · have HF : Hid (R = true) := by show R = _; rw [← HR.out]; exact decide_eq_true (.inl h1)
    go_enter Try.func29, Try.ntmps29
    go_wp2
    go_ret
    exact ⟨by rw [HF.out]; rfl, HB.out _ _⟩
  by_cases e1 : a1 = b1
  · have q1 : (a1 == b1) = true := by rw [beq_iff_eq]; exact e1
    by_cases h2 : a2 < b2
    · have HF : Hid (R = true) := by show R = _; rw [← HR.out]; exact decide_eq_true (.inr ⟨e1, .inl h2⟩)
      clear e1
      go_enter Try.func29, Try.ntmps29
      go_wp2
      go_ret
      exact ⟨by rw [HF.out]; rfl, HB.out _ _⟩
    by_cases e2 : a2 = b2
    · have q2 : (a2 == b2) = true := by rw [beq_iff_eq]; exact e2
      by_cases h3 : a3 < b3
      · have HF : Hid (R = true) := by show R = _; rw [← HR.out]; exact decide_eq_true (.inr ⟨e1, .inr ⟨e2, h3⟩⟩)
        clear e1 e2
        go_enter Try.func29, Try.ntmps29
        go_wp2
        go_ret
        exact ⟨by rw [HF.out]; rfl, HB.out _ _⟩
      · have HF : Hid (R = false) := by show R = _; rw [← HR.out]; exact decide_eq_false (by omega)
        clear e1 e2
        go_enter Try.func29, Try.ntmps29
        go_wp2
        go_ret
        exact ⟨by rw [HF.out]; rfl, HB.out _ _⟩
    · have q2 : (a2 == b2) = false := by rw [beq_eq_false_iff_ne]; exact e2
      have HF : Hid (R = false) := by show R = _; rw [← HR.out]; exact decide_eq_false (by omega)
      clear e1 e2
      go_enter Try.func29, Try.ntmps29
      go_wp2
      go_ret
      exact ⟨by rw [HF.out]; rfl, HB.out _ _⟩
  · have q1 : (a1 == b1) = false := by rw [beq_eq_false_iff_ne]; exact e1
    have HF : Hid (R = false) := by show R = _; rw [← HR.out]; exact decide_eq_false (by omega)
    clear e1
    go_enter Try.func29, Try.ntmps29
    go_wp2
    go_ret
    exact ⟨by rw [HF.out]; rfl, HB.out _ _⟩

/-- When, and is there one? -/
def whenT (L : List TimerT) (kind id : Int) : Int × Bool := match firstT L kind id with
  | some t => (t.at_, true)
  | none => (0, false)
theorem whenT_hit {L : List TimerT} {kind id : Int} {k : Nat} (hk : k < L.length) (h : ∀ j, j < k → isT kind id (L.getD j noTimer) = false) (hh : isT kind id (L.getD k noTimer) = true) : whenT L kind id = ((L.getD k noTimer).at_, true) := by
  have : firstT L kind id = some (L.getD k noTimer) := by
    unfold firstT
    rw [List.find?_eq_some_iff_getElem]
    have e : L.getD k noTimer = L[k] := by simp [hk]
    refine ⟨hh, k, hk, e.symm, fun j hj => ?_⟩
    have := h j hj
    have e2 : L.getD j noTimer = L[j] := by simp [show j < L.length by omega]
    rw [e2] at this
    simp [this]
  unfold whenT
  rw [this]
theorem whenT_none {L : List TimerT} {kind id : Int} (h : ∀ j, j < L.length → isT kind id (L.getD j noTimer) = false) : whenT L kind id = (0, false) := by
  have : firstT L kind id = none := by
    unfold firstT
    rw [List.find?_eq_none]
    intro x hx
    obtain ⟨j, hj, rfl⟩ := List.mem_iff_getElem.1 hx
    have := h j hj
    have e2 : L.getD j noTimer = L[j] := by simp [hj]
    rw [e2] at this
    simp [this]
  unfold whenT
  rw [this]

set_option maxHeartbeats 2000000 in
theorem rAt_any (base B : Nat) (v : Value) (now : Int) (L : List TimerT) (kind id : Int) (w : World) (hc : RClock w base B 42 29 v now L) (hlen : L.length ≤ 1000000) :
    Calls Try.prog 21 #[.pointer (some ⟨B, 0, none⟩), .int .i64 kind, .int .i64 id] w fun e w' => e = .returned (.tuple #[.int .i64 (whenT L kind id).1, .bool (whenT L kind id).2]) ∧ Below w.heap.size w w' := by
  have ht := hc.timers
  obtain ⟨ao, cap, rfl⟩ := ht.shaped
  have HT : Hid (IsTimers w (.slice ao L.length cap) L) := ht
  have cl : w.cell? ⟨B, 1, none⟩ = some (.slice ao L.length cap) := hc.box.cell 1
  clear hc ht
  go_enter Try.func21, Try.ntmps21
  go_wp2
  go_loopw [15] (fun i wr => ∃ k : Nat, k ≤ L.length ∧ i = .int .i64 k ∧ (∀ j, j < k → isT kind id (L.getD j noTimer) = false) ∧ Below w.heap.size w wr) (fun i _ => L.length - (intOf i).toNat)
  case atStart => exact ⟨0, Nat.zero_le _, rfl, fun j h => by omega, Below.refl _ _⟩
  case round =>
    obtain ⟨k, hk, rfl, ha, hb⟩ := hrel
    have HA : Hid (∀ j, j < k → isT kind id (L.getD j noTimer) = false) := ha
    have HB : Hid (Below w.heap.size w wr) := hb
    clear ha hb
    by_cases hlt : k < L.length
    · obtain ⟨b, off, rfl, hbl, c0, c1, c2⟩ := (HT.out.below HB.out).at k hlt
      have HH : Hid (isT kind id (L.getD k noTimer) = true → whenT L kind id = ((L.getD k noTimer).at_, true)) := whenT_hit hlt HA.out
      have HN : Hid (isT kind id (L.getD k noTimer) = false → ∀ j, j < k + 1 → isT kind id (L.getD j noTimer) = false) := fun h j hj => by
        rcases Nat.lt_or_ge j k with h1 | h1
        · exact HA.out j h1
        · obtain rfl : j = k := by omega
          exact h
      generalize L.getD k noTimer = x at c0 c1 c2 HH HN
      cases q1 : (x.kind == kind) with
      | false =>
        have HF : Hid (∀ j, j < k + 1 → isT kind id (L.getD j noTimer) = false) := HN.out (by unfold isT; rw [q1]; rfl)
        clear HH HN
        go_wp2
        go_roundw
        case rel => exact ⟨k + 1, by omega, by go_num, HF.out, HB.out.trans (((Below.refl _ _).alloc (Nat.le_refl _) _).mono HB.out.size)⟩
        case measure => simp [intOf]; omega
      | true =>
        cases q2 : (x.id == id) with
        | false =>
          have HF : Hid (∀ j, j < k + 1 → isT kind id (L.getD j noTimer) = false) := HN.out (by unfold isT; rw [q1, q2]; rfl)
          clear HH HN
          go_wp2
          go_roundw
          case rel => exact ⟨k + 1, by omega, by go_num, HF.out, HB.out.trans (((Below.refl _ _).alloc (Nat.le_refl _) _).mono HB.out.size)⟩
          case measure => simp [intOf]; omega
        | true =>
          have HF : Hid (whenT L kind id = (x.at_, true)) := HH.out (by unfold isT; rw [q1, q2]; rfl)
          clear HH HN
          go_wp2
          go_ret2
          exact ⟨by rw [HF.out]; rfl, HB.out.trans (((Below.refl _ _).alloc (Nat.le_refl _) _).mono HB.out.size)⟩
    · have HF : Hid (whenT L kind id = (0, false)) := whenT_none fun j hj => HA.out j (by omega)
      go_wp2
      go_ret2
      exact ⟨by rw [HF.out]; rfl, HB.out⟩

theorem timer_cases (a b : TimerT) : (a = b ∧ (a.at_ == b.at_) = true ∧ (a.kind == b.kind) = true ∧ (a.id == b.id) = true) ∨ (a ≠ b ∧ (a.at_ == b.at_) = false) ∨ (a ≠ b ∧ (a.at_ == b.at_) = true ∧ (a.kind == b.kind) = false) ∨ (a ≠ b ∧ (a.at_ == b.at_) = true ∧ (a.kind == b.kind) = true ∧ (a.id == b.id) = false) := by
  obtain ⟨a1, a2, a3⟩ := a
  obtain ⟨b1, b2, b3⟩ := b
  simp only [TimerT.mk.injEq, beq_iff_eq, beq_eq_false_iff_ne, ne_eq]
  omega

set_option maxHeartbeats 4000000 in
theorem rSameTimers_any (xs ys : List TimerT) (v u : Value) (w : World) (hv : IsTimers w v xs) (hu : IsTimers w u ys) :
    Calls Try.prog 23 #[v, u] w fun e w' => e = .returned (.bool (decide (xs = ys))) ∧ Below w.heap.size w w' := by
  obtain ⟨ao, cap, rfl⟩ := hv.shaped
  obtain ⟨bo, cap2, rfl⟩ := hu.shaped
  have hl1 : xs.length ≤ 9223372036854775807 := hv.row.2.1.1
  have hl2 : ys.length ≤ 9223372036854775807 := hu.row.2.1.1
  have HV : Hid (IsTimers w (.slice ao xs.length cap) xs) := hv
  have HU : Hid (IsTimers w (.slice bo ys.length cap2) ys) := hu
  clear hv hu
  by_cases hl : xs.length = ys.length
  · have HL : Hid (xs.length = ys.length) := hl
    have hln : ((xs.length : Int) != (ys.length : Int)) = false := by rw [bne_eq_false_iff_eq]; omega
    clear hl
    go_enter Try.func23, Try.ntmps23
    go_wp2
    go_loopw [13] (fun i wr => ∃ k : Nat, k ≤ xs.length ∧ i = .int .i64 k ∧ xs.take k = ys.take k ∧ Below w.heap.size w wr) (fun i _ => xs.length - (intOf i).toNat)
    case atStart => exact ⟨0, Nat.zero_le _, rfl, by simp, Below.refl _ _⟩
    case round =>
      obtain ⟨k, hk, rfl, ht, hb⟩ := hrel
      have HTk : Hid (xs.take k = ys.take k) := ht
      have HB : Hid (Below w.heap.size w wr) := hb
      clear ht hb
      by_cases hlt : k < xs.length
      · have hlj : k < ys.length := by have := HL.out; omega
        obtain ⟨b, off, rfl, hbl, c0, c1, c2⟩ := (HV.out.below HB.out).at k hlt
        obtain ⟨b2, off2, rfl, hbl2, d0, d1, d2⟩ := (HU.out.below HB.out).at k hlj
        have HN : Hid (xs.getD k noTimer = ys.getD k noTimer → xs.take (k + 1) = ys.take (k + 1)) := fun h => by
          have e1 : xs.getD k noTimer = xs[k] := by simp [hlt]
          have e2 : ys.getD k noTimer = ys[k] := by simp [hlj]
          rw [e1, e2] at h
          rw [List.take_succ_eq_append_getElem hlt, List.take_succ_eq_append_getElem hlj, HTk.out, h]
        have HX : Hid (xs.getD k noTimer ≠ ys.getD k noTimer → decide (xs = ys) = false) := fun h => decide_eq_false fun e => h (by rw [e])
        generalize xs.getD k noTimer = x at c0 c1 c2 HN HX
        generalize ys.getD k noTimer = y at d0 d1 d2 HN HX
        have hk1 : (k : Int) < (xs.length : Int) := by omega
        have hk2 : (k : Int) < (ys.length : Int) := by omega
        rcases timer_cases x y with ⟨e, q1, q2, q3⟩ | ⟨e, q1⟩ | ⟨e, q1, q2⟩ | ⟨e, q1, q2, q3⟩
        · have HF : Hid (xs.take (k + 1) = ys.take (k + 1)) := HN.out e
          clear HN HX e
          go_wp2
          go_quiet (fail)
          go_wp2
          go_roundw
          case rel => exact ⟨k + 1, by omega, by go_num, HF.out, below_drews HB.out _⟩
          case measure => simp [intOf]; omega
        all_goals
          have HF : Hid (decide (xs = ys) = false) := HX.out e
          clear HN HX e
          go_wp2
          go_quiet (fail)
          go_wp2
          go_ret
          exact ⟨by rw [HF.out]; rfl, below_drews HB.out _⟩
      · have HF : Hid (decide (xs = ys) = true) := by
          have := HTk.out
          rw [List.take_of_length_le (by omega), List.take_of_length_le (by have := HL.out; omega)] at this
          exact decide_eq_true this
        go_wp2
        go_ret
        exact ⟨by rw [HF.out]; rfl, HB.out⟩
  · have HF : Hid (decide (xs = ys) = false) := decide_eq_false fun e => hl (by rw [e])
    have hne : ((xs.length : Int) != (ys.length : Int)) = true := by rw [bne_iff_ne]; omega
    clear hl
    go_enter Try.func23, Try.ntmps23
    go_wp2
    go_ret
    exact ⟨by rw [HF.out]; rfl, Below.refl _ _⟩

end Go.Proofs.Ytelpdmaphmfkiaa

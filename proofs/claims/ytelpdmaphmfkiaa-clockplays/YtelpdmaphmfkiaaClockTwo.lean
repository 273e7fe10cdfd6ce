/-
  The program's clock beside the statement's own: both in one world, neither in the other's way.
-/
import Derived.Test.YtelpdmaphmfkiaaClockState
namespace Go.Proofs.Ytelpdmaphmfkiaa
open Go.RowKit

/-- The program's clock at B1, the statement's own at B2; neither has one of the blocks K. -/
structure Two (K : Nat → Prop) (base B1 B2 : Nat) (n1 : Int) (L1 : List TimerT) (n2 : Int) (L2 : List TimerT) (w : World) : Prop where
  ex : ∃ v2, RClock w base B2 42 29 v2 n2 L2 ∧ Ck (fun b => K b ∨ b = B2 ∨ v2.ownBlock = some b) base B1 n1 L1 w ∧ ∀ b, K b → b ≠ B2 ∧ v2.ownBlock ≠ some b
  good : GoodC n2 L2

section
variable {K : Nat → Prop} {base B1 B2 : Nat} {n1 n2 : Int} {L1 L2 : List TimerT} {w w' : World}
theorem Two.below (h : Two K base B1 B2 n1 L1 n2 L2 w) (hb : Below w.heap.size w w') : Two K base B1 B2 n1 L1 n2 L2 w' := by
  obtain ⟨v2, hr, hc, hk⟩ := h.ex
  exact ⟨⟨v2, hr.below hb, hc.below hb, hk⟩, h.good⟩
theorem Two.base_le (h : Two K base B1 B2 n1 L1 n2 L2 w) : base ≤ w.heap.size := by
  obtain ⟨v2, hr, hc, hk⟩ := h.ex
  have := hc.base_lt; omega
theorem Two.kept (h : Two K base B1 B2 n1 L1 n2 L2 w) (hb : Below w.heap.size w w') : Two K base B1 B2 n1 L1 n2 L2 w' ∧ Kept K base w w' := by
  refine ⟨h.below hb, ?_⟩
  obtain ⟨v2, hr, hc, hk⟩ := h.ex
  exact ⟨hb.mono (by have := hc.base_lt; omega), fun b hb' => hb.block b (hc.off b (.inl hb')).2⟩
theorem Two.mono (h : Two K base B1 B2 n1 L1 n2 L2 w) {K' : Nat → Prop} (hK : ∀ b, K' b → K b) : Two K' base B1 B2 n1 L1 n2 L2 w := by
  obtain ⟨v2, hr, hc, hk⟩ := h.ex
  exact ⟨⟨v2, hr, hc.mono fun b hb => hb.imp (hK b) id, fun b hb => hk b (hK b hb)⟩, h.good⟩
/-- New blocks are none of the clocks'. -/
theorem Two.fresh (h : Two K base B1 B2 n1 L1 n2 L2 w) (hb : Below w.heap.size w w') : Two (fun b => K b ∨ (w.heap.size ≤ b ∧ b < w'.heap.size)) base B1 B2 n1 L1 n2 L2 w' := by
  obtain ⟨v2, hr, hc, hk⟩ := h.ex
  refine ⟨⟨v2, hr.below hb, (hc.fresh hb).mono fun b hb' => ?_, fun b hb' => ?_⟩, h.good⟩
  · rcases hb' with (hb' | hb') | hb'
    · exact .inl (.inl hb')
    · exact .inr hb'
    · exact .inl (.inr hb')
  · have hl := hr.box.lt
    rcases hb' with hb' | ⟨h1, h2⟩
    · exact hk b hb'
    · exact ⟨by omega, fun e => by have := (hr.row.lt b e).2; omega⟩
theorem two_first (h : Two K base B1 B2 n1 L1 n2 L2 w) {n1' : Int} {L1' : List TimerT}
    (hx : ∀ v2 : Value, RClock w base B2 42 29 v2 n2 L2 → Ck (fun b => K b ∨ b = B2 ∨ v2.ownBlock = some b) base B1 n1 L1 w → Ck (fun b => K b ∨ b = B2 ∨ v2.ownBlock = some b) base B1 n1' L1' w' ∧ Kept (fun b => K b ∨ b = B2 ∨ v2.ownBlock = some b) base w w') :
    Two K base B1 B2 n1' L1' n2 L2 w' ∧ Kept K base w w' := by
  obtain ⟨v2, hr, hc, hk⟩ := h.ex
  obtain ⟨h1, h2⟩ := hx v2 hr hc
  exact ⟨⟨⟨v2, hr.stands (h2.at_ B2 (.inr (.inl rfl))) fun k hk' => h2.at_ k (.inr (.inr hk')), h1, hk⟩, h.good⟩, h2.mono fun b hb => .inl hb⟩
theorem two_second (h : Two K base B1 B2 n1 L1 n2 L2 w) {n2' : Int} {L2' : List TimerT} (hg : GoodC n2' L2')
    (hx : ∀ v2 : Value, RClock w base B2 42 29 v2 n2 L2 → ∃ v', Turned w w' base B2 42 29 v2 v' n2' L2') :
    Two K base B1 B2 n1 L1 n2' L2' w' ∧ Kept K base w w' := by
  obtain ⟨v2, hr, hc, hk⟩ := h.ex
  obtain ⟨v', ht⟩ := hx v2 hr
  obtain ⟨v1, hr1, hv1⟩ := hc.ex
  have hblk : ∀ b, b < w.heap.size → b ≠ B2 → w'.heap[b]? = w.heap[b]? := fun b hb hne => ht.grown.block b hb (by simp; exact hne)
  have hB1 : B1 ≠ B2 := (hc.off B2 (.inr (.inl rfl))).1.symm
  have hs := ht.grown.size
  refine ⟨⟨⟨v', ht.clock, ⟨⟨v1, hr1.stands (hblk B1 hr1.box.lt hB1) fun k hk' => hblk k (hr1.row.lt k hk').2 fun e => hv1 B2 (.inr (.inl rfl)) (by rw [hk', e]), fun b hb e => ?_⟩, hc.good, fun b hb => ?_⟩, fun b hb => ⟨(hk b hb).1, fun e => ?_⟩⟩, hg⟩,
    (Below.refl base w).grown ht.grown (by have := hc.base_lt; omega) (fun k hk' => by cases hk'; exact hr.ge), fun b hb => hblk b (hc.off b (.inl hb)).2 (hk b hb).1⟩
  · rcases hb with hb | rfl | hb
    · exact hv1 b (.inl hb) e
    · exact hv1 b (.inr (.inl rfl)) e
    · rcases ht.row with h' | h'
      · exact hv1 b (.inr (.inr (h'.symm.trans hb))) e
      · have := h' b hb; have := (hr1.row.lt b e).2; omega
  · rcases hb with hb | rfl | hb
    · exact ⟨(hc.off b (.inl hb)).1, Nat.lt_of_lt_of_le (hc.off b (.inl hb)).2 hs⟩
    · exact ⟨Ne.symm hB1, Nat.lt_of_lt_of_le hr.box.lt hs⟩
    · refine ⟨fun e => ?_, (ht.clock.row.lt b hb).2⟩
      subst e
      rcases ht.row with h' | h'
      · exact (hc.off b (.inr (.inr (h'.symm.trans hb)))).1 rfl
      · have := h' b hb; have := hr1.box.lt; omega
  · rcases ht.row with h' | h'
    · exact (hk b hb).2 (h'.symm.trans e)
    · have := h' b e; have := (hc.off b (.inl hb)).2; omega

theorem Two.ck (h : Two K base B1 B2 n1 L1 n2 L2 w) : Ck K base B1 n1 L1 w := by
  obtain ⟨v2, hr, hc, hk⟩ := h.ex
  exact hc.mono fun b hb => .inl hb

theorem pset (h : Two K base B1 B2 n1 L1 n2 L2 w) (hlen : L1.length ≤ 1000000) (t : TimerT) (ht : inT t) :
    Calls Try.prog 12 #[.pointer (some ⟨B1, 0, none⟩), tval t] w fun e w' => e = .returned (.bool (setOK n1 t)) ∧ Two K base B1 B2 n1 (setT n1 L1 t) n2 L2 w' ∧ Kept K base w w' := by
  obtain ⟨v2, hr, hc, hk⟩ := h.ex
  refine (kset hc hlen t ht).mono ?_
  rintro e w' ⟨h1, h2, h3⟩
  exact ⟨h1, ⟨⟨v2, hr.stands (h3.at_ B2 (.inr (.inl rfl))) fun k hk' => h3.at_ k (.inr (.inr hk')), h2, hk⟩, h.good⟩, h3.mono fun b hb => .inl hb⟩
theorem pcut (h : Two K base B1 B2 n1 L1 n2 L2 w) (hlen : L1.length ≤ 1000000) (kind id : Int) :
    Calls Try.prog 14 #[.pointer (some ⟨B1, 0, none⟩), .int .i64 kind, .int .i64 id] w fun e w' => e = .returned (.bool (hasT L1 kind id)) ∧ Two K base B1 B2 n1 (cutT L1 kind id) n2 L2 w' ∧ Kept K base w w' := by
  obtain ⟨v2, hr, hc, hk⟩ := h.ex
  refine (kcut hc hlen kind id).mono ?_
  rintro e w' ⟨h1, h2, h3⟩
  exact ⟨h1, ⟨⟨v2, hr.stands (h3.at_ B2 (.inr (.inl rfl))) fun k hk' => h3.at_ k (.inr (.inr hk')), h2, hk⟩, h.good⟩, h3.mono fun b hb => .inl hb⟩
theorem pnext (h : Two K base B1 B2 n1 L1 n2 L2 w) (hlen : L1.length ≤ 1000000) (til : Int) :
    Calls Try.prog 16 #[.pointer (some ⟨B1, 0, none⟩), .int .i64 til] w fun e w' => e = .returned (.tuple #[tval (nextT n1 L1 til).1, .bool (nextT n1 L1 til).2.1]) ∧ Two K base B1 B2 (nextT n1 L1 til).2.2.1 (nextT n1 L1 til).2.2.2 n2 L2 w' ∧ Kept K base w w' := by
  obtain ⟨v2, hr, hc, hk⟩ := h.ex
  refine (knext hc hlen til).mono ?_
  rintro e w' ⟨h1, h2, h3⟩
  exact ⟨h1, ⟨⟨v2, hr.stands (h3.at_ B2 (.inr (.inl rfl))) fun k hk' => h3.at_ k (.inr (.inr hk')), h2, hk⟩, h.good⟩, h3.mono fun b hb => .inl hb⟩
theorem pgo (h : Two K base B1 B2 n1 L1 n2 L2 w) (hlen : L1.length ≤ 1000000) (til : Int) :
    Calls Try.prog 18 #[.pointer (some ⟨B1, 0, none⟩), .int .i64 til] w fun e w' => e = .returned (.bool (goOK n1 L1 til)) ∧ Two K base B1 B2 (if goOK n1 L1 til then til else n1) L1 n2 L2 w' ∧ Kept K base w w' := by
  obtain ⟨v2, hr, hc, hk⟩ := h.ex
  refine (kgo hc hlen til).mono ?_
  rintro e w' ⟨h1, h2, h3⟩
  exact ⟨h1, ⟨⟨v2, hr.stands (h3.at_ B2 (.inr (.inl rfl))) fun k hk' => h3.at_ k (.inr (.inr hk')), h2, hk⟩, h.good⟩, h3.mono fun b hb => .inl hb⟩
theorem qset (h : Two K base B1 B2 n1 L1 n2 L2 w) (hlen : L2.length ≤ 1000000) (t : TimerT) (ht : inT t) :
    Calls Try.prog 13 #[.pointer (some ⟨B2, 0, none⟩), tval t] w fun e w' => e = .returned (.bool (setOK n2 t)) ∧ Two K base B1 B2 n1 L1 n2 (setT n2 L2 t) w' ∧ Kept K base w w' := by
  obtain ⟨v2, hr, hc, hk⟩ := h.ex
  refine (rSet_any base B2 v2 n2 L2 t w hr hlen ht).mono ?_
  rintro e w' ⟨h1, v', h2⟩
  exact ⟨h1, two_second ⟨⟨v2, hr, hc, hk⟩, h.good⟩ (h.good.set t) fun u hu => ⟨v', by
    have : u = v2 := by
      have e1 := hu.box.cell 1
      have e2 := hr.box.cell 1
      rw [e2] at e1
      simpa using e1.symm
    rw [this]; exact h2⟩⟩
theorem qcut (h : Two K base B1 B2 n1 L1 n2 L2 w) (hlen : L2.length ≤ 1000000) (kind id : Int) :
    Calls Try.prog 15 #[.pointer (some ⟨B2, 0, none⟩), .int .i64 kind, .int .i64 id] w fun e w' => e = .returned (.bool (hasT L2 kind id)) ∧ Two K base B1 B2 n1 L1 n2 (cutT L2 kind id) w' ∧ Kept K base w w' := by
  obtain ⟨v2, hr, hc, hk⟩ := h.ex
  refine (rCut_any base B2 v2 n2 L2 kind id w hr hlen).mono ?_
  rintro e w' ⟨h1, v', h2⟩
  exact ⟨h1, two_second ⟨⟨v2, hr, hc, hk⟩, h.good⟩ (h.good.cut kind id) fun u hu => ⟨v', by
    have : u = v2 := by
      have e1 := hu.box.cell 1
      have e2 := hr.box.cell 1
      rw [e2] at e1
      simpa using e1.symm
    rw [this]; exact h2⟩⟩
theorem qnext (h : Two K base B1 B2 n1 L1 n2 L2 w) (hlen : L2.length ≤ 1000000) (til : Int) :
    Calls Try.prog 17 #[.pointer (some ⟨B2, 0, none⟩), .int .i64 til] w fun e w' => e = .returned (.tuple #[tval (nextT n2 L2 til).1, .bool (nextT n2 L2 til).2.1]) ∧ Two K base B1 B2 n1 L1 (nextT n2 L2 til).2.2.1 (nextT n2 L2 til).2.2.2 w' ∧ Kept K base w w' := by
  obtain ⟨v2, hr, hc, hk⟩ := h.ex
  refine (rNext_any base B2 v2 n2 L2 til w hr hlen fun t ht => ⟨Int.le_trans h.good.low (h.good.from_ t ht), h.good.upto t ht⟩).mono ?_
  rintro e w' ⟨h1, v', h2⟩
  exact ⟨h1, two_second ⟨⟨v2, hr, hc, hk⟩, h.good⟩ (h.good.next til) fun u hu => ⟨v', by
    have : u = v2 := by
      have e1 := hu.box.cell 1
      have e2 := hr.box.cell 1
      rw [e2] at e1
      simpa using e1.symm
    rw [this]; exact h2⟩⟩
theorem qgo (h : Two K base B1 B2 n1 L1 n2 L2 w) (til : Int) :
    Calls Try.prog 19 #[.pointer (some ⟨B2, 0, none⟩), .int .i64 til] w fun e w' => e = .returned (.bool (goOK n2 L2 til)) ∧ Two K base B1 B2 n1 L1 (if goOK n2 L2 til then til else n2) L2 w' ∧ Kept K base w w' := by
  obtain ⟨v2, hr, hc, hk⟩ := h.ex
  refine (rGo_any base B2 v2 n2 L2 til w hr).mono ?_
  rintro e w' ⟨h1, h2⟩
  exact ⟨h1, two_second ⟨⟨v2, hr, hc, hk⟩, h.good⟩ (h.good.go til) fun u hu => ⟨v2, by
    have : u = v2 := by
      have e1 := hu.box.cell 1
      have e2 := hr.box.cell 1
      rw [e2] at e1
      simpa using e1.symm
    rw [this]; exact h2⟩⟩
theorem qat (h : Two K base B1 B2 n1 L1 n2 L2 w) (hlen : L2.length ≤ 1000000) (kind id : Int) :
    Calls Try.prog 21 #[.pointer (some ⟨B2, 0, none⟩), .int .i64 kind, .int .i64 id] w fun e w' => e = .returned (.tuple #[.int .i64 (whenT L2 kind id).1, .bool (whenT L2 kind id).2]) ∧ Below w.heap.size w w' := by
  obtain ⟨v2, hr, hc, hk⟩ := h.ex
  exact rAt_any base B2 v2 n2 L2 kind id w hr hlen
/-- What the statement's own clock shows. -/
theorem Two.own (h : Two K base B1 B2 n1 L1 n2 L2 w) : ∃ ao cap, w.cell? ⟨B2, 0, none⟩ = some (.int .i64 n2) ∧ w.cell? ⟨B2, 1, none⟩ = some (.slice ao L2.length cap) ∧ IsTimers w (.slice ao L2.length cap) L2 := by
  obtain ⟨v2, hr, hc, hk⟩ := h.ex
  obtain ⟨ao, cap, rfl⟩ := hr.timers.shaped
  exact ⟨ao, cap, hr.box.cell 0, hr.box.cell 1, hr.timers⟩
end

/-- Both new, at one time. -/
theorem two_new {w w1 w2 : World} {n : Int} (h1 : Ck (fun b => b < w.heap.size) w.heap.size w.heap.size (clampT n) [] w1) (hb1 : Below w.heap.size w w1) (h2 : RClock w2 w1.heap.size w1.heap.size 42 29 nilW (clampT n) []) (hb2 : Below w1.heap.size w1 w2) :
    Two (fun _ => False) w.heap.size w.heap.size w1.heap.size (clampT n) [] (clampT n) [] w2 := by
  have hs := hb1.size
  refine ⟨⟨nilW, h2.lower hs, ((h1.fresh hb2).mono fun b hb => ?_), fun b hb => hb.elim⟩, h1.good⟩
  rcases hb with hb | rfl | hb
  · exact hb.elim
  · exact .inr ⟨Nat.le_refl _, h2.box.lt⟩
  · simp [Value.ownBlock] at hb

end Go.Proofs.Ytelpdmaphmfkiaa

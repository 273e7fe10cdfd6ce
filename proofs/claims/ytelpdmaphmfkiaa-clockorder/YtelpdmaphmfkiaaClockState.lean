/-
  A clock of the program's in the statements' walks: its time and its timers, the blocks that a call on it leaves alone.
-/
import Derived.Test.YtelpdmaphmfkiaaClock4
namespace Go.Proofs.Ytelpdmaphmfkiaa
open Go.RowKit

/-- The clock at block B: the time, the timers; it has none of the blocks K. -/
structure Ck (K : Nat → Prop) (base B : Nat) (now : Int) (L : List TimerT) (w : World) : Prop where
  ex : ∃ v, RClock w base B 55 29 v now L ∧ ∀ b, K b → v.ownBlock ≠ some b
  good : GoodC now L
  off : ∀ b, K b → b ≠ B ∧ b < w.heap.size
/-- What a call on it leaves alone. -/
structure Kept (K : Nat → Prop) (base : Nat) (w w' : World) : Prop where
  below : Below base w w'
  at_ : ∀ b, K b → w'.heap[b]? = w.heap[b]?
theorem Kept.box {K : Nat → Prop} {base : Nat} {w w' : World} (h : Kept K base w w') {b t : Nat} {cs : Array Value} (hb : K b) (hx : HasBox w b t cs) : HasBox w' b t cs := (h.at_ b hb).trans hx
theorem Kept.trans {K : Nat → Prop} {base : Nat} {w w' w'' : World} (h : Kept K base w w') (h' : Kept K base w' w'') : Kept K base w w'' := ⟨h.below.trans h'.below, fun b hb => (h'.at_ b hb).trans (h.at_ b hb)⟩
theorem Kept.mono {K K' : Nat → Prop} {base : Nat} {w w' : World} (h : Kept K base w w') (hK : ∀ b, K' b → K b) : Kept K' base w w' := ⟨h.below, fun b hb => h.at_ b (hK b hb)⟩
theorem Kept.refl {K : Nat → Prop} {base : Nat} (w : World) : Kept K base w w := ⟨Below.refl _ _, fun _ _ => rfl⟩

section
variable {K : Nat → Prop} {base B : Nat} {now : Int} {L : List TimerT} {w w' : World}
theorem Ck.base_lt (h : Ck K base B now L w) : base ≤ B ∧ B < w.heap.size := by
  obtain ⟨v, hr, _⟩ := h.ex
  exact ⟨hr.ge, hr.box.lt⟩
theorem Ck.below (h : Ck K base B now L w) (hb : Below w.heap.size w w') : Ck K base B now L w' := by
  obtain ⟨v, hr, hv⟩ := h.ex
  exact ⟨⟨v, hr.below hb, hv⟩, h.good, fun b hk => ⟨(h.off b hk).1, Nat.lt_of_lt_of_le (h.off b hk).2 hb.size⟩⟩
theorem Ck.mono (h : Ck K base B now L w) {K' : Nat → Prop} (hK : ∀ b, K' b → K b) : Ck K' base B now L w := by
  obtain ⟨v, hr, hv⟩ := h.ex
  exact ⟨⟨v, hr, fun b hb => hv b (hK b hb)⟩, h.good, fun b hb => h.off b (hK b hb)⟩
/-- New blocks are none of the clock's. -/
theorem Ck.fresh (h : Ck K base B now L w) (hb : Below w.heap.size w w') : Ck (fun b => K b ∨ (w.heap.size ≤ b ∧ b < w'.heap.size)) base B now L w' := by
  obtain ⟨v, hr, hv⟩ := h.ex
  refine ⟨⟨v, hr.below hb, fun b hk => ?_⟩, h.good, fun b hk => ?_⟩
  · rcases hk with hk | ⟨hk, _⟩
    · exact hv b hk
    · intro e; have := (hr.row.lt b e).2; omega
  · have := hr.box.lt
    rcases hk with hk | ⟨hk, hk2⟩
    · exact ⟨(h.off b hk).1, Nat.lt_of_lt_of_le (h.off b hk).2 hb.size⟩
    · exact ⟨by omega, hk2⟩
theorem Ck.put (h : Ck K base B now L w) {b : Nat} (hK : K b) (i : Nat) (u : Value) : Ck K base B now L (w.setCell ⟨b, i, none⟩ u) := by
  obtain ⟨v, hr, hv⟩ := h.ex
  have hother : ∀ k, k ≠ b → (w.setCell ⟨b, i, none⟩ u).heap[k]? = w.heap[k]? := fun k hk => by
    simp [World.setCell, Array.getElem?_modify, Ne.symm hk]
  exact ⟨⟨v, hr.stands (hother B (Ne.symm (h.off b hK).1)) fun k hk => hother k fun e => hv b hK (by rw [hk, e]), hv⟩, h.good, fun b' hb' => ⟨(h.off b' hb').1, by have := (h.off b' hb').2; simpa using this⟩⟩
theorem Ck.row (h : Ck K base B now L w) {b : Nat} (hK : K b) (cs : Array Value) : Ck K base B now L (w.setRow b cs) := by
  obtain ⟨v, hr, hv⟩ := h.ex
  have hother : ∀ k, k ≠ b → (w.setRow b cs).heap[k]? = w.heap[k]? := fun k hk => setRow_other _ _ _ _ hk
  exact ⟨⟨v, hr.stands (hother B (Ne.symm (h.off b hK).1)) fun k hk => hother k fun e => hv b hK (by rw [hk, e]), hv⟩, h.good, fun b' hb' => ⟨(h.off b' hb').1, by have := (h.off b' hb').2; simpa [World.setRow] using this⟩⟩
theorem ck_turned {v v' : Value} {now' : Int} {L' : List TimerT} (h : Ck K base B now L w) (hr : RClock w base B 55 29 v now L) (hv : ∀ b, K b → v.ownBlock ≠ some b) (ht : TurnedC w w' base B 55 29 v v' now' L') (hg : GoodC now' L') :
    Ck K base B now' L' w' ∧ Kept K base w w' := by
  refine ⟨⟨⟨v', ht.clock, fun b hb e => ?_⟩, hg, fun b hb => ⟨(h.off b hb).1, Nat.lt_of_lt_of_le (h.off b hb).2 ht.size⟩⟩, ht.from hr (Below.refl _ _), fun b hb => ht.block b (h.off b hb).2 (h.off b hb).1 (hv b hb)⟩
  rcases ht.row with h' | h'
  · exact hv b hb (h'.symm.trans e)
  · have := h' b e; have := (h.off b hb).2; omega
theorem kept_below (h : Ck K base B now L w) (hb : Below w.heap.size w w') : Ck K base B now L w' ∧ Kept K base w w' :=
  ⟨h.below hb, hb.mono (by have := h.base_lt; omega), fun b hk => hb.block b (h.off b hk).2⟩

theorem knew (n : Int) (w : World) :
    Calls Try.prog 10 #[.int .i64 n] w fun e w' => e = .returned (.pointer (some ⟨w.heap.size, 0, none⟩)) ∧ Ck (fun b => b < w.heap.size) w.heap.size w.heap.size (clampT n) [] w' ∧ Below w.heap.size w w' :=
  (cnew_any n w).mono fun _ _ ⟨h1, h2, h3⟩ => ⟨h1, ⟨⟨_, h2, fun b _ => by simp [Value.ownBlock]⟩, GoodC.new h2.now_.1 h2.now_.2, fun b hb => ⟨by omega, Nat.lt_of_lt_of_le hb h3.size⟩⟩, h3⟩
theorem know (h : Ck K base B now L w) :
    Calls Try.prog 22 #[.pointer (some ⟨B, 0, none⟩)] w fun e w' => e = .returned (.int .i64 now) ∧ w' = w := by
  obtain ⟨v, hr, _⟩ := h.ex
  exact cnow_any base B v now L w hr
theorem kset (h : Ck K base B now L w) (hlen : L.length ≤ 1000000) (t : TimerT) (ht : inT t) :
    Calls Try.prog 12 #[.pointer (some ⟨B, 0, none⟩), tval t] w fun e w' => e = .returned (.bool (setOK now t)) ∧ Ck K base B now (setT now L t) w' ∧ Kept K base w w' := by
  obtain ⟨v, hr, hv⟩ := h.ex
  refine (cset_any base B v now L t w hr hlen h.good ht).mono ?_
  rintro e w' ⟨h1, v', h2⟩
  exact ⟨h1, ck_turned h hr hv h2 (h.good.set t)⟩
theorem kcut (h : Ck K base B now L w) (hlen : L.length ≤ 1000000) (kind id : Int) :
    Calls Try.prog 14 #[.pointer (some ⟨B, 0, none⟩), .int .i64 kind, .int .i64 id] w fun e w' => e = .returned (.bool (hasT L kind id)) ∧ Ck K base B now (cutT L kind id) w' ∧ Kept K base w w' := by
  obtain ⟨v, hr, hv⟩ := h.ex
  refine (ccut_any base B v now L kind id w hr hlen h.good.one).mono ?_
  rintro e w' ⟨h1, v', h2⟩
  exact ⟨h1, ck_turned h hr hv h2 (h.good.cut kind id)⟩
theorem knext (h : Ck K base B now L w) (hlen : L.length ≤ 1000000) (til : Int) :
    Calls Try.prog 16 #[.pointer (some ⟨B, 0, none⟩), .int .i64 til] w fun e w' => e = .returned (.tuple #[tval (nextT now L til).1, .bool (nextT now L til).2.1]) ∧ Ck K base B (nextT now L til).2.2.1 (nextT now L til).2.2.2 w' ∧ Kept K base w w' := by
  obtain ⟨v, hr, hv⟩ := h.ex
  refine (cnext_any base B v now L til w hr hlen fun t ht => ⟨Int.le_trans h.good.low (h.good.from_ t ht), h.good.upto t ht⟩).mono ?_
  rintro e w' ⟨h1, v', h2⟩
  exact ⟨h1, ck_turned h hr hv h2 (h.good.next til)⟩
theorem kgo (h : Ck K base B now L w) (hlen : L.length ≤ 1000000) (til : Int) :
    Calls Try.prog 18 #[.pointer (some ⟨B, 0, none⟩), .int .i64 til] w fun e w' => e = .returned (.bool (goOK now L til)) ∧ Ck K base B (if goOK now L til then til else now) L w' ∧ Kept K base w w' := by
  obtain ⟨v, hr, hv⟩ := h.ex
  refine (cgo_any base B v now L til w hr hlen).mono ?_
  rintro e w' ⟨h1, h2⟩
  exact ⟨h1, ck_turned h hr hv h2 (h.good.go til)⟩
theorem kat (h : Ck K base B now L w) (hlen : L.length ≤ 1000000) (kind id : Int) :
    Calls Try.prog 20 #[.pointer (some ⟨B, 0, none⟩), .int .i64 kind, .int .i64 id] w fun e w' => e = .returned (.tuple #[.int .i64 (whenT L kind id).1, .bool (whenT L kind id).2]) ∧ Below w.heap.size w w' := by
  obtain ⟨v, hr, hv⟩ := h.ex
  exact cat_any base B v now L kind id w hr hlen
/-- All tells a row of its own that nobody else has. -/
theorem kall (h : Ck K base B now L w) (hlen : L.length ≤ 1000000) :
    Calls Try.prog 24 #[.pointer (some ⟨B, 0, none⟩)] w fun e w' => ∃ ao cap, e = .returned (.slice ao L.length cap) ∧ IsTimers w' (.slice ao L.length cap) L ∧ Below w.heap.size w w' := by
  obtain ⟨v, hr, hv⟩ := h.ex
  refine (call_any base B v now L w hr hlen).mono ?_
  rintro e w' ⟨v', rfl, ho, hb⟩
  obtain ⟨ao, cap, rfl⟩ := (isRow_own ho).shaped
  exact ⟨ao, cap, rfl, isTimers_own ho rfl hr.ok, hb⟩
end

theorem inT_lit {a b c : Int} (h1 : -9223372036854775808 ≤ a ∧ a ≤ 9223372036854775807) (h2 : -9223372036854775808 ≤ b ∧ b ≤ 9223372036854775807) (h3 : -9223372036854775808 ≤ c ∧ c ≤ 9223372036854775807) : inT ⟨a, b, c⟩ := ⟨h1, h2, h3⟩

set_option maxRecDepth 100000 in
set_option maxHeartbeats 4000000 in
theorem awake9_any (w : World) : Calls Try.prog 9 #[] w fun e w' => e = .returned (.bool true) ∧ Below w.heap.size w w' := by
  go_enter Try.func9, Try.ntmps9
  go_wp2_with fail
  refine (knew 0 w).mono ?_
  rintro e w1 ⟨rfl, hk, hb⟩
  have e0 : clampT 0 = 0 := by decide
  rw [e0] at hk
  have HB1 : Hid (Below w.heap.size w w1) := hb
  have KS := kset hk (by decide) ⟨5, 2, 1⟩ (inT_lit (by decide) (by decide) (by decide))
  have e1 : setOK 0 ⟨5, 2, 1⟩ = true := by decide
  have e2 : setT 0 [] ⟨5, 2, 1⟩ = [⟨5, 2, 1⟩] := by decide
  rw [e1, e2] at KS
  clear hk hb e0 e1 e2
  go_wp2_with fail
  refine KS.mono ?_
  rintro e w2 ⟨rfl, hk, hp⟩
  have HB2 : Hid (Below w.heap.size w w2) := HB1.out.trans hp.below
  have KS := kset hk (by decide) ⟨5, 1, 9⟩ (inT_lit (by decide) (by decide) (by decide))
  have e1 : setOK 0 ⟨5, 1, 9⟩ = true := by decide
  have e2 : setT 0 [⟨5, 2, 1⟩] ⟨5, 1, 9⟩ = [⟨5, 1, 9⟩, ⟨5, 2, 1⟩] := by decide
  rw [e1, e2] at KS
  clear hk hp e1 e2 HB1
  go_wp2_with fail
  refine KS.mono ?_
  rintro e w3 ⟨rfl, hk, hp⟩
  have HB3 : Hid (Below w.heap.size w w3) := HB2.out.trans hp.below
  have KN := knext hk (by decide) 9
  have e1 : nextT 0 [⟨5, 1, 9⟩, ⟨5, 2, 1⟩] 9 = (⟨5, 1, 9⟩, true, 5, [⟨5, 2, 1⟩]) := by decide
  rw [e1] at KN
  clear hk hp e1 HB2
  go_wp2_with fail
  refine KN.mono ?_
  rintro e w4 ⟨rfl, hk, hp⟩
  have HB4 : Hid (Below w.heap.size w w4) := HB3.out.trans hp.below
  have hbase := hk.base_lt
  have HA : Hid (Below w4.heap.size w4 (w4.alloc (.cells (tcells ⟨5, 1, 9⟩) 29))) := (Below.refl _ _).alloc (Nat.le_refl _) _
  have hk5 := hk.below HA.out
  have KW := know hk5
  have KA := kall hk5 (by decide)
  have HK5 : Hid _ := hk5
  have HB5 : Hid (Below w.heap.size w (w4.alloc (.cells (tcells ⟨5, 1, 9⟩) 29))) := HB4.out.alloc (by have := HB4.out.size; omega) _
  clear hk hp HB3 hk5 hbase HB4
  go_wp2_with (first
    | (go_at_call 22; refine KW.mono ?_; rintro e w6 ⟨rfl, rfl⟩)
    | fail)
  refine KA.mono ?_
  rintro e w6 ⟨ao, cap, rfl, _, hb⟩
  have KG := kgo (HK5.out.below hb) (by decide) 9
  have e1 : goOK 5 [⟨5, 2, 1⟩] 9 = false := by decide
  rw [e1] at KG
  have HB6 : Hid (Below w.heap.size w w6) := HB5.out.trans (hb.mono HB5.out.size)
  clear hb e1 KA KW HB5
  go_wp2_with fail
  refine KG.mono ?_
  rintro e w7 ⟨rfl, _, hp⟩
  have HB7 : Hid (Below w.heap.size w w7) := HB6.out.trans hp.below
  clear hp HB6
  go_wp2
  go_ret
  exact ⟨rfl, HB7.out⟩

end Go.Proofs.Ytelpdmaphmfkiaa

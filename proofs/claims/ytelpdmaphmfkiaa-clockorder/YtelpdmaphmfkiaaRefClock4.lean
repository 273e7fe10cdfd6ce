/-
  The reference's answers til chapter 9: Next, Go.
-/
import Derived.Test.YtelpdmaphmfkiaaRefClock2
namespace Go.Proofs.Ytelpdmaphmfkiaa
open Go.RowKit

/-- The time is put into the clock. -/
theorem turned_now {w wr : World} {base B tC tT : Nat} {v0 v' : Value} {now til : Int} {L M : List TimerT} (h : Turned w wr base B tC tT v0 v' now M) (hto : 0 ≤ til ∧ til ≤ top62) (_ : L = M) :
    Turned w (wr.setCell ⟨B, 0, none⟩ (.int .i64 til)) base B tC tT v0 v' til M := by
  have hother : ∀ k, k ≠ B → (wr.setCell ⟨B, 0, none⟩ (.int .i64 til)).heap[k]? = wr.heap[k]? := fun k hk => by
    simp [World.setCell, Array.getElem?_modify, Ne.symm hk]
  obtain ⟨⟨c1, c2, c3, c4, c5, _⟩, ⟨g1, g2, g3, g4, g5⟩, hrow⟩ := h
  refine ⟨⟨c1, c2.set 0 _, own_stands c3 fun k hk => hother k (fun e => c4 (by rw [hk, e])), c4, c5, hto⟩, ⟨g1, g2, g3, ?_, fun k hk hne => ?_⟩, hrow⟩
  · simpa using g4
  · rw [hother k (fun e => hne (by rw [e])), g5 k hk hne]

def dueAt (L : List TimerT) (til : Int) : Bool := dueT L til
theorem dueT_cons {L : List TimerT} {til : Int} (h : 0 < L.length) : dueT L til = decide ((L.getD 0 noTimer).at_ ≤ til) := by
  cases L with
  | nil => simp at h
  | cons x r => rfl
theorem turned_refl {w : World} {base B tC tT : Nat} {v : Value} {now : Int} {L : List TimerT} (h : RClock w base B tC tT v now L) : Turned w w base B tC tT v v now L := ⟨h, ⟨rfl, rfl, rfl, Nat.le_refl _, fun _ _ _ => rfl⟩, .inl rfl⟩

set_option maxHeartbeats 4000000 in
theorem rGo_any (base B : Nat) (v : Value) (now : Int) (L : List TimerT) (til : Int) (w : World) (hc : RClock w base B 42 29 v now L) :
    Calls Try.prog 19 #[.pointer (some ⟨B, 0, none⟩), .int .i64 til] w fun e w' => e = .returned (.bool (goOK now L til)) ∧ Turned w w' base B 42 29 v v (if goOK now L til then til else now) L := by
  have ht := hc.timers
  obtain ⟨ao, cap, rfl⟩ := ht.shaped
  have hlen : L.length ≤ 9223372036854775807 := ht.row.2.1.1
  have HT : Hid (IsTimers w (.slice ao L.length cap) L) := ht
  have HC : Hid (RClock w base B 42 29 (.slice ao L.length cap) now L) := hc
  have cl : w.cell? ⟨B, 1, none⟩ = some (.slice ao L.length cap) := hc.box.cell 1
  have cn : w.cell? ⟨B, 0, none⟩ = some (.int .i64 now) := hc.box.cell 0
  have fn : w.frozen? ⟨B, 0, none⟩ = false := hc.box.frozen 0
  clear hc ht
  obtain ⟨R, hR⟩ : ∃ R, goOK now L til = R := ⟨_, rfl⟩
  rw [hR]
  have HR : Hid (goOK now L til = R) := hR
  clear hR
  obtain ⟨M, hM⟩ : ∃ M, (if R then til else now) = M := ⟨_, rfl⟩
  rw [hM]
  have HM : Hid ((if R then til else now) = M) := hM
  clear hM
  have HRef : Hid (Turned w w base B 42 29 (.slice ao L.length cap) (.slice ao L.length cap) now L) := turned_refl HC.out
  by_cases h1 : til < now
  · have HF : Hid (R = false) := by show R = _; rw [← HR.out]; unfold goOK; rw [decide_eq_false (by omega)]; rfl
    go_enter Try.func19, Try.ntmps19
    go_wp2
    go_ret
    exact ⟨by rw [HF.out]; rfl, by rw [← HM.out, HF.out]; exact HRef.out⟩
  by_cases h2 : (4611686018427387904 : Int) < til
  · have HF : Hid (R = false) := by show R = _; rw [← HR.out]; unfold goOK top62; rw [decide_eq_false (show ¬ til ≤ 4611686018427387904 by omega)]; simp
    go_enter Try.func19, Try.ntmps19
    go_wp2
    go_ret
    exact ⟨by rw [HF.out]; rfl, by rw [← HM.out, HF.out]; exact HRef.out⟩
  have hnow := HC.out.now_
  have HTo : Hid (Turned w (w.setCell ⟨B, 0, none⟩ (.int .i64 til)) base B 42 29 (.slice ao L.length cap) (.slice ao L.length cap) til L) := turned_now HRef.out ⟨by omega, by unfold top62; omega⟩ rfl
  have HGo : Hid (R = !dueT L til) := by show R = _; rw [← HR.out]; unfold goOK top62; rw [decide_eq_true (by omega), decide_eq_true (by omega)]; rfl
  clear hnow
  by_cases h3 : (0 : Int) < (L.length : Int)
  · obtain ⟨b, off, rfl, hbl, c0, c1, c2⟩ := HT.out.at 0 (by omega)
    have HD : Hid (dueT L til = decide ((L.getD 0 noTimer).at_ ≤ til)) := dueT_cons (by omega)
    generalize L.getD 0 noTimer = x at c0 c1 c2 HD
    have c0' : w.cell? ⟨b, off, none⟩ = some (.int .i64 x.at_) := by simpa using c0
    clear c0 c1 c2
    by_cases h4 : x.at_ ≤ til
    · have HF : Hid (R = false) := by show R = _; rw [HGo.out, HD.out, decide_eq_true h4]; rfl
      go_enter Try.func19, Try.ntmps19
      go_wp2
      go_ret
      exact ⟨by rw [HF.out]; rfl, by rw [← HM.out, HF.out]; exact HRef.out⟩
    · have HF : Hid (R = true) := by show R = _; rw [HGo.out, HD.out, decide_eq_false h4]; rfl
      go_enter Try.func19, Try.ntmps19
      go_wp2
      go_ret
      exact ⟨by rw [HF.out]; rfl, by rw [← HM.out, HF.out]; exact HTo.out⟩
  · have h0 : L = [] := List.eq_nil_of_length_eq_zero (by omega)
    have HF : Hid (R = true) := by show R = _; rw [HGo.out, h0]; rfl
    clear h0
    go_enter Try.func19, Try.ntmps19
    go_wp2
    go_ret
    exact ⟨by rw [HF.out]; rfl, by rw [← HM.out, HF.out]; exact HTo.out⟩

end Go.Proofs.Ytelpdmaphmfkiaa

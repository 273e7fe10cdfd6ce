/-
  Contracts of package clock: New, Now, the place of a timer, At, due, Go, All.
-/
import Derived.Test.YtelpdmaphmfkiaaClockRow
import Derived.Test.YtelpdmaphmfkiaaRefClock5
import Derived.Test.YtelpdmaphmfkiaaLessOne
import Derived.Test.YtelpdmaphmfkiaaSearchOne
import Derived.Test.YtelpdmaphmfkiaaClockMath
namespace Go.Proofs.Ytelpdmaphmfkiaa
open Go.RowKit

/-- Behind a call on the program's own clock: its block, its row's block and new blocks alone have turned; its row lies where it lay, or in a new block. -/
structure TurnedC (w w' : World) (base B tC tT : Nat) (v v' : Value) (now : Int) (L : List TimerT) : Prop where
  clock : RClock w' base B tC tT v' now L
  os : w'.os = w.os
  tape : w'.tape = w.tape
  output : w'.output = w.output
  size : w.heap.size ≤ w'.heap.size
  block : ∀ k, k < w.heap.size → k ≠ B → v.ownBlock ≠ some k → w'.heap[k]? = w.heap[k]?
  row : v'.ownBlock = v.ownBlock ∨ ∀ k, v'.ownBlock = some k → w.heap.size ≤ k

theorem turnedC_below {w w' : World} {base B tC tT : Nat} {v : Value} {now : Int} {L : List TimerT} (h : RClock w base B tC tT v now L) (hb : Below w.heap.size w w') : TurnedC w w' base B tC tT v v now L :=
  ⟨h.below hb, hb.os, hb.tape, hb.output, hb.size, fun k hk _ _ => hb.block k hk, .inl rfl⟩
theorem turnedC_of {w w' : World} {base B tC tT : Nat} {v v' : Value} {now : Int} {L : List TimerT} (h : Turned w w' base B tC tT v v' now L) : TurnedC w w' base B tC tT v v' now L :=
  ⟨h.clock, h.grown.os, h.grown.tape, h.grown.output, h.grown.size, fun k hk hne _ => h.grown.block k hk (by simp; exact hne), h.row⟩
theorem turnedC_trans {w w2 w' : World} {base B tC tT : Nat} {v0 v2 v' : Value} {now now' : Int} {M N : List TimerT} (h1 : TurnedC w w2 base B tC tT v0 v2 now M) (h2 : TurnedC w2 w' base B tC tT v2 v' now' N) : TurnedC w w' base B tC tT v0 v' now' N := by
  refine ⟨h2.clock, h2.os.trans h1.os, h2.tape.trans h1.tape, h2.output.trans h1.output, Nat.le_trans h1.size h2.size, fun k hk hB hv => ?_, ?_⟩
  · rw [h2.block k (Nat.lt_of_lt_of_le hk h1.size) hB (fun e => ?_), h1.block k hk hB hv]
    rcases h1.row with h | h
    · exact hv (h.symm.trans e)
    · have := h k e; omega
  · rcases h2.row with h | h
    · rw [h]; exact h1.row
    · exact .inr fun k hk => Nat.le_trans h1.size (h k hk)
/-- What was laid ahead stands in the new world. -/
theorem turnedC_ahead {w0 w w' : World} {base B tC tT : Nat} {v v' : Value} {now : Int} {L : List TimerT} (hb : Below w0.heap.size w0 w) (h : TurnedC w w' base B tC tT v v' now L) : TurnedC w0 w' base B tC tT v v' now L :=
  ⟨h.clock, h.os.trans hb.os, h.tape.trans hb.tape, h.output.trans hb.output, Nat.le_trans hb.size h.size, fun k hk hB hv => (h.block k (Nat.lt_of_lt_of_le hk hb.size) hB hv).trans (hb.block k hk), h.row.imp id fun h k hk => Nat.le_trans hb.size (h k hk)⟩
theorem RClock.lower {w : World} {base base' B tC tT : Nat} {v : Value} {now : Int} {L : List TimerT} (h : RClock w base B tC tT v now L) (hb : base' ≤ base) : RClock w base' B tC tT v now L :=
  ⟨Nat.le_trans hb h.ge, h.box, own_from h.row hb, h.ne, h.ok, h.now_⟩
/-- What the call owns alone has turned. -/
theorem TurnedC.from {w0 w w' : World} {base B tC tT : Nat} {v v' : Value} {now now' : Int} {L M : List TimerT} (hc : RClock w base B tC tT v now L) (h : TurnedC w w' base B tC tT v v' now' M) (hb : Below base w0 w) : Below base w0 w' :=
  hb.trans ⟨h.os, h.tape, h.output, h.size, fun k hk => h.block k (by have := hc.ge; have := hc.box.lt; omega) (by have := hc.ge; omega) (fun e => by have := own_base hc.row k e; omega)⟩
theorem TurnedC.box {w w' : World} {base B tC tT : Nat} {v v' : Value} {now : Int} {L : List TimerT} (h : TurnedC w w' base B tC tT v v' now L) {b t : Nat} {cs : Array Value} (hb : HasBox w b t cs) (hB : b ≠ B) (hv : v.ownBlock ≠ some b) : HasBox w' b t cs := (h.block b hb.lt hB hv).trans hb

set_option maxHeartbeats 1000000 in
theorem cnew_any (n : Int) (w : World) :
    Calls Try.prog 10 #[.int .i64 n] w fun e w' => e = .returned (.pointer (some ⟨w.heap.size, 0, none⟩)) ∧ RClock w' w.heap.size w.heap.size 55 29 nilW (clampT n) [] ∧ Below w.heap.size w w' := by
  have key : ∀ m : Int, clampT n = m → RClock (w.alloc (.cells #[.int .i64 m, nilW] 55)) w.heap.size w.heap.size 55 29 nilW (clampT n) [] := fun m hm =>
    ⟨Nat.le_refl _, by rw [hm]; exact hasBox_new w _ _, ⟨rfl, .inl ⟨rfl, rfl⟩⟩, by simp [Value.ownBlock], by simp, clampT_ok n⟩
  have HK : Hid (∀ m : Int, clampT n = m → RClock (w.alloc (.cells #[.int .i64 m, nilW] 55)) w.heap.size w.heap.size 55 29 nilW (clampT n) []) := key
  clear key
  by_cases h1 : (4611686018427387904 : Int) < n
  · have h2 : (0 : Int) < n := by omega
    go_enter Try.func10, Try.ntmps10
    go_wp2
    go_ret
    exact ⟨rfl, HK.out _ (by unfold clampT top62; rw [if_neg (by omega), if_pos h1]), (Below.refl _ _).alloc (Nat.le_refl _) _⟩
  · by_cases h2 : (0 : Int) < n
    · go_enter Try.func10, Try.ntmps10
      go_wp2
      go_ret
      exact ⟨rfl, HK.out _ (by unfold clampT top62; rw [if_neg (by omega), if_neg (by omega)]), (Below.refl _ _).alloc (Nat.le_refl _) _⟩
    · go_enter Try.func10, Try.ntmps10
      go_wp2
      all_goals
        go_ret
        exact ⟨rfl, HK.out _ (by unfold clampT top62; split <;> (try split) <;> omega), (Below.refl _ _).alloc (Nat.le_refl _) _⟩

set_option maxHeartbeats 1000000 in
theorem cnow_any (base B : Nat) (v : Value) (now : Int) (L : List TimerT) (w : World) (hc : RClock w base B 55 29 v now L) :
    Calls Try.prog 22 #[.pointer (some ⟨B, 0, none⟩)] w fun e w' => e = .returned (.int .i64 now) ∧ w' = w := by
  have cn : w.cell? ⟨B, 0, none⟩ = some (.int .i64 now) := hc.box.cell 0
  clear hc
  go_enter Try.func22, Try.ntmps22
  go_wp2
  go_ret
  exact ⟨rfl, rfl⟩

set_option maxHeartbeats 1000000 in
theorem call_any (base B : Nat) (v : Value) (now : Int) (L : List TimerT) (w : World) (hc : RClock w base B 55 29 v now L) (hlen : L.length ≤ 1000000) :
    Calls Try.prog 24 #[.pointer (some ⟨B, 0, none⟩)] w fun e w' => ∃ v', e = .returned v' ∧ w'.ownsRow w.heap.size 29 3 v' L.length (timerCells L) ∧ Below w.heap.size w w' := by
  obtain ⟨i0, hi, hz0, hz1, hz2⟩ := info_timer
  obtain ⟨ao, cap, rfl⟩ := hc.timers.shaped
  have HX : Hid (IsRow 3 w (.slice ao L.length cap) L.length (timerCells L)) := hc.timers.row
  have cl : w.cell? ⟨B, 1, none⟩ = some (.slice ao L.length cap) := hc.box.cell 1
  clear hc
  go_enter Try.func24, Try.ntmps24
  go_wp2_with (at_builtin; refine wpList_append_row rfl (.const nilW) (.tmp 8) 40 rfl w.heap.size 29 i0 _ 3 24 Try.underlying40 hi hz0 hz1 hz2 rfl (by decide) nilW 0 [] rfl (World.ownsRow_nil _ _ _ _) _ L.length _ rfl HX.out (timerCells_one _) (by unfold maxLen; omega) (by omega) (Nat.le_refl _) ?_)
  intro v' w5 hown hgrow hat
  have HO5 : Hid (w5.ownsRow w.heap.size 29 3 v' L.length (timerCells L)) := hown
  have HB5 : Hid (Below w.heap.size w w5) := (Below.refl _ _).grown hgrow (Nat.le_refl _) (fun k hk => by simp [Value.ownBlock] at hk)
  clear hown hgrow hat
  go_wp2
  go_ret
  exact ⟨v', rfl, HO5.out, HB5.out⟩

set_option maxHeartbeats 1000000 in
theorem cdue_any (base B : Nat) (v : Value) (now : Int) (L : List TimerT) (til : Int) (w : World) (hc : RClock w base B 55 29 v now L) (hlen : L.length ≤ 1000000) :
    Calls Try.prog 32 #[.pointer (some ⟨B, 0, none⟩), .int .i64 til] w fun e w' => e = .returned (.bool (dueT L til)) ∧ w' = w := by
  obtain ⟨ao, cap, rfl⟩ := hc.timers.shaped
  have HT : Hid (IsTimers w (.slice ao L.length cap) L) := hc.timers
  have cl : w.cell? ⟨B, 1, none⟩ = some (.slice ao L.length cap) := hc.box.cell 1
  clear hc
  by_cases h3 : (0 : Int) < (L.length : Int)
  · obtain ⟨b, off, rfl, hbl, c0, c1, c2⟩ := HT.out.at 0 (by omega)
    have HD : Hid (dueT L til = decide ((L.getD 0 noTimer).at_ ≤ til)) := dueT_cons (by omega)
    generalize L.getD 0 noTimer = x at c0 c1 c2 HD
    have c0' : w.cell? ⟨b, off, none⟩ = some (.int .i64 x.at_) := by simpa using c0
    clear c0 c1 c2
    go_enter Try.func32, Try.ntmps32
    go_wp2
    go_ret
    exact ⟨by rw [HD.out]; rfl, rfl⟩
  · have h0 : L = [] := List.eq_nil_of_length_eq_zero (by omega)
    have HF : Hid (dueT L til = false) := by show _ = _; rw [h0]; rfl
    clear h0
    go_enter Try.func32, Try.ntmps32
    go_wp2
    go_ret
    exact ⟨by rw [HF.out]; rfl, rfl⟩

/-- Where it stands, from the first one on; else -1. -/
def placeT (L : List TimerT) (kind id : Int) : Int := if L.findIdx (isT kind id) < L.length then (L.findIdx (isT kind id) : Nat) else -1
theorem placeT_hit {L : List TimerT} {kind id : Int} {k : Nat} (hk : k < L.length) (h : ∀ j, j < k → isT kind id (L.getD j noTimer) = false) (hh : isT kind id (L.getD k noTimer) = true) : placeT L kind id = k := by
  have e : L.findIdx (isT kind id) = k := by
    rw [List.findIdx_eq hk]
    have e1 : L.getD k noTimer = L[k] := by simp [hk]
    rw [e1] at hh
    refine ⟨hh, fun j hj => ?_⟩
    have := h j hj
    rwa [show L.getD j noTimer = L[j] by simp [show j < L.length by omega]] at this
  unfold placeT
  rw [e, if_pos hk]
theorem placeT_none {L : List TimerT} {kind id : Int} (h : ∀ j, j < L.length → isT kind id (L.getD j noTimer) = false) : placeT L kind id = -1 := by
  have e : L.findIdx (isT kind id) = L.length := by
    rw [List.findIdx_eq_length]
    intro x hx
    obtain ⟨j, hj, rfl⟩ := List.mem_iff_getElem.1 hx
    have := h j hj
    rwa [show L.getD j noTimer = L[j] by simp [hj]] at this
  unfold placeT
  rw [e, if_neg (by omega)]
theorem placeT_cases (L : List TimerT) (kind id : Int) : (placeT L kind id = -1 ∧ ∀ j, j < L.length → isT kind id (L.getD j noTimer) = false) ∨ ∃ k, k < L.length ∧ placeT L kind id = (k : Nat) ∧ (∀ j, j < k → isT kind id (L.getD j noTimer) = false) ∧ isT kind id (L.getD k noTimer) = true := by
  by_cases h : L.findIdx (isT kind id) < L.length
  · refine .inr ⟨_, h, by unfold placeT; rw [if_pos h], fun j hj => ?_, ?_⟩
    · have hjl : j < L.length := by omega
      rw [show L.getD j noTimer = L[j] by simp [hjl]]
      have := List.not_of_lt_findIdx hj
      simpa using this
    · rw [show L.getD (L.findIdx (isT kind id)) noTimer = L[L.findIdx (isT kind id)] by simp [h]]
      exact List.findIdx_getElem
  · refine .inl ⟨by unfold placeT; rw [if_neg h], fun j hj => ?_⟩
    rw [show L.getD j noTimer = L[j] by simp [hj]]
    have : j < L.findIdx (isT kind id) := by omega
    simpa using List.not_of_lt_findIdx this

set_option maxHeartbeats 1000000 in
/-- place's own function: 't.Kind == kind && t.Id == id'. -/
theorem place1_any (x : TimerT) (kind id : Int) (B1 B2 : Nat) (w : World) (h1 : w.cell? ⟨B1, 0, none⟩ = some (.int .i64 kind)) (h2 : w.cell? ⟨B2, 0, none⟩ = some (.int .i64 id)) :
    Calls Try.prog 37 (#[tval x] ++ #[.pointer (some ⟨B1, 0, none⟩), .pointer (some ⟨B2, 0, none⟩)]) w fun e w' => e = .returned (.bool (isT kind id x)) ∧ Below w.heap.size w w' := by
  have hB1 := World.block_lt_of_cell? _ _ h1
  have hB2 := World.block_lt_of_cell? _ _ h2
  have hn1 : B1 ≠ w.heap.size := by have : B1 < w.heap.size := hB1; omega
  have hn2 : B2 ≠ w.heap.size := by have : B2 < w.heap.size := hB2; omega
  obtain ⟨q, hq⟩ : ∃ q, isT kind id x = q := ⟨_, rfl⟩
  rw [hq]
  unfold isT at hq
  have HQ : Hid ((x.kind == kind && x.id == id) = q) := hq
  clear hq
  cases q1 : (x.kind == kind) with
  | false =>
    have HF : Hid (q = false) := by show q = _; rw [← HQ.out, q1]; rfl
    go_enter Try.func37, Try.ntmps37
    go_wp2
    go_ret
    exact ⟨by rw [HF.out]; rfl, (Below.refl _ _).alloc (Nat.le_refl _) _⟩
  | true =>
    have HF : Hid (q = (x.id == id)) := by show q = _; rw [← HQ.out, q1]; rfl
    go_enter Try.func37, Try.ntmps37
    go_wp2
    go_ret
    exact ⟨by rw [HF.out]; rfl, (Below.refl _ _).alloc (Nat.le_refl _) _⟩

set_option maxHeartbeats 1000000 in
theorem indexT_any (L : List TimerT) (kind id : Int) (B1 B2 : Nat) (v : Value) (w : World) (hv : IsTimers w v L) (hlen : L.length ≤ 1000000) (h1 : w.cell? ⟨B1, 0, none⟩ = some (.int .i64 kind)) (h2 : w.cell? ⟨B2, 0, none⟩ = some (.int .i64 id)) :
    Calls Try.prog 36 #[v, .func (.func 37) #[] #[.pointer (some ⟨B1, 0, none⟩), .pointer (some ⟨B2, 0, none⟩)]] w fun e w' => e = .returned (.int .i64 (placeT L kind id)) ∧ Below w.heap.size w w' := by
  obtain ⟨ao, cap, rfl⟩ := hv.shaped
  have hB1 := World.block_lt_of_cell? _ _ h1
  have hB2 := World.block_lt_of_cell? _ _ h2
  have HV : Hid (IsTimers w (.slice ao L.length cap) L) := hv
  have HC : Hid (∀ W, Below w.heap.size w W → W.cell? ⟨B1, 0, none⟩ = some (.int .i64 kind) ∧ W.cell? ⟨B2, 0, none⟩ = some (.int .i64 id)) := fun W h => ⟨(h.cell (p := ⟨B1, 0, none⟩) hB1).trans h1, (h.cell (p := ⟨B2, 0, none⟩) hB2).trans h2⟩
  have eg : ∀ args w, (callFunc 37 args).run Try.prog w = .ok (.enter 37 args) w := enters_of Try.func37 (by kernel_rfl) rfl
  clear hv h1 h2
  go_enter Try.func36, Try.ntmps36
  go_wp2
  go_loopw [8] (fun i wr => ∃ k : Nat, k ≤ L.length ∧ i = .int .i64 k ∧ (∀ j, j < k → isT kind id (L.getD j noTimer) = false) ∧ Below w.heap.size w wr) (fun i _ => L.length - (intOf i).toNat)
  case atStart => exact ⟨0, Nat.zero_le _, rfl, fun j h => by omega, Below.refl _ _⟩
  case round =>
    obtain ⟨k, hk, rfl, ht, hb⟩ := hrel
    have HT : Hid (∀ j, j < k → isT kind id (L.getD j noTimer) = false) := ht
    have HB : Hid (Below w.heap.size w wr) := hb
    clear ht hb
    by_cases hlt : k < L.length
    · obtain ⟨b, off, rfl, hbl, c0, c1, c2⟩ := (HV.out.below HB.out).at k hlt
      have HH : Hid (isT kind id (L.getD k noTimer) = true → placeT L kind id = k) := placeT_hit hlt HT.out
      have HN : Hid (isT kind id (L.getD k noTimer) = false → ∀ j, j < k + 1 → isT kind id (L.getD j noTimer) = false) := fun h j hj => by
        rcases Nat.lt_or_ge j k with h1 | h1
        · exact HT.out j h1
        · obtain rfl : j = k := by omega
          exact h
      have KF := place1_any (L.getD k noTimer) kind id B1 B2 wr (HC.out wr HB.out).1 (HC.out wr HB.out).2
      generalize L.getD k noTimer = x at c0 c1 c2 HH HN KF
      cases he : isT kind id x with
      | true =>
        rw [he] at KF
        have HF : Hid (placeT L kind id = k) := HH.out he
        clear HH HN he
        go_wp2_with (go_at_fn 37; refine KF.mono ?_; rintro e w' ⟨rfl, hb'⟩)
        go_ret
        exact ⟨by rw [HF.out]; rfl, HB.out.trans (hb'.mono HB.out.size)⟩
      | false =>
        rw [he] at KF
        have HF : Hid (∀ j, j < k + 1 → isT kind id (L.getD j noTimer) = false) := HN.out he
        clear HH HN he
        go_wp2_with (go_at_fn 37; refine KF.mono ?_; rintro e w' ⟨rfl, hb'⟩)
        go_roundw
        case rel => exact ⟨k + 1, by omega, by go_num, HF.out, HB.out.trans (hb'.mono HB.out.size)⟩
        case measure => simp [intOf]; omega
    · have HF : Hid (placeT L kind id = -1) := placeT_none fun j hj => HT.out j (by omega)
      go_wp2
      go_ret
      exact ⟨by rw [HF.out]; rfl, HB.out⟩

set_option maxHeartbeats 1000000 in
theorem cplace_any (base B : Nat) (v : Value) (now : Int) (L : List TimerT) (kind id : Int) (w : World) (hc : RClock w base B 55 29 v now L) (hlen : L.length ≤ 1000000) :
    Calls Try.prog 30 #[.pointer (some ⟨B, 0, none⟩), .int .i64 kind, .int .i64 id] w fun e w' => e = .returned (.tuple #[.int .i64 (placeT L kind id), .bool (decide (0 ≤ placeT L kind id))]) ∧ Below w.heap.size w w' := by
  obtain ⟨ao, cap, rfl⟩ := hc.timers.shaped
  have hBl : B < w.heap.size := hc.box.lt
  have hn1 : B ≠ w.heap.size := by omega
  have hn2 : B ≠ w.heap.size + 1 := by omega
  obtain ⟨W0, hW0⟩ : ∃ W0, W0 = (w.alloc (.cells #[.int .i64 kind] 3)).alloc (.cells #[.int .i64 id] 3) := ⟨_, rfl⟩
  have hB0 : Below w.heap.size w W0 := by rw [hW0]; exact ((Below.refl _ w).alloc (Nat.le_refl _) _).alloc (by simp) _
  have e1 : W0.cell? ⟨w.heap.size, 0, none⟩ = some (.int .i64 kind) := by rw [hW0]; simp
  have e2 : W0.cell? ⟨w.heap.size + 1, 0, none⟩ = some (.int .i64 id) := by rw [hW0]; simp
  have KI := indexT_any L kind id w.heap.size (w.heap.size + 1) (.slice ao L.length cap) W0 (hc.timers.below hB0) hlen e1 e2
  have HB0 : Hid (Below w.heap.size w W0) := hB0
  have cl : w.cell? ⟨B, 1, none⟩ = some (.slice ao L.length cap) := hc.box.cell 1
  have HW0 : Hid (W0 = (w.alloc (.cells #[.int .i64 kind] 3)).alloc (.cells #[.int .i64 id] 3)) := hW0
  generalize placeT L kind id = q at KI ⊢
  clear hc e1 e2 hB0 hW0
  go_enter Try.func30, Try.ntmps30
  go_wp2_with fail
  rw [← HW0.out]
  refine KI.mono ?_
  rintro e w1 ⟨rfl, hb⟩
  have HB1 : Hid (Below w.heap.size w w1) := HB0.out.trans (hb.mono HB0.out.size)
  clear hb KI
  go_wp2
  go_ret2
  exact ⟨rfl, HB1.out⟩

set_option maxHeartbeats 1000000 in
theorem cat_any (base B : Nat) (v : Value) (now : Int) (L : List TimerT) (kind id : Int) (w : World) (hc : RClock w base B 55 29 v now L) (hlen : L.length ≤ 1000000) :
    Calls Try.prog 20 #[.pointer (some ⟨B, 0, none⟩), .int .i64 kind, .int .i64 id] w fun e w' => e = .returned (.tuple #[.int .i64 (whenT L kind id).1, .bool (whenT L kind id).2]) ∧ Below w.heap.size w w' := by
  have KP := cplace_any base B v now L kind id w hc hlen
  obtain ⟨ao, cap, rfl⟩ := hc.timers.shaped
  have HC : Hid (RClock w base B 55 29 (.slice ao L.length cap) now L) := hc
  clear hc
  obtain ⟨q, hq⟩ : ∃ q, placeT L kind id = q := ⟨_, rfl⟩
  rw [hq] at KP
  have HQ : Hid (placeT L kind id = q) := hq
  clear hq
  rcases placeT_cases L kind id with ⟨h1, h2⟩ | ⟨k, hk, h1, h2, h3⟩
  · have HF : Hid (whenT L kind id = (0, false)) := whenT_none h2
    have hq : q = -1 := by rw [← HQ.out, h1]
    subst hq
    clear h1 h2
    go_enter Try.func20, Try.ntmps20
    go_wp2_with fail
    refine KP.mono ?_
    rintro e w1 ⟨rfl, hb⟩
    have HB1 : Hid (Below w.heap.size w w1) := hb
    clear hb KP
    go_wp2
    go_ret2
    exact ⟨by rw [HF.out]; rfl, HB1.out⟩
  · have HF : Hid (whenT L kind id = ((L.getD k noTimer).at_, true)) := whenT_hit hk h2 h3
    have hq : q = (k : Int) := by rw [← HQ.out, h1]
    subst hq
    clear h1 h2 h3
    go_enter Try.func20, Try.ntmps20
    go_wp2_with fail
    refine KP.mono ?_
    rintro e w1 ⟨rfl, hb⟩
    have HB1 : Hid (Below w.heap.size w w1) := hb
    have hc1 := HC.out.below hb
    have cl : w1.cell? ⟨B, 1, none⟩ = some (.slice ao L.length cap) := hc1.box.cell 1
    obtain ⟨b, off, rfl, hbl, c0, c1, c2⟩ := hc1.timers.at k hk
    have hkI : (k : Int) < (L.length : Int) := by omega
    generalize L.getD k noTimer = x at c0 c1 c2 HF
    clear hb KP hc1 c1 c2
    go_wp2
    go_ret2
    exact ⟨by rw [HF.out]; rfl, HB1.out⟩

set_option maxHeartbeats 4000000 in
theorem cgo_any (base B : Nat) (v : Value) (now : Int) (L : List TimerT) (til : Int) (w : World) (hc : RClock w base B 55 29 v now L) (hlen : L.length ≤ 1000000) :
    Calls Try.prog 18 #[.pointer (some ⟨B, 0, none⟩), .int .i64 til] w fun e w' => e = .returned (.bool (goOK now L til)) ∧ TurnedC w w' base B 55 29 v v (if goOK now L til then til else now) L := by
  have KD := cdue_any base B v now L til w hc hlen
  have HC : Hid (RClock w base B 55 29 v now L) := hc
  have cn : w.cell? ⟨B, 0, none⟩ = some (.int .i64 now) := hc.box.cell 0
  have fn : w.frozen? ⟨B, 0, none⟩ = false := hc.box.frozen 0
  clear hc
  obtain ⟨R, hR⟩ : ∃ R, goOK now L til = R := ⟨_, rfl⟩
  rw [hR]
  have HR : Hid (goOK now L til = R) := hR
  clear hR
  obtain ⟨M, hM⟩ : ∃ M, (if R then til else now) = M := ⟨_, rfl⟩
  rw [hM]
  have HM : Hid ((if R then til else now) = M) := hM
  clear hM
  have HRef : Hid (TurnedC w w base B 55 29 v v now L) := turnedC_of (turned_refl HC.out)
  by_cases h1 : til < now
  · have HF : Hid (R = false) := by show R = _; rw [← HR.out]; unfold goOK; rw [decide_eq_false (by omega)]; rfl
    go_enter Try.func18, Try.ntmps18
    go_wp2
    go_ret
    exact ⟨by rw [HF.out]; rfl, by rw [← HM.out, HF.out]; exact HRef.out⟩
  by_cases h2 : (4611686018427387904 : Int) < til
  · have HF : Hid (R = false) := by show R = _; rw [← HR.out]; unfold goOK top62; rw [decide_eq_false (show ¬ til ≤ 4611686018427387904 by omega)]; simp
    go_enter Try.func18, Try.ntmps18
    go_wp2
    go_ret
    exact ⟨by rw [HF.out]; rfl, by rw [← HM.out, HF.out]; exact HRef.out⟩
  have hnow := HC.out.now_
  have HTo : Hid (TurnedC w (w.setCell ⟨B, 0, none⟩ (.int .i64 til)) base B 55 29 v v til L) := turnedC_of (turned_now (turned_refl HC.out) ⟨by omega, by unfold top62; omega⟩ rfl)
  have HGo : Hid (R = !dueT L til) := by show R = _; rw [← HR.out]; unfold goOK top62; rw [decide_eq_true (by omega), decide_eq_true (by omega)]; rfl
  clear hnow
  cases hd : dueT L til with
  | true =>
    have HF : Hid (R = false) := by show R = _; rw [HGo.out, hd]; rfl
    rw [hd] at KD
    clear hd
    go_enter Try.func18, Try.ntmps18
    go_wp2_with (go_at_call 32; refine KD.mono ?_; rintro e w1 ⟨rfl, rfl⟩)
    go_ret
    exact ⟨by rw [HF.out]; rfl, by rw [← HM.out, HF.out]; exact HRef.out⟩
  | false =>
    have HF : Hid (R = true) := by show R = _; rw [HGo.out, hd]; rfl
    rw [hd] at KD
    clear hd
    go_enter Try.func18, Try.ntmps18
    go_wp2_with (go_at_call 32; refine KD.mono ?_; rintro e w1 ⟨rfl, rfl⟩)
    go_ret
    exact ⟨by rw [HF.out]; rfl, by rw [← HM.out, HF.out]; exact HTo.out⟩

end Go.Proofs.Ytelpdmaphmfkiaa

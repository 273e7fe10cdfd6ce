/-
  Contracts of package clock: Cut, Next, ahead.
-/
import Derived.Test.YtelpdmaphmfkiaaClock1
namespace Go.Proofs.Ytelpdmaphmfkiaa
open Go.RowKit

theorem cutT_none {L : List TimerT} {kind id : Int} (h : ∀ j, j < L.length → isT kind id (L.getD j noTimer) = false) : cutT L kind id = L ∧ hasT L kind id = false := by
  have hx : ∀ x ∈ L, isT kind id x = false := fun x hx => by
    obtain ⟨j, hj, rfl⟩ := List.mem_iff_getElem.1 hx
    have := h j hj
    rwa [show L.getD j noTimer = L[j] by simp [hj]] at this
  refine ⟨?_, ?_⟩
  · unfold cutT
    rw [List.filter_eq_self]
    intro x h
    rw [hx x h]; rfl
  · unfold hasT
    rw [List.any_eq_false]
    intro x h
    rw [hx x h]; decide
theorem cutT_hit {L : List TimerT} {kind id : Int} {k : Nat} (ho : L.Pairwise fun a b => ¬ (a.kind = b.kind ∧ a.id = b.id)) (hk : k < L.length) (hh : isT kind id (L.getD k noTimer) = true) : cutT L kind id = L.take k ++ L.drop (k + 1) ∧ hasT L kind id = true := by
  induction L generalizing k with
  | nil => simp at hk
  | cons x r ih =>
    obtain ⟨o1, o2⟩ := List.pairwise_cons.1 ho
    cases k with
    | zero =>
      simp only [List.getD_cons_zero] at hh
      have hr : ∀ y ∈ r, isT kind id y = false := fun y hy => by
        cases he : isT kind id y with
        | false => rfl
        | true =>
          have h1 := (isT_iff _ _ _).1 hh
          have h2 := (isT_iff _ _ _).1 he
          exact absurd ⟨h1.1.trans h2.1.symm, h1.2.trans h2.2.symm⟩ (o1 y hy)
      refine ⟨?_, by simp [hasT, hh]⟩
      unfold cutT
      rw [List.filter_cons, if_neg (by simp [hh])]
      simp only [List.take_zero, List.drop_succ_cons, List.drop_zero, List.nil_append]
      rw [List.filter_eq_self]
      intro y hy
      rw [hr y hy]; rfl
    | succ k =>
      have hkr : k < r.length := by simpa using hk
      have hhr : isT kind id (r.getD k noTimer) = true := by simpa using hh
      obtain ⟨e1, e2⟩ := ih o2 hkr hhr
      have hx : isT kind id x = false := by
        cases he : isT kind id x with
        | false => rfl
        | true =>
          have h1 := (isT_iff _ _ _).1 he
          have h2 := (isT_iff _ _ _).1 hhr
          refine absurd ⟨h1.1.trans h2.1.symm, h1.2.trans h2.2.symm⟩ (o1 _ ?_)
          rw [show r.getD k noTimer = r[k] by simp [hkr]]
          exact List.getElem_mem _
      refine ⟨?_, by unfold hasT at e2 ⊢; rw [List.any_cons, e2, Bool.or_true]⟩
      unfold cutT at e1 ⊢
      rw [List.filter_cons, if_pos (by simp [hx]), e1]
      simp

/-- A row that the call made of the clock's own is put into the clock. -/
theorem turnedC_store {w wr : World} {base B tC tT : Nat} {v0 v' : Value} {now : Int} {L M : List TimerT} (hc : RClock w base B tC tT v0 now L) (hg : w.grownBy wr v0.ownBlock) (ho : wr.ownsRow base tT 3 v' M.length (timerCells M)) (hv : v'.ownBlock = v0.ownBlock ∨ ∀ k, v'.ownBlock = some k → w.heap.size ≤ k) (hok : ∀ t ∈ M, inT t) :
    TurnedC w (wr.setCell ⟨B, 1, none⟩ v') base B tC tT v0 v' now M := by
  have hBl := hc.box.lt
  have hne : v'.ownBlock ≠ some B := by
    rcases hv with h | h
    · rw [h]; exact hc.ne
    · intro e; have := h B e; omega
  have hother : ∀ k, k ≠ B → (wr.setCell ⟨B, 1, none⟩ v').heap[k]? = wr.heap[k]? := fun k hk => by
    simp [World.setCell, Array.getElem?_modify, Ne.symm hk]
  refine ⟨⟨hc.ge, (hc.box.grown hg (fun e => hc.ne e.symm)).set 1 v', own_stands ho fun k hk => hother k (fun e => hne (by rw [hk, e])), hne, hok, hc.now_⟩, hg.os, hg.tape, hg.output, ?_, fun k hk hkB hkv => ?_, hv⟩
  · have := hg.size; simpa using this
  · rw [hother k hkB, hg.block k hk (fun e => hkv e.symm)]

theorem own_len {w : World} {base e : Nat} {v : Value} {now : Int} {L : List TimerT} {B tC : Nat} (h : RClock w base B tC e v now L) : w.ownsRow base e 3 v L.length (timerCells L) := h.row

set_option maxHeartbeats 4000000 in
theorem ccut_any (base B : Nat) (v : Value) (now : Int) (L : List TimerT) (kind id : Int) (w : World) (hc : RClock w base B 55 29 v now L) (hlen : L.length ≤ 1000000) (hone : L.Pairwise fun a b => ¬ (a.kind = b.kind ∧ a.id = b.id)) :
    Calls Try.prog 14 #[.pointer (some ⟨B, 0, none⟩), .int .i64 kind, .int .i64 id] w fun e w' => e = .returned (.bool (hasT L kind id)) ∧ ∃ v', TurnedC w w' base B 55 29 v v' now (cutT L kind id) := by
  have KP := cplace_any base B v now L kind id w hc hlen
  have HC : Hid (RClock w base B 55 29 v now L) := hc
  clear hc
  obtain ⟨q, hq⟩ : ∃ q, placeT L kind id = q := ⟨_, rfl⟩
  rw [hq] at KP
  have HQ : Hid (placeT L kind id = q) := hq
  clear hq
  rcases placeT_cases L kind id with ⟨h1, h2⟩ | ⟨k, hk, h1, h2, h3⟩
  · have HF : Hid (cutT L kind id = L ∧ hasT L kind id = false) := cutT_none h2
    have hq : q = -1 := by rw [← HQ.out, h1]
    subst hq
    clear h1 h2 hone
    go_enter Try.func14, Try.ntmps14
    go_wp2_with fail
    refine KP.mono ?_
    rintro e w1 ⟨rfl, hb⟩
    have HB1 : Hid (Below w.heap.size w w1) := hb
    clear hb KP
    go_wp2
    go_ret
    exact ⟨by rw [HF.out.2]; rfl, v, by rw [HF.out.1]; exact turnedC_below HC.out HB1.out⟩
  · have HF : Hid (cutT L kind id = L.take k ++ L.drop (k + 1) ∧ hasT L kind id = true) := cutT_hit hone hk h3
    have hq : q = (k : Int) := by rw [← HQ.out, h1]
    subst hq
    clear h1 h2 h3 hone
    go_enter Try.func14, Try.ntmps14
    go_wp2_with fail
    refine KP.mono ?_
    rintro e w1 ⟨rfl, hb⟩
    have HB1 : Hid (Below w.heap.size w w1) := hb
    have HC1 : Hid (RClock w1 base B 55 29 v now L) := HC.out.below hb
    have cl : w1.cell? ⟨B, 1, none⟩ = some v := HC1.out.box.cell 1
    have KD := deleteT_any L k base v w1 HC1.out.row hk hlen
    have hcast : ((k + 1 : Nat) : Int) = (k : Int) + 1 := by omega
    rw [hcast] at KD
    have hw1 : IntKind.i64.wrap ((k : Int) + 1) = (k : Int) + 1 := by rw [IntKind.wrap_i64]; omega
    clear hb KP hcast
    go_wp2_with fail
    refine KD.mono ?_
    rintro e w2 ⟨v', rfl, ho, hg, hv⟩
    obtain ⟨o', c', rfl⟩ := (isRow_own ho).shaped
    obtain ⟨m', hm'⟩ : ∃ m, (L.take k ++ L.drop (k + 1)).length = m := ⟨_, rfl⟩
    rw [hm'] at ho hv ⊢
    have HT : Hid (TurnedC w1 (w2.setCell ⟨B, 1, none⟩ (.slice o' m' c')) base B 55 29 v (.slice o' m' c') now (L.take k ++ L.drop (k + 1))) :=
      turnedC_store HC1.out hg (by rw [hm']; exact ho) (.inl hv) fun t ht => HC1.out.ok t (by
        rcases List.mem_append.1 ht with h | h
        · exact List.mem_of_mem_take h
        · exact List.mem_of_mem_drop h)
    have hb2 := HC1.out.box.grown hg (fun e => HC1.out.ne e.symm)
    have cl2 : w2.cell? ⟨B, 1, none⟩ = some v := hb2.cell 1
    have fr2 : w2.frozen? ⟨B, 1, none⟩ = false := hb2.frozen 1
    clear ho hg hv KD hb2 hm'
    go_wp2
    go_ret
    exact ⟨by rw [HF.out.2]; rfl, .slice o' m' c', by rw [HF.out.1]; exact turnedC_ahead HB1.out HT.out⟩

theorem ltT_less (a b : TimerT) : ltT a b = if a.at_ = b.at_ then ltK (a.kind, a.id) (b.kind, b.id) else decide (a.at_ < b.at_) := by
  unfold ltT ltK
  split
  · rename_i h
    by_cases h2 : a.kind = b.kind
    · simp [h, h2]
    · simp [h, h2]
  · rename_i h
    simp [h]

set_option maxHeartbeats 2000000 in
theorem cahead_any (a b : TimerT) (w : World) :
    Calls Try.prog 27 #[tval a, tval b] w fun e w' => e = .returned (.bool (ltT a b)) ∧ Below w.heap.size w w' := by
  obtain ⟨a1, a2, a3⟩ := a
  obtain ⟨b1, b2, b3⟩ := b
  have HB : Hid (∀ o1 o2, Below w.heap.size w ((w.alloc o1).alloc o2)) := fun o1 o2 => ((Below.refl _ _).alloc (Nat.le_refl _) _).alloc (by simp) _
  have hR := ltT_less ⟨a1, a2, a3⟩ ⟨b1, b2, b3⟩
  simp only at hR
  generalize ltT ⟨a1, a2, a3⟩ ⟨b1, b2, b3⟩ = R at hR
  have HR : Hid (R = if a1 = b1 then ltK (a2, a3) (b2, b3) else decide (a1 < b1)) := hR
  clear hR
  by_cases e1 : a1 = b1
  · have HF : Hid (R = ltK (a2, a3) (b2, b3)) := by show R = _; rw [HR.out, if_pos e1]
    have q1 : (a1 != b1) = false := by rw [bne_eq_false_iff_eq]; exact e1
    have KL := fun W => less_any (a2, a3) (b2, b3) W
    unfold kval at KL
    simp only at KL
    clear e1 HR
    go_enter Try.func27, Try.ntmps27
    go_wp2_with fail
    refine (KL _).mono ?_
    rintro e w1 ⟨rfl, hb⟩
    have HB1 : Hid (Below w.heap.size w w1) := (HB.out _ _).trans (hb.mono (HB.out _ _).size)
    clear hb KL
    go_wp2
    go_ret
    exact ⟨by rw [HF.out]; rfl, HB1.out⟩
  · have HF : Hid (R = decide (a1 < b1)) := by show R = _; rw [HR.out, if_neg e1]
    have q1 : (a1 != b1) = true := by rw [bne_iff_ne]; exact e1
    clear e1 HR
    go_enter Try.func27, Try.ntmps27
    go_wp2
    go_ret
    exact ⟨by rw [HF.out]; rfl, HB.out _ _⟩

end Go.Proofs.Ytelpdmaphmfkiaa

/-
  Contracts of package clock: Next; and all of them at a clock that there isn't.
-/
import Derived.Test.YtelpdmaphmfkiaaClock3
namespace Go.Proofs.Ytelpdmaphmfkiaa
open Go.RowKit

theorem turnedC_now {w wr : World} {base B tC tT : Nat} {v0 v' : Value} {now til : Int} {M : List TimerT} (h : TurnedC w wr base B tC tT v0 v' now M) (hto : 0 ≤ til ∧ til ≤ top62) :
    TurnedC w (wr.setCell ⟨B, 0, none⟩ (.int .i64 til)) base B tC tT v0 v' til M := by
  have hother : ∀ k, k ≠ B → (wr.setCell ⟨B, 0, none⟩ (.int .i64 til)).heap[k]? = wr.heap[k]? := fun k hk => by
    simp [World.setCell, Array.getElem?_modify, Ne.symm hk]
  obtain ⟨⟨c1, c2, c3, c4, c5, _⟩, g1, g2, g3, g4, g5, hrow⟩ := h
  refine ⟨⟨c1, c2.set 0 _, own_stands c3 fun k hk => hother k (fun e => c4 (by rw [hk, e])), c4, c5, hto⟩, g1, g2, g3, ?_, fun k hk hne hv => ?_, hrow⟩
  · simpa using g4
  · rw [hother k hne, g5 k hk hne hv]

set_option maxRecDepth 100000 in
set_option maxHeartbeats 8000000 in
theorem cnext_any (base B : Nat) (v : Value) (now : Int) (L : List TimerT) (til : Int) (w : World) (hc : RClock w base B 55 29 v now L) (hlen : L.length ≤ 1000000) (hle : ∀ t ∈ L, 0 ≤ t.at_ ∧ t.at_ ≤ top62) :
    Calls Try.prog 16 #[.pointer (some ⟨B, 0, none⟩), .int .i64 til] w fun e w' => e = .returned (.tuple #[tval (nextT now L til).1, .bool (nextT now L til).2.1]) ∧ ∃ v', TurnedC w w' base B 55 29 v v' (nextT now L til).2.2.1 (nextT now L til).2.2.2 := by
  obtain ⟨ao, cap, rfl⟩ := hc.timers.shaped
  have HC : Hid (RClock w base B 55 29 (.slice ao L.length cap) now L) := hc
  have hBl : B < w.heap.size := hc.box.lt
  have hneB : B ≠ w.heap.size := by omega
  have hneB1 : B ≠ w.heap.size + 1 := by omega
  have KD := cdue_any base B (.slice ao L.length cap) now L til (w.alloc (.cells (tcells noTimer) 29)) (hc.alloc _) hlen
  clear hc
  obtain ⟨R, hR⟩ : ∃ R, nextT now L til = R := ⟨_, rfl⟩
  rw [hR]
  have HR : Hid (nextT now L til = R) := hR
  clear hR
  cases hd : dueT L til with
  | false =>
    have HF : Hid (R = (noTimer, false, now, L)) := by show R = _; rw [← HR.out]; unfold nextT; rw [hd]; rfl
    rw [hd] at KD
    clear hd
    go_enter Try.func16, Try.ntmps16
    go_wp2_with (go_at_call 32; refine KD.mono ?_; rintro e w1 ⟨rfl, rfl⟩)
    go_returns
    exact ⟨by rw [HF.out], .slice ao L.length cap, by rw [HF.out]; exact turnedC_below HC.out ((Below.refl _ _).alloc (Nat.le_refl _) _)⟩
  | true =>
    have hpos : 0 < L.length := by
      obtain ⟨x, r, h, _⟩ := (dueT_iff _ _).1 hd
      rw [h]; simp
    have HF : Hid (R = (L.getD 0 noTimer, true, (L.getD 0 noTimer).at_, L.drop 1)) := by show R = _; rw [← HR.out]; unfold nextT; rw [hd]; rfl
    rw [hd] at KD
    have HIn : Hid (0 ≤ (L.getD 0 noTimer).at_ ∧ (L.getD 0 noTimer).at_ ≤ top62) := by
      have e : L.getD 0 noTimer = L[0] := by simp [hpos]
      show _ ∧ _
      rw [e]; exact hle _ (List.getElem_mem _)
    have cl : w.cell? ⟨B, 1, none⟩ = some (.slice ao L.length cap) := HC.out.box.cell 1
    obtain ⟨b, off, rfl, hbl, c0, c1, c2⟩ := HC.out.timers.at 0 hpos
    generalize L.getD 0 noTimer = x at c0 c1 c2 HF HIn
    have x0 : w.cell? ⟨b, off, none⟩ = some (.int .i64 x.at_) := by simpa using c0
    have x1 : w.cell? ⟨b, off + 1, none⟩ = some (.int .i64 x.kind) := by simpa using c1
    have x2 : w.cell? ⟨b, off + 2, none⟩ = some (.int .i64 x.id) := by simpa using c2
    have hneb : b ≠ w.heap.size := by omega
    have hneb1 : b ≠ w.heap.size + 1 := by omega
    have hltI : (0 : Int) < (L.length : Int) := by omega
    have HXX : Hid (Below w.heap.size w ((w.alloc (.cells (tcells noTimer) 29)).alloc (.cells (tcells x) 29))) := ((Below.refl _ _).alloc (Nat.le_refl _) _).alloc (by simp) _
    have KDel := deleteT_any L 0 base (.slice (some ⟨b, off, none⟩) L.length cap) ((w.alloc (.cells (tcells noTimer) 29)).alloc (.cells (tcells x) 29)) (HC.out.below HXX.out).row hpos hlen
    have hd1 : (L.take 0 ++ L.drop (0 + 1)) = L.drop 1 := by simp
    rw [hd1] at KDel
    clear c0 c1 c2 HR hd hle hd1
    go_enter Try.func16, Try.ntmps16
    go_wp2_with (go_at_call 32; refine KD.mono ?_; rintro e w1 ⟨rfl, rfl⟩)
    refine KDel.mono ?_
    rintro e w3 ⟨v', rfl, hown, hgrow, hat⟩
    obtain ⟨vo, vc, rfl⟩ := (isRow_own hown).shaped
    have HHv : Hid ((Value.slice (some ⟨b, off, none⟩) L.length cap).ownBlock = some b) := rfl
    have HY : Hid (HasBox w3 w.heap.size 29 (tcells noTimer)) := ((hasBox_new w 29 (tcells noTimer)).alloc _).grown hgrow (by rw [HHv.out]; simp; omega)
    have HXb : Hid (HasBox w3 (w.heap.size + 1) 29 (tcells x)) := (hasBox_new' (w.alloc _) 29 (w.heap.size + 1) (tcells x) (by simp)).grown hgrow (by rw [HHv.out]; simp; omega)
    obtain ⟨m, hm⟩ : ∃ m, (L.drop 1).length = m := ⟨_, rfl⟩
    have hC2 := HC.out.below HXX.out
    have HT3 : Hid (TurnedC w (w3.setCell ⟨B, 1, none⟩ (.slice vo (L.drop 1).length vc)) base B 55 29 (.slice (some ⟨b, off, none⟩) L.length cap) (.slice vo (L.drop 1).length vc) now (L.drop 1)) :=
      turnedC_ahead HXX.out (turnedC_store hC2 hgrow hown (.inl hat) fun t ht => HC.out.ok t (List.mem_of_mem_drop ht))
    have hb3 := hC2.box.grown hgrow (fun e => hC2.ne e.symm)
    have clr : w3.cell? ⟨B, 1, none⟩ = some (.slice (some ⟨b, off, none⟩) L.length cap) := hb3.cell 1
    have fr : w3.frozen? ⟨B, 1, none⟩ = false := hb3.frozen 1
    have HAt : Hid ((Value.slice vo (L.drop 1).length vc).ownBlock = some b) := hat
    rw [hm] at HT3 HAt ⊢
    clear hown hgrow hat x0 x1 x2 hm hC2 hb3 KDel KD
    go_upto_region 5 with fail
    generalize hW4 : w3.setCell _ _ = W4
    rw [hW4] at HT3
    have HY4 : Hid (HasBox W4 w.heap.size 29 (tcells noTimer)) := by show HasBox _ _ _ _; rw [← hW4]; exact HY.out.setOther _ (by simp; omega) _
    have HX4 : Hid (HasBox W4 (w.heap.size + 1) 29 (tcells x)) := by show HasBox _ _ _ _; rw [← hW4]; exact HXb.out.setOther _ (by simp; omega) _
    have cx : W4.cell? ⟨w.heap.size + 1, 0, none⟩ = some (.int .i64 x.at_) := HX4.out.cell 0
    have cn : W4.cell? ⟨B, 0, none⟩ = some (.int .i64 now) := HT3.out.clock.box.cell 0
    have fn : W4.frozen? ⟨B, 0, none⟩ = false := HT3.out.clock.box.frozen 0
    clear hW4 clr fr HY HXb
    go_upto_region 6 with fail
    generalize hW5 : W4.setCell _ _ = W5
    have HT5 : Hid (TurnedC w W5 base B 55 29 (.slice (some ⟨b, off, none⟩) L.length cap) (.slice vo m vc) x.at_ (L.drop 1)) := by
      show TurnedC _ _ _ _ _ _ _ _ _ _
      rw [← hW5]
      exact turnedC_now HT3.out HIn.out
    have HY5 : Hid (HasBox W5 w.heap.size 29 (tcells noTimer)) := by show HasBox _ _ _ _; rw [← hW5]; exact HY4.out.setOther _ (by simp; omega) _
    have HX5 : Hid (HasBox W5 (w.heap.size + 1) 29 (tcells x)) := by show HasBox _ _ _ _; rw [← hW5]; exact HX4.out.setOther _ (by simp; omega) _
    clear hW5 cx cn fn HY4 HX4 HT3
    go_wp2_with (first | (refine wpList_load_row rfl 29 (.tmp 6) rfl (w.heap.size + 1) rfl 29 (tcells x) (0, 0) _ HX5.out Try.underlying29 rfl sizeTimer ?_) | (refine wpList_store_row rfl 29 (.tmp 4) (.tmp 35) rfl w.heap.size (tcells x) rfl rfl 29 _ HY5.out sizeTimer rfl (by simp [Value.oneCell']) ?_))
    refine bodyPost_ret (results_cell_tmp_row rfl _ _ w.heap.size 29 (tcells x) _ _ rfl HY5.out.row Try.underlying29 rfl sizeTimer) rfl ?_
    refine ⟨by rw [HF.out]; rfl, .slice vo m vc, ?_⟩
    rw [HF.out]
    obtain ⟨hcl, g1, g2, g3, g4, g5, hrow⟩ := HT5.out
    have hother : ∀ k, k ≠ w.heap.size → (W5.setRow w.heap.size (tcells x)).heap[k]? = W5.heap[k]? := fun k hk => setRow_other _ _ _ _ hk
    refine ⟨hcl.stands (hother B (by omega)) fun k hk => hother k fun e => ?_, g1, g2, g3, ?_, fun k hk hne hv => ?_, hrow⟩
    · subst e
      have h := HAt.out
      rw [hk] at h
      simp only [Option.some.injEq] at h
      omega
    · simpa [World.setRow] using g4
    · rw [hother k (by omega), g5 k hk hne hv]

section
variable (w : World) (n : Int)
theorem nset_any (t : TimerT) : Calls Try.prog 12 #[.pointer none, tval t] w fun e w' => e = .returned (.bool false) ∧ Below w.heap.size w w' := by
  go_enter Try.func12, Try.ntmps12
  go_wp2
  go_quiet (fail)
  go_wp2
  go_ret
  exact ⟨rfl, below_drews (((Below.refl _ _).alloc (Nat.le_refl _) _).alloc (by simp) _) _⟩
theorem nplace_any (kind id : Int) : Calls Try.prog 30 #[.pointer none, .int .i64 kind, .int .i64 id] w fun e w' => e = .returned (.tuple #[.int .i64 0, .bool false]) ∧ Below w.heap.size w w' := by
  go_enter Try.func30, Try.ntmps30
  go_wp2
  go_ret2
  exact ⟨rfl, ((Below.refl _ _).alloc (Nat.le_refl _) _).alloc (by simp) _⟩
theorem ncut_any (kind id : Int) : Calls Try.prog 14 #[.pointer none, .int .i64 kind, .int .i64 id] w fun e w' => e = .returned (.bool false) ∧ Below w.heap.size w w' := by
  have KP := nplace_any w kind id
  go_enter Try.func14, Try.ntmps14
  go_wp2_with fail
  refine KP.mono ?_
  rintro e w1 ⟨rfl, hb⟩
  have HB1 : Hid (Below w.heap.size w w1) := hb
  clear hb KP
  go_wp2
  go_ret
  exact ⟨rfl, HB1.out⟩
theorem nat_any (kind id : Int) : Calls Try.prog 20 #[.pointer none, .int .i64 kind, .int .i64 id] w fun e w' => e = .returned (.tuple #[.int .i64 0, .bool false]) ∧ Below w.heap.size w w' := by
  have KP := nplace_any w kind id
  go_enter Try.func20, Try.ntmps20
  go_wp2_with fail
  refine KP.mono ?_
  rintro e w1 ⟨rfl, hb⟩
  have HB1 : Hid (Below w.heap.size w w1) := hb
  clear hb KP
  go_wp2
  go_ret2
  exact ⟨rfl, HB1.out⟩
theorem nnext_any : Calls Try.prog 16 #[.pointer none, .int .i64 n] w fun e w' => e = .returned (.tuple #[tval noTimer, .bool false]) ∧ Below w.heap.size w w' := by
  go_enter Try.func16, Try.ntmps16
  go_wp2
  go_returns
  exact ⟨rfl, (Below.refl _ _).alloc (Nat.le_refl _) _⟩
theorem ngo_any : Calls Try.prog 18 #[.pointer none, .int .i64 n] w fun e w' => e = .returned (.bool false) ∧ w' = w := by
  go_enter Try.func18, Try.ntmps18
  go_wp2
  go_ret
  exact ⟨rfl, rfl⟩
theorem nnow_any : Calls Try.prog 22 #[.pointer none] w fun e w' => e = .returned (.int .i64 0) ∧ w' = w := by
  go_enter Try.func22, Try.ntmps22
  go_wp2
  go_ret
  exact ⟨rfl, rfl⟩
theorem nall_any : Calls Try.prog 24 #[.pointer none] w fun e w' => e = .returned nilW ∧ w' = w := by
  go_enter Try.func24, Try.ntmps24
  go_wp2
  go_ret
  exact ⟨rfl, rfl⟩
end

end Go.Proofs.Ytelpdmaphmfkiaa

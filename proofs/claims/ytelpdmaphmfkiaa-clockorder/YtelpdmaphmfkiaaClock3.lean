/-
  Contracts of package clock: Set.
-/
import Derived.Test.YtelpdmaphmfkiaaClock2
import Derived.Test.YtelpdmaphmfkiaaRefClock3
namespace Go.Proofs.Ytelpdmaphmfkiaa
open Go.RowKit

theorem ltT_asymm {a b : TimerT} (h : ltT a b = true) : ltT b a = false := by
  cases h2 : ltT b a with
  | false => rfl
  | true => have := ltT_trans h h2; rw [ltT_irrefl] at this; cases this
theorem aheadT_sorted {M : List TimerT} {t : TimerT} (hs : M.Pairwise fun a b => ltT a b = true) (hn : ∀ x ∈ M, x ≠ t) : ∀ i, i < M.length → ltT t (M.getD i noTimer) = decide (aheadT M t ≤ i) := by
  induction M with
  | nil => intro i h; simp at h
  | cons x r ih =>
    obtain ⟨s1, s2⟩ := List.pairwise_cons.1 hs
    have ihr := ih s2 fun y hy => hn y (by simp [hy])
    have hx := hn x (by simp)
    intro i hi
    cases hxt : ltT x t with
    | true =>
      have ha : aheadT (x :: r) t = aheadT r t + 1 := by simp [aheadT, hxt]
      rw [ha]
      cases i with
      | zero => simp [ltT_asymm hxt]
      | succ i =>
        have := ihr i (by simpa using hi)
        simpa using this
    | false =>
      have ha : aheadT (x :: r) t = 0 := by simp [aheadT, hxt]
      rw [ha]
      have htx : ltT t x = true := by
        rcases ltT_tri t x with h | h | h
        · exact h
        · exact absurd h.symm hx
        · rw [hxt] at h; cases h
      cases i with
      | zero => simpa using htx
      | succ i =>
        have hir : i < r.length := by simpa using hi
        have : ltT t (r.getD i noTimer) = true := by
          rw [show r.getD i noTimer = r[i] by simp [hir]]
          exact ltT_trans htx (s1 _ (List.getElem_mem _))
        simpa using this

set_option maxHeartbeats 2000000 in
/-- Set's own function: 'ahead(t, c.row[i])', t and c in their boxes. -/
theorem cset1_any (p q base B : Nat) (v : Value) (now : Int) (L : List TimerT) (t : TimerT) (i : Nat) (w : World) (hc : RClock w base B 55 29 v now L) (hi : i < L.length)
    (hp : HasBox w p 29 (tcells t)) (hq : w.cell? ⟨q, 0, none⟩ = some (.pointer (some ⟨B, 0, none⟩))) :
    Calls Try.prog 26 (#[.int .i64 i] ++ #[.pointer (some ⟨p, 0, none⟩), .pointer (some ⟨q, 0, none⟩)]) w fun e w' => e = .returned (.bool (ltT t (L.getD i noTimer))) ∧ Below w.heap.size w w' := by
  obtain ⟨ao, cap, rfl⟩ := hc.timers.shaped
  obtain ⟨b, off, rfl, hbl, g0, g1, g2⟩ := hc.timers.at i hi
  have hbB : w.cell? ⟨B, 1, none⟩ = some (.slice (some ⟨b, off, none⟩) L.length cap) := hc.box.cell 1
  generalize L.getD i noTimer = x at g0 g1 g2 ⊢
  have hpl := hp.lt
  have hql := World.block_lt_of_cell? _ _ hq
  have hBl := hc.box.lt
  have : Nonempty (WB w.heap.size w) := ⟨⟨w, Below.refl _ _⟩⟩
  have c0 : ∀ s : WB w.heap.size w, s.w.cell? ⟨b, off + i * 3, none⟩ = some (.int .i64 x.at_) := fun s => (s.h.cell (p := ⟨b, off + i * 3, none⟩) hbl).trans g0
  have c1 : ∀ s : WB w.heap.size w, s.w.cell? ⟨b, off + i * 3 + 1, none⟩ = some (.int .i64 x.kind) := fun s => (s.h.cell (p := ⟨b, off + i * 3 + 1, none⟩) hbl).trans g1
  have c2 : ∀ s : WB w.heap.size w, s.w.cell? ⟨b, off + i * 3 + 2, none⟩ = some (.int .i64 x.id) := fun s => (s.h.cell (p := ⟨b, off + i * 3 + 2, none⟩) hbl).trans g2
  have d0 : ∀ s : WB w.heap.size w, s.w.cell? ⟨p, 0, none⟩ = some (.int .i64 t.at_) := fun s => (s.h.cell (p := ⟨p, 0, none⟩) hpl).trans (hp.cell 0)
  have d1 : ∀ s : WB w.heap.size w, s.w.cell? ⟨p, 1, none⟩ = some (.int .i64 t.kind) := fun s => (s.h.cell (p := ⟨p, 1, none⟩) hpl).trans (hp.cell 1)
  have d2 : ∀ s : WB w.heap.size w, s.w.cell? ⟨p, 2, none⟩ = some (.int .i64 t.id) := fun s => (s.h.cell (p := ⟨p, 2, none⟩) hpl).trans (hp.cell 2)
  have e0 : ∀ s : WB w.heap.size w, s.w.cell? ⟨q, 0, none⟩ = some (.pointer (some ⟨B, 0, none⟩)) := fun s => (s.h.cell (p := ⟨q, 0, none⟩) hql).trans hq
  have e1 : ∀ s : WB w.heap.size w, s.w.cell? ⟨B, 1, none⟩ = some (.slice (some ⟨b, off, none⟩) L.length cap) := fun s => (s.h.cell (p := ⟨B, 1, none⟩) hBl).trans hbB
  have hls : ∀ s : WB w.heap.size w, Calls Try.prog 27 #[tval t, tval x] s.w fun e w' => e = .returned (.bool (ltT t x)) ∧ Below s.w.heap.size s.w w' := fun s => cahead_any t x s.w
  have hiI : (i : Int) < (L.length : Int) := by omega
  generalize ltT t x = lt at hls ⊢
  clear hc g0 g1 g2 hp hq hbB
  go_enter Try.func26, Try.ntmps26
  go_wp2
  refine wp_region_below w.heap.size w (by kernel_rfl) (by kernel_rfl) (Below.refl _ _) ?_
  repeat (go_big_quiet_step (first
    | (go_at_call 27; exact calls_below (Nat.le_refl _) (hls _))))
  refine wpQuiet_nil ?_
  rintro _ ⟨s, rfl⟩
  have HB4 : Hid (Below w.heap.size w s.w) := s.h
  go_wp2
  go_ret
  exact ⟨rfl, HB4.out⟩

set_option maxRecDepth 100000 in
set_option maxHeartbeats 16000000 in
theorem cset_any (base B : Nat) (v : Value) (now : Int) (L : List TimerT) (t : TimerT) (w : World) (hc : RClock w base B 55 29 v now L) (hlen : L.length ≤ 1000000) (hgd : GoodC now L) (ht0 : inT t) :
    Calls Try.prog 12 #[.pointer (some ⟨B, 0, none⟩), tval t] w fun e w' => e = .returned (.bool (setOK now t)) ∧ ∃ v', TurnedC w w' base B 55 29 v v' now (setT now L t) := by
  have HC : Hid (RClock w base B 55 29 v now L) := hc
  have hBl : B < w.heap.size := hc.box.lt
  have hneB : B ≠ w.heap.size := by omega
  have hneB1 : B ≠ w.heap.size + 1 := by omega
  have cn : w.cell? ⟨B, 0, none⟩ = some (.int .i64 now) := hc.box.cell 0
  have HG : Hid (GoodC now L) := hgd
  clear hc hgd
  obtain ⟨R, hR⟩ : ∃ R, setOK now t = R := ⟨_, rfl⟩
  obtain ⟨RL, hRL⟩ : ∃ RL, setT now L t = RL := ⟨_, rfl⟩
  rw [hR, hRL]
  have HR : Hid (setOK now t = R) := hR
  have HRL : Hid (setT now L t = RL) := hRL
  clear hR hRL
  by_cases h1 : t.at_ < now
  · have hs : setOK now t = false := by unfold setOK; rw [decide_eq_false (by omega)]; rfl
    have HF : Hid (R = false ∧ RL = L) := ⟨by rw [← HR.out, hs], by rw [← HRL.out]; unfold setT; rw [hs]; rfl⟩
    clear hs
    go_enter Try.func12, Try.ntmps12
    go_wp2
    go_quiet (fail)
    go_wp2
    go_ret
    exact ⟨by rw [HF.out.1]; rfl, _, by rw [HF.out.2]; exact turnedC_below HC.out (below_drews (((Below.refl _ _).alloc (Nat.le_refl _) _).alloc (by simp) _) _)⟩
  by_cases h2 : (4611686018427387904 : Int) < t.at_
  · have hs : setOK now t = false := by unfold setOK top62; rw [decide_eq_false (show ¬ t.at_ ≤ 4611686018427387904 by omega), Bool.and_false]
    have HF : Hid (R = false ∧ RL = L) := ⟨by rw [← HR.out, hs], by rw [← HRL.out]; unfold setT; rw [hs]; rfl⟩
    clear hs
    go_enter Try.func12, Try.ntmps12
    go_wp2
    go_quiet (fail)
    go_wp2
    go_ret
    exact ⟨by rw [HF.out.1]; rfl, _, by rw [HF.out.2]; exact turnedC_below HC.out (below_drews (((Below.refl _ _).alloc (Nat.le_refl _) _).alloc (by simp) _) _)⟩
  have hs : setOK now t = true := by unfold setOK top62; rw [decide_eq_true (by omega), decide_eq_true (by omega)]; rfl
  have HF : Hid (R = true ∧ RL = putT (cutT L t.kind t.id) t) := ⟨by rw [← HR.out, hs], by rw [← HRL.out]; unfold setT; rw [hs]; rfl⟩
  clear hs HR HRL
  have HIt : Hid (inT t) := ht0
  clear ht0
  go_enter Try.func12, Try.ntmps12
  go_wp2
  go_quiet (fail)
  rename_i nq
  generalize hW1 : World.drewN _ nq = W1
  have HB1 : Hid (Below w.heap.size w W1) := by show Below _ _ _; rw [← hW1]; exact below_drews (((Below.refl _ _).alloc (Nat.le_refl _) _).alloc (by simp) _) _
  have HX1 : Hid (HasBox W1 (w.heap.size + 1) 29 (tcells t)) := by
    show HasBox _ _ _ _; rw [← hW1]; exact (hasBox_new' _ _ _ _ (by simp)).below (below_drews (Below.refl _ _) _)
  have HP1 : Hid (HasBox W1 w.heap.size 24 #[.pointer (some ⟨B, 0, none⟩)]) := by
    show HasBox _ _ _ _; rw [← hW1]; exact ((hasBox_new' w _ _ _ rfl).alloc _).below (below_drews (Below.refl _ _) _)
  clear hW1
  have k0 : W1.cell? ⟨w.heap.size, 0, none⟩ = some (.pointer (some ⟨B, 0, none⟩)) := HP1.out.cell 0
  have k1 : W1.cell? ⟨w.heap.size + 1, 1, none⟩ = some (.int .i64 t.kind) := HX1.out.cell 1
  have k2 : W1.cell? ⟨w.heap.size + 1, 2, none⟩ = some (.int .i64 t.id) := HX1.out.cell 2
  clear cn
  go_wp2_with fail
  refine (ccut_any base B _ now L t.kind t.id W1 (HC.out.below HB1.out) hlen HG.out.one).mono ?_
  rintro e w2 ⟨rfl, v2, hT⟩
  have hMl : (cutT L t.kind t.id).length ≤ 1000000 := Nat.le_trans (cutT_length _ _ _) hlen
  have hsM : (cutT L t.kind t.id).Pairwise fun a b => ltT a b = true := (HG.out.cut _ _).sorted
  have hnM : ∀ x ∈ cutT L t.kind t.id, x ≠ t := fun x hx e => by
    subst e
    exact (mem_cutT.1 hx).2 ⟨rfl, rfl⟩
  generalize cutT L t.kind t.id = M at hT hMl HF hsM hnM
  obtain ⟨ma, mc, rfl⟩ := hT.clock.timers.shaped
  have hT2 : TurnedC w w2 base B 55 29 v (.slice ma M.length mc) now M := turnedC_ahead HB1.out hT
  have hvB : ∀ b, w.heap.size ≤ b → v.ownBlock ≠ some b := fun b hb e => by have := (HC.out.row.lt b e).2; omega
  have HX2 : Hid (HasBox w2 (w.heap.size + 1) 29 (tcells t)) := hT.box HX1.out (by omega) (hvB _ (by omega))
  have HP2 : Hid (HasBox w2 w.heap.size 24 #[.pointer (some ⟨B, 0, none⟩)]) := hT.box HP1.out (by omega) (hvB _ (by omega))
  have HT2 : Hid (TurnedC w w2 base B 55 29 v (.slice ma M.length mc) now M) := hT2
  have HneM : Hid (∀ b, w.heap.size ≤ b → b < W1.heap.size → (Value.slice ma M.length mc).ownBlock ≠ some b) := fun b hb hb1 e => by
    rcases hT.row with h | h
    · exact hvB b hb (h.symm.trans e)
    · have := h b e; omega
  clear hT k0 k1 k2 hT2
  obtain ⟨k, hkk⟩ : ∃ k, aheadT M t = k := ⟨_, rfl⟩
  have hk : k ≤ M.length := by rw [← hkk]; exact aheadT_le M t
  have hp := aheadT_sorted hsM hnM
  rw [hkk] at hp
  have HKA : Hid (aheadT M t = k) := hkk
  clear hkk hsM hnM
  have KS := search_any 26 #[.pointer (some ⟨w.heap.size + 1, 0, none⟩), .pointer (some ⟨w.heap.size, 0, none⟩)] M.length k (fun i => ltT t (M.getD i noTimer)) w2 (enters_of Try.func26 (by kernel_rfl) rfl) hMl hk hp
    (fun W hW i hi => cset1_any (w.heap.size + 1) w.heap.size base B (.slice ma M.length mc) now M t i W (HT2.out.clock.below hW) hi (HX2.out.below hW) ((HP2.out.below hW).cell 0))
  have cB : w2.cell? ⟨B, 1, none⟩ = some (.slice ma M.length mc) := HT2.out.clock.box.cell 1
  have k0 : w2.cell? ⟨w.heap.size, 0, none⟩ = some (.pointer (some ⟨B, 0, none⟩)) := HP2.out.cell 0
  clear hp
  go_wp2_with fail
  refine KS.mono ?_
  rintro e W ⟨rfl, hbW⟩
  have HCl : Hid (∀ W', Below W.heap.size W W' → RClock W' base B 55 29 (.slice ma M.length mc) now M) := fun W' q => HT2.out.clock.below (hbW.trans (q.mono hbW.size))
  have HXl : Hid (∀ W', Below W.heap.size W W' → HasBox W' (w.heap.size + 1) 29 (tcells t)) := fun W' q => HX2.out.below (hbW.trans (q.mono hbW.size))
  have HPl : Hid (∀ W', Below W.heap.size W W' → HasBox W' w.heap.size 24 #[.pointer (some ⟨B, 0, none⟩)]) := fun W' q => HP2.out.below (hbW.trans (q.mono hbW.size))
  have HneW : Hid ((Value.slice ma M.length mc).ownBlock ≠ some W.heap.size) := fun e => by have := (HT2.out.clock.row.lt _ e).2; have := hbW.size; omega
  have HBW : Hid (Below w2.heap.size w2 W) := hbW
  have HS7 : Hid (∀ W', Below W.heap.size W W' → W'.cell? ⟨B, 1, none⟩ = some (.slice ma M.length mc) ∧ W'.cell? ⟨w.heap.size, 0, none⟩ = some (.pointer (some ⟨B, 0, none⟩)) ∧ W'.cell? ⟨w.heap.size + 1, 0, none⟩ = some (.int .i64 t.at_) ∧ W'.cell? ⟨w.heap.size + 1, 1, none⟩ = some (.int .i64 t.kind) ∧ W'.cell? ⟨w.heap.size + 1, 2, none⟩ = some (.int .i64 t.id)) := fun W' q => ⟨(HCl.out W' q).box.cell 1, (HPl.out W' q).cell 0, (HXl.out W' q).cell 0, (HXl.out W' q).cell 1, (HXl.out W' q).cell 2⟩
  clear KS hbW cB k0
  go_wp2_with fail
  refine wp_region_split 9 (fun W' => W'.cell? ⟨B, 1, none⟩ = some (.slice ma M.length mc) ∧ W'.cell? ⟨w.heap.size, 0, none⟩ = some (.pointer (some ⟨B, 0, none⟩)) ∧ W'.cell? ⟨w.heap.size + 1, 0, none⟩ = some (.int .i64 t.at_) ∧ W'.cell? ⟨w.heap.size + 1, 1, none⟩ = some (.int .i64 t.kind) ∧ W'.cell? ⟨w.heap.size + 1, 2, none⟩ = some (.int .i64 t.id)) (by kernel_rfl) (by kernel_rfl) (HS7.out _ (Below.refl _ _).drew) (fun hS0 => ?_)
  simp only [List.take_succ_cons, List.take_zero, List.drop_succ_cons, List.drop_zero]
  refine takeH (i := 0) (v := .pointer (some ⟨B, 0, none⟩)) rfl (by kernel_rfl) (by kernel_rfl) (by kernel_rfl) (fun _ _ _ h => h) (Or.inl ⟨by rfl, ?_⟩) hS0 ?_
  · intro wS hSw
    go_simp
  go_frame
  refine takeH (i := 1) (v := .pointer (some ⟨B, 0, none⟩)) rfl (by kernel_rfl) (by kernel_rfl) (by kernel_rfl) (fun _ _ _ h => h) (Or.inl ⟨by rfl, ?_⟩) hS0 ?_
  · intro wS hSw
    go_simp
  go_frame
  refine takeH (i := 2) (v := .pointer (some ⟨B, 0, none⟩)) rfl (by kernel_rfl) (by kernel_rfl) (by kernel_rfl) (fun _ _ _ h => h) (Or.inl ⟨by rfl, ?_⟩) hS0 ?_
  · intro wS hSw
    go_simp
  go_frame
  refine takeH (i := 3) (v := .pointer (some ⟨B, 1, none⟩)) rfl (by kernel_rfl) (by kernel_rfl) (by kernel_rfl) (fun _ _ _ h => h) (Or.inl ⟨by rfl, ?_⟩) hS0 ?_
  · intro wS hSw
    go_simp
  go_frame
  refine takeH (i := 4) (v := .slice ma M.length mc) rfl (by kernel_rfl) (by kernel_rfl) (by kernel_rfl) (fun _ _ _ h => h) (Or.inl ⟨by rfl, ?_⟩) hS0 ?_
  · intro wS hSw
    go_simp
  go_frame
  refine takeH (i := 5) (v := .int .i64 (k : Nat)) rfl (by kernel_rfl) (by kernel_rfl) (by kernel_rfl) (fun _ _ _ h => h) (Or.inl ⟨by rfl, ?_⟩) hS0 ?_
  · intro wS hSw
    go_simp
  go_frame
  refine takeH (i := 6) (v := tval t) rfl (by kernel_rfl) (by kernel_rfl) (by kernel_rfl) (fun _ _ _ h => h) (Or.inl ⟨by rfl, ?_⟩) hS0 ?_
  · intro wS hSw
    go_simp
  go_frame
  refine wpAnyH_ready (rs := [7]) (by kernel_rfl) (by simp) ?_
  refine readyH_cons rfl (fun K hK => ?_) AllReadyH.nil
  go_simp
  generalize hW4 : (W.alloc (.cells #[.int .i64 t.at_, .int .i64 t.kind, .int .i64 t.id] 29)).drew = w4
  have HB4 : Hid (Below W.heap.size W w4) := by show Below _ _ _; rw [← hW4]; exact ((Below.refl _ _).alloc (Nat.le_refl _) _).drew
  have HX4 : Hid (HasBox w4 W.heap.size 29 (tcells t)) := by show HasBox _ _ _ _; rw [← hW4]; exact (hasBox_new' W _ _ _ rfl).below (Below.refl _ _).drew
  clear hW4
  refine hK.out _ _ (HS7.out _ HB4.out) (fun hS4 => ?_)
  clear hK K
  refine wpAnyH_ready (rs := [8]) (by kernel_rfl) (by simp) ?_
  refine readyH_cons rfl (fun K hK => ?_) AllReadyH.nil
  go_simp
  have hC4 := HCl.out _ HB4.out
  refine (insertT_any M k base W.heap.size t (.slice ma M.length mc) w4 hC4.row hk hMl (by have := hC4.ge; have := hC4.box.lt; omega) HX4.out HneW.out).mono ?_
  rintro e w5 ⟨v5, rfl, ho, hg, hv⟩
  obtain ⟨o5, c5, rfl⟩ := (isRow_own ho).shaped
  obtain ⟨m5, hm5⟩ : ∃ m, (M.take k ++ t :: M.drop k).length = m := ⟨_, rfl⟩
  rw [hm5] at ho hv ⊢
  have hb5 := hC4.box.grown hg (fun e => hC4.ne e.symm)
  have hx5 := (HXl.out _ HB4.out).grown hg (fun e => HneM.out (w.heap.size + 1) (by omega) (HX1.out.lt) e.symm)
  have hp5 := (HPl.out _ HB4.out).grown hg (fun e => HneM.out w.heap.size (Nat.le_refl _) (HP1.out.lt) e.symm)
  have HT5 : Hid (TurnedC w4 (w5.setCell ⟨B, 1, none⟩ (.slice o5 m5 c5)) base B 55 29 (.slice ma M.length mc) (.slice o5 m5 c5) now (M.take k ++ t :: M.drop k)) :=
    turnedC_store hC4 hg (by rw [hm5]; exact ho) (hv.imp id fun h k e => by rw [h] at e; cases e; exact Nat.le_refl _) fun x hx => by
      rcases List.mem_append.1 hx with h | h
      · exact hC4.ok x (List.mem_of_mem_take h)
      · rcases List.mem_cons.1 h with rfl | h
        · exact HIt.out
        · exact hC4.ok x (List.mem_of_mem_drop h)
  have c5B : w5.cell? ⟨B, 1, none⟩ = some (.slice ma M.length mc) := hb5.cell 1
  have f5 : w5.frozen? ⟨B, 1, none⟩ = false := hb5.frozen 1
  refine hK.out _ _ ⟨c5B, hp5.cell 0, hx5.cell 0, hx5.cell 1, hx5.cell 2⟩ (fun hS5 => ?_)
  clear hK K
  refine wpAnyH_done (by kernel_rfl) ?_ _
  clear hS0 hS4 hS5 hC4 ho hg hv hb5 hx5 hp5 hm5
  unfold afterHead
  have HZ : Hid (RL = M.take k ++ t :: M.drop k) := by show _ = _; rw [HF.out.2]; unfold putT; rw [HKA.out]
  go_wp2
  all_goals (go_ret; exact ⟨by rw [HF.out.1]; rfl, .slice o5 m5 c5, by rw [HZ.out]; exact turnedC_trans HT2.out (turnedC_ahead (HBW.out.trans (HB4.out.mono HBW.out.size)) HT5.out)⟩)

end Go.Proofs.Ytelpdmaphmfkiaa

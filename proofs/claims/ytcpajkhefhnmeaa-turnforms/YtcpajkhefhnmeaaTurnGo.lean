/-
  The contract of package turn's Turn, as landed.
-/
import Derived.Test.YtcpajkhefhnmeaaTurnSpan
namespace Go.Proofs.Ytcpajkhefhnmeaa
open Go.RowKit Go.Shelf

attribute [local go_sem] Oper.semAt_some

theorem alloc_cell {w : World} {p : Addr} {v : Value} (o : Obj) (h : w.cell? p = some v) : (w.alloc o).cell? p = some v :=
  (World.cell?_of_block (Below.heap_alloc w o p.block (World.block_lt_of_cell? w p h))).trans h

set_option maxRecDepth 100000 in
set_option maxHeartbeats 2000000 in
theorem turn1_own (n f : Int) (hn0 : -9223372036854775808 ≤ n) (hn : n ≤ 9223372036854775807) (B n₀ : Nat) (w : World) (hw : B + 1 < w.heap.size)
    (c1 : w.cell? ⟨B, 0, none⟩ = some (.int .i64 n)) (c2 : w.cell? ⟨B + 1, 0, none⟩ = some (.int .i64 f)) (m : Nat) (hm : 3 ≤ m) :
    SeqOwn m Try.prog 14 #[.pointer (some ⟨B, 0, none⟩), .pointer (some ⟨B + 1, 0, none⟩)] encI n₀ (turnV n f) w := by
  intro l J Jx E₀ W hW hJ hJx hY h0
  have d1 := (hW.cell (p := ⟨B, 0, none⟩) (by show B < _; omega)).trans c1
  have d2 := (hW.cell (p := ⟨B + 1, 0, none⟩) hw).trans c2
  have HY : Hid _ := hY
  clear hY
  have hBW : B + 1 < W.heap.size := by have := hW.size; omega
  refine callsIn_of_wp_marks Try.func14 rfl trivial ?_ rfl
  simp only [Try.ntmps14, List.size_toArray, List.length_cons, List.length_nil, Nat.reduceAdd, Nat.reduceSub, Array.replicate_succ, Array.replicate_zero, List.push_toArray, List.append_toArray, List.nil_append, List.cons_append]
  have e1 : (W.alloc (.cells #[.func (.yield l) #[] #[]] 38)).cell? ⟨B, 0, none⟩ = some (.int .i64 n) := alloc_cell _ d1
  have e2 : (W.alloc (.cells #[.func (.yield l) #[] #[]] 38)).cell? ⟨B + 1, 0, none⟩ = some (.int .i64 f) := alloc_cell _ d2
  by_cases hn1 : n < 1
  · gi_wp2
    refine ⟨_, results_none rfl _ _ _, ⟨_, rfl⟩, .inl ⟨E₀, ?_⟩⟩
    rw [show turnV n f = [] by unfold turnV; rw [show n.toNat = 0 by omega]; rfl]
    exact hJ.new _ h0
  · have hn' : 1 ≤ n := by omega
    have hlen := turnV_length n f
    have hdr : 0 ≤ drawV f n ∧ drawV f n < n := by
      unfold drawV; rw [if_neg (by omega)]
      exact ⟨Int.emod_nonneg _ (by omega), Int.emod_lt_of_pos _ (by omega)⟩
    have HSp : Hid _ := turnV_split n f hn'
    have HYl : Hid ((turnV n f).length = n.toNat) := hlen
    clear hlen
    generalize turnV n f = X at HY HSp HYl ⊢
    generalize hdd : drawV f n = d at hdr HSp
    have hl1 := spanV_length d n
    have hl2 := spanV_length 0 d
    gi_wp2
    refine ⟨trivial, fun h => (by simp [Fence.wide] at h), (callsIn_wide.2 (place_any n f _ hn' hn)).mono ?_⟩
    rintro e w' ⟨rfl, hw'⟩
    rw [hw', hdd]
    gi_wp2
    refine ⟨trivial, fun h => (by simp [Fence.wide] at h), (callsIn_wide.2 (span_any d n _ (by omega) hn)).mono ?_⟩
    rintro e w1 ⟨v1, rfl, ⟨g, lb, rfl, hent, hseq⟩, hb1⟩
    have hs1 : W.heap.size + 1 ≤ w1.heap.size := by have := hb1.size; simpa using this
    have bY : Boxed w1 W.heap.size 38 (.func (.yield l) #[] #[]) := boxed_below (Boxed.new W _ _) hb1
    have j1 : J E₀ [] w1 := hJ.below (hJ.new _ h0) hb1
    have hno : ∀ b, W.heap.size ≤ b ∧ b < w1.heap.size → ¬ E₀ b := fun b hb h => by have := hJ.lt h0 h; omega
    clear e1 e2 d1 d2 h0
    gi_wp2
    refine wpIn_rangeFunc_ownG rfl (by omega) (gf := g) (lb := lb) rfl trivial hent (hseq (m - 1) (by omega)) keepsIv_t (keepsIv_b (Nat.le_refl _)) (Below.refl _ _) (fun _ => rfl)
      (fun pre Wc => (∃ E, J E pre Wc ∧ ∀ b, (W.heap.size ≤ b ∧ b < w1.heap.size) → ¬ E b) ∧ (Boxed Wc W.heap.size 38 (.func (.yield l) #[] #[]) ∧ w1.heap.size ≤ Wc.heap.size))
      (fun c pp Wc => (∃ E, Jx E pp Wc ∧ ∀ b, False → ¬ E b) ∧ c = .ret)
      (OwnFrom.and (hJ.ownFrom (by omega) (fun pre => pre) _) (OwnFrom.and (Own.from (boxed_own _ _ (fun _ : List Int => _)) _) (fun _ _ _ _ hs hg _ => Nat.le_trans hs hg.size)))
      (fun c => OwnFrom.and (hJx.ownFrom (by omega) (fun pre => pre) _) (fun _ _ _ _ hs _ _ => hs))
      ⟨⟨E₀, j1, hno⟩, bY, Nat.le_refl _⟩
      (fun x => { tmps := #[.func (.yield l) #[] #[], .pointer (some ⟨B, 0, none⟩), .pointer (some ⟨B + 1, 0, none⟩), .pointer (some ⟨W.heap.size, 0, none⟩), .int .i64 d, .int .i64 x, undef, .int .i64 n, .bool false, .int .i64 n, .int .i64 f, .int .i64 d, .int .i64 d, .int .i64 n, .func (.func g) #[] lb, .int .i64 x, undef, undef, undef, undef, undef, undef, undef, undef, undef, undef, undef], defers := [] }) ?assign ?body ?done ?stop
    case assign =>
      intro l x W K hK
      unfold encI
      gi_wp2
      exact hK
    case body =>
      rintro l' pre x Wc ⟨⟨E, hE, hM⟩, hbx, hs⟩ hlt
      have hcell := hbx.cell
      obtain ⟨fn, tmps, assign, body, hy, hR⟩ := yield_mine (m' := m - 1 - 1 - 1) hJ HY.out _ x hE (fun b hb => ⟨hb.1, by omega, hM b hb⟩) (by rw [HYl.out]; omega)
      unfold encI at hy
      gi_wp2
      refine ⟨fun h => (by simp [Fence.wide] at h), RoundIn.mono (F := Fence.wide.inRound l') hR ?_⟩
      rintro e W3 ⟨⟨hkf, hmk⟩, E', hE', (⟨rfl, hj3⟩ | ⟨rfl, hjx3⟩)⟩
      · gi_wp2
        exact ⟨⟨hkf.size, fun k o h1 h2 h3 => hkf.same k o (by omega) h2 h3⟩, fun b h1 h2 => hmk b ⟨by simp at h1; omega, h2⟩, ⟨E', hj3, hE'⟩, (hmk _ ⟨Nat.le_refl _, by omega⟩).trans hbx, Nat.le_trans hs hkf.size⟩
      · gi_wp2
        exact ⟨⟨hkf.size, fun k o h1 h2 h3 => hkf.same k o (by omega) h2 h3⟩, ⟨E', hjx3, fun _ h => h.elim⟩, rfl⟩
    case stop =>
      rintro D c pp Wd hD hpre ⟨⟨E, hE, _⟩, rfl⟩ hK
      gi_wp2
      refine ⟨by simp, .inl ⟨_, _, rfl, run_takeDeferred hK, ?_⟩⟩
      refine ⟨_, results_none rfl _ _ _, ⟨_, rfl⟩, .inr ⟨E, pp, ?_, hJx.put _ hE (by omega) (hJx.none hE hK rfl)⟩⟩
      rw [HSp.out]
      exact hpre.trans (List.prefix_append _ _)
    case done =>
      rintro D ys Wd hD rfl ⟨⟨E, hE, hM⟩, hbx, hs⟩ hK
      have hDl : D < Wd.heap.size := (Array.getElem?_eq_some_iff.1 hK).1
      clear hent hseq hb1
      gi_wp2
      refine ⟨trivial, fun h => (by simp [Fence.wide] at h), (callsIn_wide.2 (span_any 0 d _ (by omega) (by omega))).mono ?_⟩
      rintro e w2 ⟨v2, rfl, ⟨g2, lb2, rfl, hent, hseq⟩, hb2⟩
      have hs2 := hb2.size
      have j2 : J E (spanV d n ++ []) w2 := by rw [List.append_nil]; exact hJ.below hE hb2
      have hno2 : ∀ b, (b = W.heap.size ∨ b = D ∨ (Wd.heap.size ≤ b ∧ b < w2.heap.size)) → ¬ E b := fun b hb h => by
        rcases hb with rfl | rfl | hb
        · exact hM _ ⟨Nat.le_refl _, by omega⟩ h
        · exact hJ.none hE hK rfl h
        · have := hJ.lt hE h; omega
      have bY2 := boxed_below hbx hb2
      have hK2 : w2.heap[D]? = some (.deferred (some [])) := (hb2.block D hDl).trans hK
      gi_wp2
      refine wpIn_rangeFunc_ownG rfl (by omega) (gf := g2) (lb := lb2) rfl trivial hent (hseq (m - 1) (by omega)) keepsIv_t (keepsIv_b (Nat.le_refl _)) (Below.refl _ _) (fun _ => rfl)
        (fun pre Wc => (∃ E, J E (spanV d n ++ pre) Wc ∧ ∀ b, (b = W.heap.size ∨ b = D ∨ (Wd.heap.size ≤ b ∧ b < w2.heap.size)) → ¬ E b) ∧ (Boxed Wc W.heap.size 38 (.func (.yield l) #[] #[]) ∧ (w2.heap.size ≤ Wc.heap.size ∧ Wc.heap[D]? = some (.deferred (some [])))))
        (fun c pp Wc => (∃ E, Jx E (spanV d n ++ pp) Wc ∧ ∀ b, False → ¬ E b) ∧ (c = .ret ∧ Wc.heap[D]? = some (.deferred (some []))))
        (OwnFrom.and (hJ.ownFrom (by omega) (fun pre => spanV d n ++ pre) _) (OwnFrom.and (Own.from (boxed_own _ _ (fun _ : List Int => _)) _) (fun _ A C row hs hg hr => ⟨Nat.le_trans hs.1 hg.size, (hg.block D (by omega) (fun e => by have := (hr _ e.symm).1; omega)).trans hs.2⟩)))
        (fun c => OwnFrom.and (hJx.ownFrom (by omega) (fun pre => spanV d n ++ pre) _) (fun _ A C row hs hg hr => ⟨hs.1, (hg.block D (Array.getElem?_eq_some_iff.1 hs.2).1 (fun e => by have := (hr _ e.symm).1; omega)).trans hs.2⟩))
        ⟨⟨E, j2, hno2⟩, bY2, Nat.le_refl _, hK2⟩
        (fun x => { tmps := #[.func (.yield l) #[] #[], .pointer (some ⟨B, 0, none⟩), .pointer (some ⟨B + 1, 0, none⟩), .pointer (some ⟨W.heap.size, 0, none⟩), .int .i64 d, undef, .int .i64 x, .int .i64 n, .bool false, .int .i64 n, .int .i64 f, .int .i64 d, .int .i64 d, .int .i64 n, .func (.func g) #[] lb, undef, undef, undef, undef, undef, .int .i64 d, .func (.func g2) #[] lb2, .int .i64 x, undef, undef, undef, undef], defers := [] }) ?assign2 ?body2 ?done2 ?stop2
      case assign2 =>
        intro l x W K hK
        unfold encI
        gi_wp2
        exact hK
      case body2 =>
        rintro l' pre x Wc ⟨⟨E, hE, hM⟩, hbx, hs, hDc⟩ hlt
        have hcell := hbx.cell
        obtain ⟨fn, tmps, assign, body, hy, hR⟩ := yield_mine (m' := m - 1 - 1 - 1) hJ HY.out _ x hE (fun b hb => ⟨by omega, by omega, hM b hb⟩) (by rw [HYl.out, List.length_append]; omega)
        unfold encI at hy
        gi_wp2
        refine ⟨fun h => (by simp [Fence.wide] at h), RoundIn.mono (F := Fence.wide.inRound l') hR ?_⟩
        rintro e W3 ⟨⟨hkf, hmk⟩, E', hE', (⟨rfl, hj3⟩ | ⟨rfl, hjx3⟩)⟩
        · gi_wp2
          exact ⟨⟨hkf.size, fun k o h1 h2 h3 => hkf.same k o (by omega) h2 h3⟩, fun b h1 h2 => hmk b (.inr (.inr ⟨h1, h2⟩)), ⟨E', by rw [← List.append_assoc]; exact hj3, hE'⟩, (hmk _ (.inl rfl)).trans hbx, Nat.le_trans hs hkf.size, (hmk _ (.inr (.inl rfl))).trans hDc⟩
        · gi_wp2
          exact ⟨⟨hkf.size, fun k o h1 h2 h3 => hkf.same k o (by omega) h2 h3⟩, ⟨E', by rw [← List.append_assoc]; exact hjx3, fun _ h => h.elim⟩, rfl, (hmk _ (.inr (.inl rfl))).trans hDc⟩
      case stop2 =>
        rintro D2 c pp We hD2 hpre ⟨⟨E, hE, _⟩, rfl, hDc⟩ hK3
        gi_wp2
        refine ⟨by simp, .inl ⟨_, _, rfl, run_takeDeferred hK3, ?_⟩⟩
        have hK4 : (We.putObj D2 (.deferred none)).heap[D]? = some (.deferred (some [])) := (World.putObj_heap_other (by omega)).trans hDc
        refine ⟨by simp, .inl ⟨_, _, rfl, run_takeDeferred hK4, ?_⟩⟩
        have hx := hJx.put (.deferred none) hE (b := D2) (by omega) (hJx.none hE hK3 rfl)
        refine ⟨_, results_none rfl _ _ _, ⟨_, rfl⟩, .inr ⟨E, spanV d n ++ pp, ?_, hJx.put _ hx (by omega) (hJx.none hE hDc rfl)⟩⟩
        rw [HSp.out]
        exact (List.prefix_append_right_inj _).2 hpre
      case done2 =>
        rintro D2 ys We hD2 rfl ⟨⟨E, hE, _⟩, _, _, hDc⟩ hK3
        gi_wp2
        refine ⟨by simp, .inl ⟨_, _, rfl, run_takeDeferred hK3, ?_⟩⟩
        have hK4 : (We.putObj D2 (.deferred none)).heap[D]? = some (.deferred (some [])) := (World.putObj_heap_other (by omega)).trans hDc
        refine ⟨by simp, .inl ⟨_, _, rfl, run_takeDeferred hK4, ?_⟩⟩
        have hx := hJ.put (.deferred none) hE (b := D2) (by omega) (hJ.none hE hK3 rfl)
        refine ⟨_, results_none rfl _ _ _, ⟨_, rfl⟩, .inl ⟨E, ?_⟩⟩
        rw [HSp.out]
        exact hJ.put _ hx (by omega) (hJ.none hE hDc rfl)

set_option maxHeartbeats 1000000 in
theorem turn_any (n f : Int) (w : World) (hn0 : -9223372036854775808 ≤ n) (hn : n ≤ 9223372036854775807) (_hf0 : -9223372036854775808 ≤ f) (_hf : f ≤ 9223372036854775807) :
    Calls Try.prog 9 #[.int .i64 n, .int .i64 f] w fun e w' => ∃ v', e = .returned v' ∧ IsSeq Try.prog encI w.heap.size w' v' (turnV n f) ∧ Below w.heap.size w w' := by
  go_enter Try.func9, Try.ntmps9
  go_wp2
  go_ret
  refine ⟨_, rfl, ⟨14, _, rfl, enters_of Try.func14 (by kernel_rfl) rfl, fun m hm => turn1_own n f hn0 hn w.heap.size w.heap.size _ (by simp) (by simp) (by simp) m hm⟩, ((Below.refl _ _).alloc (Nat.le_refl _) _).alloc (by simp) _⟩

end Go.Proofs.Ytcpajkhefhnmeaa

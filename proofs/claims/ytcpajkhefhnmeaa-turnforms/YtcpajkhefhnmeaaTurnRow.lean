/-
  The contract of the statements' own 'row' of stage 4: the first n of a sequence.
-/
import Derived.Test.YtcpajkhefhnmeaaSeqOwn
import Derived.Test.YtcpajkhefhnmeaaChecked
import Derived.WalkSmall
namespace Go.Proofs.Ytcpajkhefhnmeaa
open Go.RowKit Go.Shelf

attribute [local go_sem] Oper.semAt_some

theorem infoInt : (Try.prog.info? 3).map (fun i => (i.zero, i.size, i.bytes)) = some (some (.int .i64 0), 1, 8) := by kernel_rfl

theorem take_stop {α : Type} {pp xs : List α} {n : Nat} (h : pp <+: xs) (hn : pp.dropLast.length = n) : xs.take n = pp.dropLast := by
  have h2 : pp.dropLast <+: xs := (List.dropLast_prefix pp).trans h
  rw [← hn]
  exact (List.prefix_iff_eq_take.1 h2).symm

set_option maxRecDepth 100000 in
set_option maxHeartbeats 2000000 in
theorem row_any (v : Value) (xs : List Int) (n : Int) (n₀ : Nat) (w : World) (hv : IsSeq Try.prog encI n₀ w v xs) (hn : n ≤ 1000000) (hbd : ∀ x ∈ xs, -9223372036854775808 ≤ x ∧ x ≤ 9223372036854775807) :
    Calls Try.prog 8 #[v, .int .i64 n] w fun e w' => ∃ v', e = .returned v' ∧ IsInts w' v' (xs.take n.toNat) ∧ Below w.heap.size w w' := by
  obtain ⟨g, lb, rfl, hent, hseq⟩ := hv
  obtain ⟨i0, hi, hz0, hz1, hz2⟩ := info_parts infoInt
  refine (callsIn_wide (n := 4)).1 ?_
  refine callsIn_of_wp_marks Try.func8 rfl trivial ?_ rfl
  simp only [Try.ntmps8, List.size_toArray, List.length_cons, List.length_nil, Nat.reduceAdd, Nat.reduceSub, Array.replicate_succ, Array.replicate_zero, List.push_toArray, List.append_toArray, List.nil_append, List.cons_append]
  have hnil : ∀ w : World, (binOp BinOp.eql 25 (.func (.func g) #[] lb) .nilFunc).run Try.prog w = .ok (.bool false) w := fun _ => by kernel_rfl
  gi_wp2
  clear hnil
  have bN := Boxed.new w 3 (.int .i64 n)
  have bO := Boxed.new (w.alloc (.cells #[.int .i64 n] 3)) 23 (.slice none 0 0)
  rw [World.size_alloc] at bO
  have hB0 : Below w.heap.size w ((w.alloc (.cells #[.int .i64 n] 3)).alloc (.cells #[.slice none 0 0] 23)) := ((Below.refl _ w).alloc (Nat.le_refl _) _).alloc (by simp) _
  have h1c : ∀ (v : Value) (W : World) (k : Nat) (cs : List Value), W.ownsRow (w.heap.size + 1 + 1) 3 1 v k cs → ∀ b, some b = v.ownBlock → ∃ o : Obj, W.heap[b]? = some o ∧ o.isCells = true := fun v W k cs hr b hb => by
    rcases hr.2 with ⟨rfl, _⟩ | ⟨g', cap, cur, rfl, _, hgb, _⟩
    · simp [Value.ownBlock] at hb
    · obtain rfl : b = g' := by simpa [Value.ownBlock] using hb
      exact ⟨_, hgb, rfl⟩
  refine wpIn_rangeSeq (by omega) (gf := g) (lb := lb) rfl hent (hseq (4 - 1) (by omega)) hB0 (fun _ => rfl)
    (fun E pre W => ∃ v, Boxed W (w.heap.size + 1) 23 v ∧ W.ownsRow (w.heap.size + 1 + 1) 3 1 v pre.length (pre.map (Value.int .i64)) ∧ pre.length ≤ n.toNat ∧ Boxed W w.heap.size 3 (.int .i64 n) ∧ Below w.heap.size w W ∧ E = fun b => some b = v.ownBlock)
    (fun c E pp W => ∃ v, Boxed W (w.heap.size + 1) 23 v ∧ W.ownsRow (w.heap.size + 1 + 1) 3 1 v pp.dropLast.length (pp.dropLast.map (Value.int .i64)) ∧ c = .exit 0 ∧ pp.dropLast.length = n.toNat ∧ Below w.heap.size w W ∧ E = fun b => some b = v.ownBlock)
    (fun _ => False)
    ⟨fun E pre A C row hs hg hr => ?awayI, fun E pre A hs => ?cellsI⟩
    (fun c => ⟨fun E pp A C row hs hg hr => ?awayX, fun E pp A hs => ?cellsX⟩)
    ⟨_, bO, World.ownsRow_nil _ _ _ _, by simp, bN.alloc _, hB0, by funext b; simp [Value.ownBlock]⟩
    (fun x => { tmps := #[.func (.func g) #[] lb, .int .i64 n, undef, .pointer (some ⟨w.heap.size, 0, none⟩), .slice none 0 0, .pointer (some ⟨w.heap.size + 1, 0, none⟩), .int .i64 x, .func (.func g) #[] lb, .bool false, .func (.func g) #[] lb, .int .i64 x, undef, undef, undef, undef, undef, undef, undef, undef, undef], defers := [] }) ?assign ?body ?done ?stop
  case awayI =>
    obtain ⟨v, h1, h2, h3, h4, h5, rfl⟩ := hs
    simp at hr
    exact ⟨v, h1.kept hg (fun e => by have := (hr _ e.symm).1; omega), h2.kept hg (by
      rcases hv : v.ownBlock with _ | b
      · exact .inl rfl
      · exact .inr fun e => (hr b e.symm).2 hv.symm), h3, h4.kept hg (fun e => by have := (hr _ e.symm).1; omega), h5.grown hg h5.size (fun k e => by have := (hr k e).1; omega), rfl⟩
  case cellsI =>
    obtain ⟨v, h1, h2, h3, h4, h5, rfl⟩ := hs
    exact h1c v A _ _ h2
  case awayX =>
    obtain ⟨v, h1, h2, h3, h4, h5, rfl⟩ := hs
    simp at hr
    exact ⟨v, h1.kept hg (fun e => by have := (hr _ e.symm).1; omega), h2.kept hg (by
      rcases hv : v.ownBlock with _ | b
      · exact .inl rfl
      · exact .inr fun e => (hr b e.symm).2 hv.symm), h3, h4, h5.grown hg h5.size (fun k e => by have := (hr k e).1; omega), rfl⟩
  case cellsX =>
    obtain ⟨v, h1, h2, h3, h4, h5, rfl⟩ := hs
    exact h1c v A _ _ h2
  case assign =>
    intro l x W K hK
    unfold encI
    gi_wp2
    exact hK
  case body =>
    rintro l E pre x W hsW ⟨v, hv, hrow, hle, hN, hB, rfl⟩ hlt
    have hc := hv.cell
    have hcn := hN.cell
    obtain ⟨vo, vc, rfl⟩ := own_shape hrow
    by_cases hge : n ≤ (pre.length : Int)
    · gi_wp2
      exact ⟨⟨Nat.le_refl _, fun _ _ _ _ => rfl⟩, _, fun b h => .inl h, _, hv, by simpa using hrow, rfl, by simp; omega, hB, rfl⟩
    · have hf := hv.frozen
      have hbs : w.heap.size + 1 + 1 ≤ W.heap.size := by have := hv.lt; omega
      gi_wp2_with (gi_at_builtin; refine wpListIn_append_row (w := W.alloc (.cells #[.int .i64 x] 3)) rfl (.tmp 15) (.tmp 17) 23 rfl (w.heap.size + 1 + 1) 3 i0 (.int .i64 0) 1 8 Try.underlying23 hi hz0 hz1 hz2 rfl (by decide) _ pre.length _ rfl (hrow.alloc _) (.slice (some ⟨W.heap.size, 0, none⟩) 1 1) 1 [.int .i64 x] rfl (one_cell _ _ _ _ rfl) (by simp [Value.oneCell']) (by unfold maxLen; omega) (by omega) (by simp; omega) ?_)
      intro v' w1 hown' hgrow hob
      obtain ⟨g', cap', rfl⟩ := ownsRow_succ hown'
      obtain ⟨hv1, hv2, hr2, hk2, hb2, hI2, hO2⟩ := boxed_gathered (n₀ := w.heap.size) hv hrow (by omega) (by omega) hbs hown' hgrow
      have hc1 := hv1.cell
      have hf1 := hv1.frozen
      gi_wp2
      refine ⟨⟨hb2.size, fun b h1 h2 h3 => ?_⟩, keepsIv_below hb2 (Nat.le_refl _), _, fun b hb => ?_, _, hv2, by simpa using hr2, by simp; omega, hO2 _ _ _ hN (by omega) (by omega), hB.trans hb2, rfl⟩
      · simp at h1
        rw [Below.heap_setCell _ _ _ b (by simp; omega), hgrow.block b (by simp; omega) h3]
        exact Below.heap_alloc W _ b h2
      · rcases hob with e | e
        · exact .inl (hb.trans e)
        · rw [e] at hb; simp at hb; exact .inr (by omega)
  case done =>
    rintro D E W hD ⟨v, hv, hrow, hle, hN, hB, _⟩ hK
    have hc := hv.cell
    gi_wp2
    refine ⟨by simp, .inl ⟨_, _, rfl, run_takeDeferred hK, ?_⟩⟩
    exact ⟨_, results_tmp rfl _ _ _, v, rfl, by
      rw [List.take_of_length_le hle]
      exact isInts_own (ownsRow_putObj hrow _ hK rfl) rfl (by omega) hbd, hB.trans (belowK_b (w := w) (Nat.le_refl _) W D _ _ (by simp at hD; omega) hK rfl rfl)⟩
  case stop =>
    rintro D c E pp W hD hpre ⟨v, hv, hrow, rfl, hpl, hB, _⟩ hK
    have hc := hv.cell
    gi_wp2
    refine ⟨by simp, .inl ⟨_, _, rfl, run_takeDeferred hK, ?_⟩⟩
    exact ⟨_, results_tmp rfl _ _ _, v, rfl, by
      rw [take_stop hpre hpl]
      exact isInts_own (ownsRow_putObj hrow _ hK rfl) rfl (by omega) (fun x hx => hbd x (hpre.subset (List.dropLast_subset pp hx))), hB.trans (belowK_b (w := w) (Nat.le_refl _) W D _ _ (by simp at hD; omega) hK rfl rfl)⟩

end Go.Proofs.Ytcpajkhefhnmeaa

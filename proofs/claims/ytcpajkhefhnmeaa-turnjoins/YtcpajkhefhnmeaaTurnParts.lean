/-
  The contract of the statements' own 'parts' of stage 4, over that of turn.Runs.
-/
import Derived.Test.YtcpajkhefhnmeaaTurnRow
import Derived.Test.YtcpajkhefhnmeaaTurnPlain
import Derived.Test.YtcpajkhefhnmeaaTurn1
namespace Go.Proofs.Ytcpajkhefhnmeaa
open Go.RowKit Go.Shelf

attribute [local go_sem] Oper.semAt_some

theorem infoStr : (Try.prog.info? 9).map (fun i => (i.zero, i.size, i.bytes)) = some (some (.string ByteArray.empty), 1, 16) := by kernel_rfl

set_option maxRecDepth 100000 in
set_option maxHeartbeats 2000000 in
theorem parts_any (s : ByteArray) (c : Int) (w : World) (hs : s.size ≤ 1000) (hc0 : 0 ≤ c) (hc1 : c ≤ 255) :
    Calls Try.prog 11 #[.string s, .int .u8 c] w fun e w' => ∃ v', e = .returned v' ∧ IsRow 1 w' v' (partsV s c).length ((partsV s c).map Value.string) ∧ Below w.heap.size w w' := by
  obtain ⟨i0, hi, hz0, hz1, hz2⟩ := info_parts infoStr
  refine (callsIn_wide (n := 4)).1 ?_
  refine callsIn_of_wp_marks Try.func11 rfl trivial ?_ rfl
  simp only [Try.ntmps11, List.size_toArray, List.length_cons, List.length_nil, Nat.reduceAdd, Nat.reduceSub, Array.replicate_succ, Array.replicate_zero, List.push_toArray, List.append_toArray, List.nil_append, List.cons_append]
  gi_wp2_with (refine ⟨trivial, ?_⟩; gi_at_call 17; refine (callsIn_wide.2 (runs_any s c _ (by omega) hc0 hc1)).mono ?_)
  rintro e w1 ⟨v1, rfl, ⟨g, lb, rfl, hent, hseq⟩, hb1⟩
  have hnil : ∀ w : World, (binOp BinOp.eql 40 (.func (.func g) #[] lb) .nilFunc).run Try.prog w = .ok (.bool false) w := fun _ => by kernel_rfl
  have bR : Boxed w1 w.heap.size 29 (.slice none 0 0) := boxed_below ((Boxed.new w _ _).alloc _) hb1
  have bO : Boxed w1 (w.heap.size + 1) 29 (.slice none 0 0) := by
    have h := Boxed.new (w.alloc (.cells #[.slice none 0 0] 29)) 29 (.slice none 0 0)
    rw [World.size_alloc] at h
    exact boxed_below h hb1
  have hB1 : Below w.heap.size w w1 := (((Below.refl _ w).alloc (Nat.le_refl _) _).alloc (by simp) _).trans (hb1.mono (by simp; omega))
  have hsz : w.heap.size + 1 + 1 ≤ w1.heap.size := by have := hb1.size; simp at this; omega
  have hpl := partsV_length s c
  have hnl := numbered_length (partsV s c)
  gi_wp2
  clear hnil
  refine wpIn_rangeFunc_ownF rfl (by omega) (gf := g) (lb := lb) rfl trivial hent (hseq (4 - 1) (by omega)) keepsIv_t (keepsIv_b (Nat.le_refl _)) (Below.refl _ _) (fun _ => rfl)
    (fun pre W => (((∃ v, Boxed W (w.heap.size + 1) 29 v ∧ W.ownsRow w1.heap.size 9 1 v pre.length (pre.map fun p => Value.string p.2) ∧ Enum pre) ∧ Boxed W w.heap.size 29 (.slice none 0 0)) ∧ w1.heap.size ≤ W.heap.size) ∧ Below w.heap.size w W)
    (fun c' pp W => (c' = .ret ∧ ¬ (Enum pp ∧ pp.length ≤ 5001)) ∧ Below w.heap.size w W)
    (OwnFrom.and (OwnFrom.and (OwnFrom.and (Own.from (holdsRow_own w1.heap.size (w.heap.size + 1) 29 9 1 (fun pre : List (Int × ByteArray) => pre.length) (fun pre => pre.map fun p => Value.string p.2) (fun pre _ => Enum pre)) _) (Own.from (boxed_own _ _ _) _)) (fun _ _ _ _ hs hg _ => Nat.le_trans hs hg.size)) (ownFrom_below (Nat.le_refl _) (by omega)))
    (fun c' => OwnFrom.and (fun _ _ _ _ hs _ _ => hs) (ownFrom_below (Nat.le_refl _) (by omega)))
    ⟨⟨⟨⟨_, bO, World.ownsRow_nil _ _ _ _, fun j h => by simp at h⟩, bR⟩, Nat.le_refl _⟩, hB1⟩
    (fun x => { tmps := #[.string s, .int .u8 c, undef, undef, .pointer (some ⟨w.heap.size, 0, none⟩), .pointer (some ⟨w.heap.size + 1, 0, none⟩), .func (.func g) #[] lb, .int .i64 x.1, .string x.2, .string s, .int .u8 c, .func (.func g) #[] lb, .func (.func g) #[] lb, .bool false, .func (.func g) #[] lb, .int .i64 x.1, .string x.2, undef, undef, undef, undef, undef, undef, undef, undef, undef, undef, undef, undef, undef], defers := [] }) ?assign ?body ?done ?stop
  case assign =>
    intro l x W K hK
    unfold encP
    gi_wp2
    exact hK
  case body =>
    rintro l pre x W ⟨⟨⟨⟨v, hv, hrow, hen⟩, hR⟩, hbs⟩, hB⟩ hlt
    obtain ⟨xi, xs⟩ := x
    simp only
    have hc := hv.cell
    have hcr := hR.cell
    have hfr := hR.frozen
    obtain ⟨vo, vc, rfl⟩ := own_shape hrow
    by_cases he : xi = (pre.length : Int)
    · subst he
      have hbig : ¬ (5000 : Int) < (pre.length : Int) := by omega
      gi_wp2_with (gi_at_builtin; refine wpListIn_append_row (w := W.alloc (.cells #[.string xs] 9)) rfl (.tmp 25) (.tmp 27) 29 rfl w1.heap.size 9 i0 (.string ByteArray.empty) 1 16 Try.underlying29 hi hz0 hz1 hz2 rfl (by decide) _ pre.length _ rfl (hrow.alloc _) (.slice (some ⟨W.heap.size, 0, none⟩) 1 1) 1 [.string xs] rfl (one_cell _ _ _ _ rfl) (by simp [Value.oneCell']) (by unfold maxLen; omega) (by omega) (by simp; omega) ?_)
      intro v' w2 hown' hgrow _
      obtain ⟨g', cap', rfl⟩ := ownsRow_succ hown'
      obtain ⟨hv1, hv2, hr2, hk2, hb2, hI2, hO2⟩ := boxed_gathered (n₀ := w.heap.size) hv hrow (by omega) (by omega) hbs hown' hgrow
      have hc1 := hv1.cell
      have hf1 := hv1.frozen
      gi_wp2
      have hszz : W.heap.size ≤ (w2.setCell ⟨w.heap.size + 1, 0, none⟩ (.slice (some ⟨g', 0, none⟩) (pre.length + 1) cap')).heap.size := hb2.size
      exact ⟨hk2, fun b h1 h2 => hI2 b h2 (by simp at h1; omega), ⟨⟨⟨_, hv2, by simpa using hr2, hen.snoc rfl⟩, hO2 _ _ _ hR (by omega) (by omega)⟩, Nat.le_trans hbs hszz⟩, hB.trans hb2⟩
    · have hne : ((xi : Int) != (pre.length : Int)) = true := by simpa using he
      gi_wp2
      exact ⟨KeepsOthers.setCell _ _ _, ⟨rfl, fun h => he h.1.last⟩, hB.setCell (p := ⟨w.heap.size, 0, none⟩) (Nat.le_refl _) _⟩
  case done =>
    rintro D ys W hD rfl ⟨⟨⟨⟨v, hv, hrow, _⟩, hR⟩, _⟩, hB⟩ hK
    have hc := hv.cell
    have hcr := hR.cell
    have hfr := hR.frozen
    obtain ⟨vo, vc, rfl⟩ := own_shape hrow
    have hK' := (KeepsOthers.setCell W ⟨w.heap.size, 0, none⟩ (.slice vo (numbered (partsV s c)).length vc)).same D _ hK rfl
    have hc5 := cell_kept (World.cell?_setCell_same' W ⟨w.heap.size, 0, none⟩ (.slice vo (numbered (partsV s c)).length vc) (by rw [hcr]; rfl)) (grownBy_putObj' _ D (.deferred none)) (fun r e => by cases e; exact ⟨_, hK', rfl⟩)
    have hrow5 := ownsRow_putObj (hrow.kept (grownBy_setCell' W w.heap.size (.slice vo (numbered (partsV s c)).length vc)) (.inr fun e => by have := own_base hrow _ e; omega)) (.deferred none) hK' rfl
    have hb5 : Below w.heap.size w _ := (hB.setCell (p := ⟨w.heap.size, 0, none⟩) (Nat.le_refl _) (.slice vo (numbered (partsV s c)).length vc)).trans (belowK_b (w := w1) (n₀ := w.heap.size) (by omega) _ D _ (.deferred none) (by omega) hK' rfl rfl)
    rw [hnl] at hK' hc5 hrow5 hb5
    gi_wp2
    refine ⟨by simp, .inl ⟨_, _, rfl, run_takeDeferred hK', ?_⟩⟩
    refine ⟨.slice vo (partsV s c).length vc, ?_, _, rfl, ?_, hb5⟩
    · simp [results, Try.f11, go_sem, hc5]
    · have := isRow_own hrow5
      rw [show (numbered (partsV s c)).map (fun p => Value.string p.2) = (partsV s c).map Value.string by
        conv => rhs; rw [← numbered_snd (partsV s c)]
        rw [List.map_map]; rfl] at this
      exact this
  case stop =>
    rintro D c' pp W hD hpre ⟨⟨rfl, hn⟩, hB⟩ hK
    exact absurd ⟨(numbered_enum _).prefix hpre, by have := hpre.length_le; omega⟩ hn

end Go.Proofs.Ytcpajkhefhnmeaa

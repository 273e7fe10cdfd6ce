/-
  The contract of package lines' Split, as landed.
-/
import Derived.Test.YtkninlahlgipoaaDoorLineCut
namespace Go.Proofs.YtkninlahlgipoaaDoor
open Go.RowKit Go.Shelf

attribute [local go_sem] Oper.semAt_some

theorem cell_cells {w : World} {p : Addr} {v : Value} (h : w.cell? p = some v) : ∃ o : Obj, w.heap[p.block]? = some o ∧ o.isCells = true := by
  unfold World.cell? at h
  cases hb : w.heap[p.block]? with
  | none => rw [hb] at h; simp at h
  | some o =>
    refine ⟨o, rfl, ?_⟩
    rw [hb] at h
    cases o <;> first | rfl | simp at h
theorem isStrs_not {w : World} {v : Value} {ss : List ByteArray} (h : IsStrs w v ss) (h0 : 0 < ss.length) {r : Nat} {o : Obj} (ho : w.heap[r]? = some o) (hc : o.isCells = false) : blkOf v ≠ some r := by
  rcases h.2.2 with ⟨h1, _⟩ | ⟨_, b, off, cap, rfl, hlt, hcell⟩
  · omega
  · intro e
    obtain rfl : b = r := by simpa [blkOf] using e
    have hz := hcell 0 (by omega)
    have e2 : (ss.map Value.string)[0]? = some (.string (ss.getD 0 ByteArray.empty)) := by simp [h0]
    rw [e2] at hz
    obtain ⟨o', h1, h2⟩ := cell_cells hz
    have h3 : w.heap[b]? = some o' := h1
    rw [ho] at h3
    cases h3; rw [hc] at h2; cases h2
def Far (base : Nat) (vs : List Value) (L : List LineT) : Prop := ∀ j, j < L.length → ∀ b, blkOf (vs.getD j nilW) = some b → base ≤ b
theorem far_snoc {base : Nat} {vs : List Value} {L : List LineT} {v : Value} {l : LineT} (h : Far base vs L) (hl : vs.length = L.length) (hv : ∀ b, blkOf v = some b → base ≤ b) : Far base (vs ++ [v]) (L ++ [l]) := by
  intro j hj b hb
  rw [List.length_append, List.length_singleton] at hj
  rcases Nat.lt_or_ge j L.length with h1 | h1
  · rw [getD_snoc_left _ _ _ _ (by rw [hl]; exact h1)] at hb; exact h j h1 b hb
  · have e : j = vs.length := by omega
    subst e
    rw [getD_snoc_last] at hb; exact hv b hb
theorem heldL_grown {w w' : World} {o : Value} {vs : List Value} {L : List LineT} {row : Option Nat} (h : HeldL w o vs L) (hg : w.grownBy w' row) (hne : ∀ j, j < L.length → 0 < (L.getD j (0, [])).2.length → blkOf (vs.getD j nilW) ≠ row) : HeldL w' o vs L :=
  ⟨h.1, fun j hj => ⟨(h.2 j hj).1.grown hg (hne j hj), (h.2 j hj).2⟩⟩
theorem heldL_box {w : World} {o : Value} {vs : List Value} {L : List LineT} {base B : Nat} (h : HeldL w o vs L) (hF : Far base vs L) (hB : B < base) (u : Value) : HeldL (w.setCell ⟨B, 0, none⟩ u) o vs L :=
  heldL_grown h (grownBy_setCell' w B u) fun j hj _ e => by have := hF j hj B e; omega
theorem heldL_put {w : World} {o : Value} {vs : List Value} {L : List LineT} {D : Nat} {ob : Obj} (h : HeldL w o vs L) (hD : w.heap[D]? = some ob) (hc : ob.isCells = false) (ob' : Obj) : HeldL (w.putObj D ob') o vs L :=
  heldL_grown h (grownBy_putObj' w D ob') fun j hj h0 => isStrs_not (h.2 j hj).1 h0 hD hc

theorem three_set {W : World} {n t0 t1 t2 : Nat} {a0 a1 a2 : Value} (h0 : Boxed W n t0 a0) (h1 : Boxed W (n + 1) t1 a1) (h2 : Boxed W (n + 1 + 1) t2 a2) (v0 v1 v2 : Value) :
    (Boxed (W.setCell ⟨n, 0, none⟩ v0) (n + 1) t1 a1 ∧ Boxed ((W.setCell ⟨n, 0, none⟩ v0).setCell ⟨n + 1, 0, none⟩ v1) (n + 1 + 1) t2 a2) ∧
    (Boxed (((W.setCell ⟨n, 0, none⟩ v0).setCell ⟨n + 1, 0, none⟩ v1).setCell ⟨n + 1 + 1, 0, none⟩ v2) n t0 v0 ∧ Boxed (((W.setCell ⟨n, 0, none⟩ v0).setCell ⟨n + 1, 0, none⟩ v1).setCell ⟨n + 1 + 1, 0, none⟩ v2) (n + 1) t1 v1 ∧
      Boxed (((W.setCell ⟨n, 0, none⟩ v0).setCell ⟨n + 1, 0, none⟩ v1).setCell ⟨n + 1 + 1, 0, none⟩ v2) (n + 1 + 1) t2 v2) ∧
    KeepsOthers W (((W.setCell ⟨n, 0, none⟩ v0).setCell ⟨n + 1, 0, none⟩ v1).setCell ⟨n + 1 + 1, 0, none⟩ v2) ∧ Below n W (((W.setCell ⟨n, 0, none⟩ v0).setCell ⟨n + 1, 0, none⟩ v1).setCell ⟨n + 1 + 1, 0, none⟩ v2) := by
  have b1 := h1.kept (grownBy_setCell' W n v0) (by simp)
  have c1 := h2.kept (grownBy_setCell' W n v0) (by simp; omega)
  have c2 := c1.kept (grownBy_setCell' _ (n + 1) v1) (by simp)
  refine ⟨⟨b1, c2⟩, ⟨((h0.set v0).kept (grownBy_setCell' _ (n + 1) v1) (by simp)).kept (grownBy_setCell' _ (n + 1 + 1) v2) (by simp; omega), (b1.set v1).kept (grownBy_setCell' _ (n + 1 + 1) v2) (by simp), c2.set v2⟩, ?_, ?_⟩
  · exact ((KeepsOthers.setCell _ _ _).trans (KeepsOthers.setCell _ _ _)).trans (KeepsOthers.setCell _ _ _)
  · exact (((Below.refl n W).setCell (p := ⟨n, 0, none⟩) (Nat.le_refl _) v0).setCell (p := ⟨n + 1, 0, none⟩) (by simp) v1).setCell (p := ⟨n + 1 + 1, 0, none⟩) (by simp; omega) v2

def SplitI (n b : Nat) (w : World) (pre : List (Int × ByteArray)) (W : World) : Prop :=
  (∃ v vs Ls, Boxed W (n + 1 + 1 + 1) 32 v ∧ W.ownsRow b 38 2 v Ls.length (lineCells Ls vs) ∧ HeldL W v vs Ls ∧ Far b vs Ls ∧ Ls.length ≤ pre.length ∧ (Enum pre → Ls = linesOf 0 (pre.map fun p => p.2)) ∧ ∀ x ∈ pre, lineOK x.2 = true) ∧
  (Boxed W n 32 (.slice none 0 0) ∧ Boxed W (n + 1) 3 (.int .i64 0) ∧ Boxed W (n + 1 + 1) 25 (.int .i64 0)) ∧ b ≤ W.heap.size ∧ Below n w W
def SplitX (n : Nat) (w : World) (c : Code) (pre : List (Int × ByteArray)) (W : World) : Prop :=
  c = .ret ∧ (∃ q x no, pre = q ++ [x] ∧ (∀ y ∈ q, lineOK y.2 = true) ∧ lineOK x.2 = false ∧ (Enum pre → no = (pre.length : Int)) ∧ Boxed W n 32 (.slice none 0 0) ∧ Boxed W (n + 1) 3 (.int .i64 no) ∧ Boxed W (n + 1 + 1) 25 (.int .i64 2)) ∧ n ≤ W.heap.size ∧ Below n w W

theorem splitI_own (w : World) (n b : Nat) (hb : n + 4 ≤ b) : OwnFrom b (SplitI n b w) := by
  rintro pre A C row ⟨⟨v, vs, Ls, hv, hrow, hH, hF, hl, hE, hok⟩, ⟨h0, h1, h2⟩, hbs, hB⟩ hg hr
  have hne : ∀ B, B < b → some B ≠ row := fun B hB e => by have := (hr B e.symm).1; omega
  refine ⟨⟨v, vs, Ls, hv.kept hg (hne _ (by omega)), ⟨hrow.1, ?_⟩, heldL_grown hH hg (fun j hj h0 e => ?_), hF, hl, hE, hok⟩, ⟨h0.kept hg (hne _ (by omega)), h1.kept hg (hne _ (by omega)), h2.kept hg (hne _ (by omega))⟩, Nat.le_trans hbs hg.size, hB.grown hg (by omega) (fun j ej => by have := (hr j ej).1; omega)⟩
  · rcases hrow.2 with h | ⟨g, cap, cur, e1, e2, e3, e4⟩
    · exact .inl h
    · refine .inr ⟨g, cap, cur, e1, e2, (hg.block g (Array.getElem?_eq_some_iff.1 e3).1 (fun e => ?_)).trans e3, e4⟩
      obtain ⟨_, o, ho, hc⟩ := hr g e.symm
      rw [e3] at ho; cases ho; cases hc
  · obtain ⟨bb, hbb, _⟩ := (hH.2 j hj).1.blk_lt h0
    obtain ⟨_, o, ho, hc⟩ := hr bb (by rw [← e, hbb])
    exact isStrs_not (hH.2 j hj).1 h0 ho hc hbb
theorem splitX_own (w : World) (n b : Nat) (hb : n + 4 ≤ b) (c : Code) : OwnFrom b (SplitX n w c) := by
  rintro pre A C row ⟨rfl, ⟨q, x, no, hq, hok, hx, hE, h0, h1, h2⟩, hs, hB⟩ hg hr
  have hne : ∀ B, B < b → some B ≠ row := fun B hB e => by have := (hr B e.symm).1; omega
  exact ⟨rfl, ⟨q, x, no, hq, hok, hx, hE, h0.kept hg (hne _ (by omega)), h1.kept hg (hne _ (by omega)), h2.kept hg (hne _ (by omega))⟩, Nat.le_trans hs hg.size, hB.grown hg (by omega) (fun j ej => by have := (hr j ej).1; omega)⟩

theorem lines_snoc (q : List (Int × ByteArray)) (x : Int × ByteArray) : linesOf 0 ((q ++ [x]).map fun p => p.2) = linesOf 0 (q.map fun p => p.2) ++ (if wordsOf x.2 = [] then [] else [(((q.length + 1 : Nat) : Int), wordsOf x.2)]) := by
  rw [List.map_append, linesOf_append]
  simp [linesOf]

theorem lineOK_size {p : ByteArray} (h : lineOK p = true) : p.size ≤ 200 := by
  unfold lineOK at h
  rw [Bool.and_eq_true, decide_eq_true_eq] at h
  exact h.1
theorem wrap_one {xi : Int} {n : Nat} (h : xi = (n : Int)) (hn : n ≤ 1000000) : wrap64 (xi + 1) = ((n + 1 : Nat) : Int) := by
  subst h
  first
    | (rw [wrap64_id] <;> omega)
    | (unfold wrap64; omega)
    | (simp [wrap64, IntKind.wrap]; omega)
    | (unfold wrap64; rw [Int.bmod_eq_of_le] <;> omega)

set_option maxRecDepth 100000 in
set_option maxHeartbeats 4000000 in
theorem split_any (s : ByteArray) (w : World) (hs : s.size ≤ 9223372036854775807) :
    Calls Tryd.prog 13 #[.string s] w fun e w' => ∃ v, e = .returned (.tuple #[v, .int .i64 (splitV s).2.1, .int .i64 (splitV s).2.2]) ∧ HasLines w' v (splitV s).1 ∧ Below w.heap.size w w' := by
  obtain ⟨i1, ji, jz0, jz1, jz2⟩ := info_parts infoLine
  by_cases hbig : (4000 : Int) < (s.size : Int)
  · have hV : splitV s = ([], 0, 2) := by unfold splitV; rw [if_pos (by omega)]
    rw [hV]
    clear hV
    refine (callsIn_wide (n := 6)).1 ?_
    refine callsIn_of_wp_marks Tryd.func13 rfl trivial ?_ rfl
    simp only [Tryd.ntmps13, List.size_toArray, List.length_cons, List.length_nil, Nat.reduceAdd, Nat.reduceSub, Array.replicate_succ, Array.replicate_zero, List.push_toArray, List.append_toArray, List.nil_append, List.cons_append]
    gi_wp2
    refine ⟨.tuple #[.slice none 0 0, .int .i64 0, .int .i64 2], ?_, _, rfl, ⟨[], isLines_nil _⟩, (((Below.refl _ w).alloc (Nat.le_refl _) _).alloc (by simp) _).alloc (by simp; omega) _⟩
    simp [results, Tryd.f13, go_sem]
  · have HBad : Hid (∀ i, i < (partsV s 10).length → (∀ j, j < i → lineOK ((partsV s 10).getD j ByteArray.empty) = true) → lineOK ((partsV s 10).getD i ByteArray.empty) = false → splitV s = ([], ((i + 1 : Nat) : Int), 2)) := fun i h1 h2 h3 => split_bad (by omega) i h1 h2 h3
    have HGood : Hid ((∀ j, j < (partsV s 10).length → lineOK ((partsV s 10).getD j ByteArray.empty) = true) → splitV s = (linesOf 0 (partsV s 10), 0, 0)) := fun h => split_good (by omega) h
    have hpl := partsV_length s 10
    have hnl := numbered_length (partsV s 10)
    have hsz4 : s.size ≤ 4000 := by omega
    refine (callsIn_wide (n := 6)).1 ?_
    refine callsIn_of_wp_marks Tryd.func13 rfl trivial ?_ rfl
    simp only [Tryd.ntmps13, List.size_toArray, List.length_cons, List.length_nil, Nat.reduceAdd, Nat.reduceSub, Array.replicate_succ, Array.replicate_zero, List.push_toArray, List.append_toArray, List.nil_append, List.cons_append]
    gi_wp2_with (refine ⟨trivial, ?_⟩; gi_at_call 27; refine (callsIn_wide.2 (runs_any s 10 _ (by omega) (by decide) (by decide))).mono ?_)
    first
      | rintro e w1 v1 rfl ⟨g, lb, rfl, hent, hseq⟩ hb1
      | rintro e w1 ⟨v1, rfl, ⟨g, lb, rfl, hent, hseq⟩, hb1⟩
    have bL : Boxed w1 (w.heap.size + 1 + 1 + 1) 32 (.slice none 0 0) := by
      have h := Boxed.new (((w.alloc (.cells #[.slice none 0 0] 32)).alloc (.cells #[.int .i64 0] 3)).alloc (.cells #[.int .i64 0] 25)) 32 (.slice none 0 0)
      rw [World.size_alloc, World.size_alloc, World.size_alloc] at h
      exact boxed_below h (by simpa using hb1)
    have b0 : Boxed w1 w.heap.size 32 (.slice none 0 0) := boxed_below (((((Boxed.new w _ _).alloc _).alloc _).alloc _)) (by simpa using hb1)
    have b1 : Boxed w1 (w.heap.size + 1) 3 (.int .i64 0) := by
      have h := Boxed.new (w.alloc (.cells #[.slice none 0 0] 32)) 3 (.int .i64 0)
      rw [World.size_alloc] at h
      exact boxed_below ((h.alloc _).alloc _) (by simpa using hb1)
    have b2 : Boxed w1 (w.heap.size + 1 + 1) 25 (.int .i64 0) := by
      have h := Boxed.new ((w.alloc (.cells #[.slice none 0 0] 32)).alloc (.cells #[.int .i64 0] 3)) 25 (.int .i64 0)
      rw [World.size_alloc, World.size_alloc] at h
      exact boxed_below (h.alloc _) (by simpa using hb1)
    have hB1 : Below w.heap.size w w1 := (((((Below.refl _ w).alloc (Nat.le_refl _) _).alloc (by simp) _).alloc (by simp; omega) _).alloc (by simp; omega) _).trans (hb1.mono (by omega))
    have hsz : w.heap.size + 4 ≤ w1.heap.size := by have := hb1.size; simp at this; omega
    gi_wp2
    refine wpIn_rangeFunc_ownF rfl (by omega) (gf := g) (lb := lb) rfl trivial hent (hseq (6 - 1) (by omega)) keepsIv_t (keepsIv_b (Nat.le_refl _)) (Below.refl _ _) (fun _ => rfl)
      (SplitI w.heap.size w1.heap.size w) (SplitX w.heap.size w) (splitI_own w _ _ hsz) (splitX_own w _ _ hsz)
      ⟨⟨_, [], [], bL, World.ownsRow_nil _ _ _ _, heldL_nil _ _, fun j h => by simp at h, Nat.le_refl _, fun _ => rfl, fun x h => by simp at h⟩, ⟨b0, b1, b2⟩, Nat.le_refl _, hB1⟩
      (fun x => { tmps := #[.string s, undef, .pointer (some ⟨w.heap.size, 0, none⟩), .pointer (some ⟨w.heap.size + 1, 0, none⟩), .pointer (some ⟨w.heap.size + 1 + 1, 0, none⟩), .pointer (some ⟨w.heap.size + 1 + 1 + 1, 0, none⟩), .int .i64 x.1, .string x.2, undef, undef, .string s, .int .i64 s.size, .bool false, .string s, .func (.func g) #[] lb, .int .i64 x.1, .string x.2, undef, undef, undef, undef, undef, undef, undef, undef, undef, undef, undef, undef, undef, undef, undef, undef, undef, undef], defers := [] }) ?assign ?body ?done ?stop
    case assign =>
      intro l x W K hK
      unfold encP
      gi_wp2
      exact hK
    case body =>
      rintro l pre x W ⟨⟨v, vs, Ls, hv, hrow, hH, hF, hl, hE, hok⟩, ⟨h0, h1, h2⟩, hbs, hB⟩ hlt
      obtain ⟨xi, xs⟩ := x
      simp only
      have hmay := mayStand_any xs
      have hsn := lines_snoc pre (xi, xs)
      simp only at hsn
      obtain ⟨lo, lc, rfl⟩ := own_shape hrow
      by_cases hk : lineOK xs = true
      · rw [hk] at hmay
        have hxsz := lineOK_size hk
        gi_wp2_with (refine ⟨trivial, ?_⟩; gi_at_call 28; refine ((callsIn_wide.2 (hmay _)).inRound l).mono ?_)
        rintro e w3 ⟨rfl, hw3⟩
        subst w3
        generalize hno : wrap64 (xi + 1) = no
        have HEn : Hid (Enum (pre ++ [(xi, xs)]) → no = ((pre.length + 1 : Nat) : Int)) := fun h => by rw [← hno, wrap_one h.last (by omega)]
        clear hno hmay
        have hok' : ∀ y ∈ pre ++ [(xi, xs)], lineOK y.2 = true := fun y hy => by
          rcases List.mem_append.1 hy with h | h
          · exact hok y h
          · rw [List.mem_singleton] at h; rw [h]; exact hk
        gi_wp2_with (refine ⟨trivial, ?_⟩; gi_at_call 29; refine ((callsIn_wide.2 (wordsOf_any xs _ (by omega))).inRound l).mono ?_)
        first
          | rintro e w3 v3 rfl hS hfar hb3
          | rintro e w3 ⟨v3, rfl, hS, hfar, hb3⟩
        obtain ⟨wo, wc, rfl⟩ := hS.shaped
        have hv3 := boxed_below hv hb3
        have h03 := boxed_below h0 hb3
        have h13 := boxed_below h1 hb3
        have h23 := boxed_below h2 hb3
        have hrow3 := own_stays hrow hb3
        have hH3 := hH.below hb3
        have hBs := hB.size
        have hB3 : Below w.heap.size w w3 := hB.trans (hb3.mono hBs)
        have hs3 := hb3.size
        have hbs3 : w1.heap.size ≤ w3.heap.size := by omega
        have hK3 : KeepsOthers W w3 := KeepsOthers.of_grownBy (row := none) ⟨hb3.os, hb3.tape, hb3.output, hb3.size, fun k hk _ => hb3.block k hk⟩ (fun j o e => by cases e)
        have hIv3 : KeepsIv (w.heap.size + 1 + 1 + 1 + 1) w1.heap.size W w3 := keepsIv_below hb3 hbs
        have hc := hv3.cell
        have HOk : Hid (∀ y ∈ pre ++ [(xi, xs)], lineOK y.2 = true) := hok'
        have HE : Hid (Enum pre → Ls = linesOf 0 (pre.map fun p => p.2)) := hE
        have HSn : Hid _ := hsn
        clear hok hok' hE hsn
        by_cases hw0 : wordsOf xs = []
        · have hl0 : (wordsOf xs).length = 0 := by rw [hw0]; rfl
          have HL : Hid (Enum (pre ++ [(xi, xs)]) → Ls = linesOf 0 ((pre ++ [(xi, xs)]).map fun p => p.2)) := fun h => by rw [HSn.out, if_pos hw0, List.append_nil]; exact HE.out (h.prefix (List.prefix_append _ _))
          clear hw0
          gi_wp2
          exact ⟨hK3, hIv3, ⟨_, vs, Ls, hv3, hrow3, hH3, hF, by rw [List.length_append]; omega, HL.out, HOk.out⟩, ⟨h03, h13, h23⟩, hbs3, hB3⟩
        · have hl0 : 0 < (wordsOf xs).length := List.length_pos_iff.2 hw0
          have hl1 : (0 : Int) < ((wordsOf xs).length : Int) := by omega
          have HL : Hid (Enum (pre ++ [(xi, xs)]) → Ls ++ [(no, wordsOf xs)] = linesOf 0 ((pre ++ [(xi, xs)]).map fun p => p.2)) := fun h => by rw [HSn.out, if_neg hw0, HE.out (h.prefix (List.prefix_append _ _)), HEn.out h]
          clear hw0
          gi_wp2_with (gi_at_builtin; refine wpListIn_append_row (w := w3.alloc (.cells #[.int .i64 no, .slice wo (wordsOf xs).length wc] 38)) rfl (.tmp 28) (.tmp 32) 32 rfl w1.heap.size 38 i1 (.agg #[.int .i64 0, .slice none 0 0]) 2 32 Tryd.underlying32 ji jz0 jz1 jz2 rfl (by decide) _ Ls.length _ rfl (hrow3.alloc _) (.slice (some ⟨w3.heap.size, 0, none⟩) 1 1) 1 [.int .i64 no, .slice wo (wordsOf xs).length wc] rfl (one_line _ _ _ _ _ rfl) (by simp [Value.oneCell']) (by unfold maxLen; omega) (by omega) (by simp; omega) ?_)
          intro v' w4 hown' hgrow hat
          obtain ⟨g', cap', rfl⟩ := ownsRow_succ hown'
          obtain ⟨hv1, hv2, hr2, hk2, hb4, hI2, hO2⟩ := boxed_gathered (n₀ := w.heap.size) hv3 hrow3 (by omega) (by omega) hbs3 hown' hgrow
          have hc1 := hv1.cell
          have hf1 := hv1.frozen
          have hH4 := heldL_append (l := (no, wordsOf xs)) (hH3.below ((Below.refl _ _).alloc (Nat.le_refl _) _)) hgrow (by simpa using hat) (hS.below ((Below.refl _ _).alloc (Nat.le_refl _) _)) (fun _ e => by
            obtain ⟨q, hq, _⟩ := hS.blk_lt hl0
            have a1 := hfar q hq
            have a2 := (hrow.lt q (by rw [← e, hq])).2
            omega)
          have hF4 : Far w1.heap.size (vs ++ [.slice wo (wordsOf xs).length wc]) (Ls ++ [(no, wordsOf xs)]) := far_snoc hF hH.1 (fun b hb => by have := hfar b hb; omega)
          have hH5 := heldL_box hH4 hF4 (B := w.heap.size + 1 + 1 + 1) (by omega) (.slice (some ⟨g', 0, none⟩) (Ls.length + 1) cap')
          have hr5 : (w4.setCell ⟨w.heap.size + 1 + 1 + 1, 0, none⟩ (.slice (some ⟨g', 0, none⟩) (Ls.length + 1) cap')).ownsRow w1.heap.size 38 2 (.slice (some ⟨g', 0, none⟩) (Ls.length + 1) cap') (Ls ++ [(no, wordsOf xs)]).length (lineCells (Ls ++ [(no, wordsOf xs)]) (vs ++ [.slice wo (wordsOf xs).length wc])) := by
            rw [List.length_append, lineCells_snoc _ _ hH.1]; exact hr2
          have hs5 := hb4.size
          gi_wp2
          exact ⟨hK3.trans hk2, keepsIv_t hIv3 (fun b h1 h2 => hI2 b h2 (by omega)), ⟨_, _, _, hv2, hr5, hH5, hF4, by rw [List.length_append, List.length_append]; simp; omega, HL.out, HOk.out⟩, ⟨hO2 _ _ _ h03 (by omega) (by omega), hO2 _ _ _ h13 (by omega) (by omega), hO2 _ _ _ h23 (by omega) (by omega)⟩, by omega, hB3.trans hb4⟩
      · have hk0 : lineOK xs = false := by simpa using hk
        rw [hk0] at hmay
        gi_wp2_with (refine ⟨trivial, ?_⟩; gi_at_call 28; refine ((callsIn_wide.2 (hmay _)).inRound l).mono ?_)
        rintro e w3 ⟨rfl, hw3⟩
        subst w3
        generalize hno : wrap64 (xi + 1) = no
        have HEn : Hid (Enum (pre ++ [(xi, xs)]) → no = (((pre ++ [(xi, xs)]).length : Nat) : Int)) := fun h => by rw [← hno, wrap_one h.last (by omega), List.length_append, List.length_singleton]
        clear hno hmay
        have f0 := h0.cell
        have f0' := h0.frozen
        obtain ⟨⟨g1, g2⟩, ⟨k0, k1, k2⟩, kO, kB⟩ := three_set h0 h1 h2 (.slice none 0 0) (.int .i64 no) (.int .i64 2)
        have f1 := g1.cell
        have f1' := g1.frozen
        have f2 := g2.cell
        have f2' := g2.frozen
        have HOk : Hid (∀ y ∈ pre, lineOK y.2 = true) := hok
        have hBs := hB.size
        have hs5 := kB.size
        clear hok hE hsn
        gi_wp2
        exact ⟨kO, rfl, ⟨pre, (xi, xs), no, rfl, HOk.out, hk0, HEn.out, k0, k1, k2⟩, by omega, hB.trans kB⟩
    case done =>
      rintro D ys W hD rfl ⟨⟨v, vs, Ls, hv, hrow, hH, hF, hl, hE, hok⟩, ⟨h0, h1, h2⟩, hbs, hB⟩ hK
      have hEn := hE (numbered_enum _)
      rw [numbered_snd] at hEn
      subst hEn
      have hG := HGood.out (fun j hj => by
        have := hok (numbered (partsV s 10))[j] (List.getElem_mem (by rw [hnl]; exact hj))
        rw [numbered_at] at this
        simpa [hj] using this)
      have HG : Hid _ := hG
      clear hG HGood HBad
      obtain ⟨vo, vc, rfl⟩ := own_shape hrow
      have hc := hv.cell
      have f0 := h0.cell
      have f0' := h0.frozen
      obtain ⟨⟨g1, g2⟩, ⟨k0, k1, k2⟩, kO, kB⟩ := three_set h0 h1 h2 (.slice vo (linesOf 0 (partsV s 10)).length vc) (.int .i64 0) (.int .i64 0)
      have f1 := g1.cell
      have f1' := g1.frozen
      have f2 := g2.cell
      have f2' := g2.frozen
      have hK' := kO.same D _ hK rfl
      have hH3 := heldL_put (heldL_box (heldL_box (heldL_box hH hF (B := w.heap.size) (by omega) (.slice vo (linesOf 0 (partsV s 10)).length vc)) hF (B := w.heap.size + 1) (by omega) (.int .i64 0)) hF (B := w.heap.size + 1 + 1) (by omega) (.int .i64 0)) hK' rfl (.deferred none)
      have hrow3 := ownsRow_putObj (((hrow.kept (grownBy_setCell' W w.heap.size (.slice vo (linesOf 0 (partsV s 10)).length vc)) (.inr fun e => by have := own_base hrow _ e; omega)).kept (grownBy_setCell' _ (w.heap.size + 1) (.int .i64 0)) (.inr fun e => by have := own_base hrow _ e; omega)).kept (grownBy_setCell' _ (w.heap.size + 1 + 1) (.int .i64 0)) (.inr fun e => by have := own_base hrow _ e; omega)) (.deferred none) hK' rfl
      have hb5 : Below w.heap.size w _ := (hB.trans kB).trans (belowK_b (w := w1) (n₀ := w.heap.size) (by omega) _ D _ (.deferred none) (by omega) hK' rfl rfl)
      have q0 := (k0.kept (grownBy_putObj' _ D (.deferred none)) (by simp; omega)).cell
      have q1 := (k1.kept (grownBy_putObj' _ D (.deferred none)) (by simp; omega)).cell
      have q2 := (k2.kept (grownBy_putObj' _ D (.deferred none)) (by simp; omega)).cell
      gi_wp2
      refine ⟨by simp, .inl ⟨_, _, rfl, run_takeDeferred hK', ?_⟩⟩
      refine ⟨.tuple #[.slice vo (linesOf 0 (partsV s 10)).length vc, .int .i64 0, .int .i64 0], ?_, by rw [HG.out]; exact ⟨_, rfl, ⟨vs, heldL_lines hH3 (isRow_own hrow3)⟩, hb5⟩⟩
      simp [results, Tryd.f13, go_sem, q0, q1, q2]
    case stop =>
      rintro D c' pp W hD hpre ⟨rfl, ⟨q, x, no, rfl, hok, hx, hE, h0, h1, h2⟩, hss, hB⟩ hK
      have hen := (numbered_enum (partsV s 10)).prefix hpre
      have hno := hE hen
      subst hno
      have hG : splitV s = ([], (((q ++ [x]).length : Nat) : Int), 2) := by
        obtain ⟨t, ht⟩ := hpre
        have hPd : ∀ j, (partsV s 10).getD j ByteArray.empty = (((q ++ [x]) ++ t).map fun p => p.2).getD j ByteArray.empty := fun j => by rw [ht, numbered_snd]
        have hlen := congrArg List.length ht
        rw [hnl, List.length_append, List.length_append, List.length_singleton] at hlen
        rw [List.length_append, List.length_singleton]
        refine HBad.out q.length (by omega) (fun j hj => ?_) ?_
        · rw [hPd, List.getD_eq_getElem?_getD, List.getElem?_map, List.append_assoc, List.getElem?_append_left hj, List.getElem?_eq_getElem hj]
          exact hok _ (List.getElem_mem hj)
        · rw [hPd, List.getD_eq_getElem?_getD, List.getElem?_map, List.append_assoc, List.getElem?_append_right (Nat.le_refl _), Nat.sub_self]
          exact hx
      have HG : Hid _ := hG
      clear hG HGood HBad
      have hb5 : Below w.heap.size w _ := hB.trans (belowK_b (w := w1) (n₀ := w.heap.size) (by omega) _ D _ (.deferred none) (by omega) hK rfl rfl)
      have q0 := (h0.kept (grownBy_putObj' _ D (.deferred none)) (by simp; omega)).cell
      have q1 := (h1.kept (grownBy_putObj' _ D (.deferred none)) (by simp; omega)).cell
      have q2 := (h2.kept (grownBy_putObj' _ D (.deferred none)) (by simp; omega)).cell
      gi_wp2
      refine ⟨by simp, .inl ⟨_, _, rfl, run_takeDeferred hK, ?_⟩⟩
      refine ⟨.tuple #[.slice none 0 0, .int .i64 ((q ++ [x]).length : Nat), .int .i64 2], ?_, by rw [HG.out]; exact ⟨_, rfl, ⟨[], isLines_nil _⟩, hb5⟩⟩
      simp [results, Tryd.f13, go_sem, q0, q1, q2]

end Go.Proofs.YtkninlahlgipoaaDoor

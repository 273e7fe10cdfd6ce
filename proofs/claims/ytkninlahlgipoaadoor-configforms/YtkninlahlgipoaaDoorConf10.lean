/-
  The contract of package config's Text.
-/
import Derived.Test.YtkninlahlgipoaaDoorConf7
import Derived.Test.YtkninlahlgipoaaDoorConf8
import Derived.Test.YtkninlahlgipoaaDoorConf9
import Derived.Test.YtkninlahlgipoaaDoorLines1
import Derived.Test.YtkninlahlgipoaaDoorRels
namespace Go.Proofs.YtkninlahlgipoaaDoor
open Go.RowKit

/-- What each operation of Text's round yields, in the text's order. -/
def textV (o : Value) (k : Int) (rb : Nat) (nm val : ByteArray) (row : Value) (cs : Array Value) (b0 : Nat) : Nat → Value → World → Prop
  | 0, v, _ => v = o
  | 1, v, _ => v = .int .i64 k
  | 2, v, _ => v = .int .i64 (k + 1)
  | 3, v, _ => v = .pointer (some ⟨rb, 0, none⟩)
  | 4, v, _ => v = .string nm
  | 5, v, _ => v = row
  | 6, v, _ => v = .agg cs
  | 7, v, _ => v = .string val
  | 8, v, w => ∃ g, v = .slice (some ⟨g, 0, none⟩) 2 2 ∧ b0 ≤ g ∧ IsRow 1 w (.slice (some ⟨g, 0, none⟩) 2 2) 2 [.string nm, .string val]
  | 9, v, w => ∃ g, v = .agg #[.int .i64 (k + 1), .slice (some ⟨g, 0, none⟩) 2 2] ∧ b0 ≤ g ∧ IsRow 1 w (.slice (some ⟨g, 0, none⟩) 2 2) 2 [.string nm, .string val]
  | _, v, w => ∃ g, b0 ≤ g ∧ IsRow 1 w (.slice (some ⟨g, 0, none⟩) 2 2) 2 [.string nm, .string val] ∧ IsRow 2 w v 1 [.int .i64 (k + 1), .slice (some ⟨g, 0, none⟩) 2 2]
theorem textV_stays {o : Value} {k : Int} {rb : Nat} {nm val : ByteArray} {row : Value} {cs : Array Value} {b0 : Nat} : ∀ i v w w', textV o k rb nm val row cs b0 i v w → Below w.heap.size w w' → textV o k rb nm val row cs b0 i v w' := by
  intro i v w w' h hb
  match i with
  | 0 | 1 | 2 | 3 | 4 | 5 | 6 | 7 => exact h
  | 8 => obtain ⟨g, h1, h2, h3⟩ := h; exact ⟨g, h1, h2, h3.below hb⟩
  | 9 => obtain ⟨g, h1, h2, h3⟩ := h; exact ⟨g, h1, h2, h3.below hb⟩
  | n + 10 => obtain ⟨g, h2, h3, h4⟩ := h; exact ⟨g, h2, h3.below hb, h4.below hb⟩

theorem wrap_small {x : Int} (h0 : -9223372036854775808 ≤ x) (h1 : x ≤ 9223372036854775807) : IntKind.i64.wrap x = x := by
  simp only [IntKind.wrap, IntKind.signed, IntKind.bits]
  simp
  omega
/-- The lines of the first k names. -/
def linesC (n : List Int) (z : ByteArray) (k : Nat) : List LineT := numberedL 0 ((List.range k).map (pairC n z))
theorem linesC_length (n : List Int) (z : ByteArray) (k : Nat) : (linesC n z k).length = k := by
  unfold linesC
  have h : ∀ (l : List (List ByteArray)) (i : Nat), (numberedL i l).length = l.length := by
    intro l
    induction l with
    | nil => intro i; rfl
    | cons x r ih => intro i; rw [numberedL, List.length_cons, ih, List.length_cons]
  rw [h]; simp
theorem linesC_next (n : List Int) (z : ByteArray) (k : Nat) : linesC n z (k + 1) = linesC n z k ++ [(((k + 1 : Nat) : Int), [nameC k, valW n z k])] := by
  unfold linesC
  rw [List.range_succ, List.map_append, numberedL_append]
  simp [numberedL, pairC]
theorem own_lt {w : World} {base e sz n : Nat} {v : Value} {cs : List Value} (h : w.ownsRow base e sz v n cs) : ∀ b, v.ownBlock = some b → b < w.heap.size := by
  intro b hb
  rcases h.2 with ⟨rfl, _⟩ | ⟨g, cap, cur, rfl, _, hg, _⟩
  · simp [Value.ownBlock] at hb
  · simp [Value.ownBlock] at hb
    subst hb
    exact (Array.getElem?_eq_some_iff.1 hg).1

set_option maxRecDepth 100000 in
set_option maxHeartbeats 4000000 in
theorem text_may (c : Cfg) (hc : mayC c = true) (w : World) (ht : Tabs w) :
    Calls Tryd.prog 7 #[.agg c.arr] w fun e w' => e = .returned (.string (mkS (textC c))) ∧ Below w.heap.size w w' := by
  obtain ⟨i1, ji, jz0, jz1, jz2⟩ := info_parts infoLine
  have HT : Hid (Tabs w) := ht
  have hz : c.zone.size ≤ 9223372036854775807 := by
    rcases (may_parts hc).2 with h | h
    · omega
    · have := (clean_name h).2; omega
  have HMay := fun W h => may_any c W h hz
  rw [hc] at HMay
  have HWr : Hid (∀ k : Nat, k < 23 → ∀ W : World, Tabs W → Calls Tryd.prog 22 #[rowA k, .agg c.arr] W fun e w' => e = .returned (.string (valW c.nums c.zone k)) ∧ Below W.heap.size W w') := fun k hk W h => row_write k hk c hc W h
  have HI : Hid ((Tryd.prog.info? 23).map (·.size) = some c.arr.size) := by show _ = _; rw [arr_size]; kernel_rfl
  have HR : Hid (∀ k : Nat, k < 23 → ∀ W, (Instr.index 55 (.agg tabArr) (.int .i64 k)).run Tryd.prog W = .ok (rowA k) W) := run_row
  have HZ : Hid ((Tryd.prog.info? 55).map (·.size) = some tabArr.size) := by show _ = _; kernel_rfl
  have HTx : Hid (mkS (textL (linesC c.nums c.zone 23)) = mkS (textC c) ∧ (textL (linesC c.nums c.zone 23)).length ≤ 1000000) := by
    have e : textL (linesC c.nums c.zone 23) = textC c := by
      unfold linesC
      rw [← someC_text, textC_may hc]
    refine ⟨by rw [e], ?_⟩
    rw [e, textC_may hc]
    have := someC_length (may_parts hc).2 (List.range 23) (fun i hi => by simpa using hi) (fun i hi => (may_parts hc).1 i (by simpa using hi))
    simp at this
    omega
  have HNx : Hid (∀ k, linesC c.nums c.zone (k + 1) = linesC c.nums c.zone k ++ [(((k + 1 : Nat) : Int), [nameC k, valW c.nums c.zone k])]) := linesC_next _ _
  have HLn : Hid (∀ k, (linesC c.nums c.zone k).length = k) := linesC_length _ _
  have HL0 : Hid (linesC c.nums c.zone 0 = []) := rfl
  clear ht hc hz
  generalize mkS (textC c) = R at HTx ⊢
  generalize valW c.nums c.zone = VW at HWr HNx
  generalize linesC c.nums c.zone = LC at HTx HNx HLn HL0
  generalize c.arr = cs at HMay HWr HI ⊢
  go_enter Tryd.func7, Tryd.ntmps7
  go_wp2_with (refine wpList_load_row rfl 23 (.tmp 1) rfl w.heap.size rfl 23 _ (0, 0) _ (heap_alloc_new w _) Tryd.underlying23 rfl HI.out ?_)
  generalize hW0 : w.alloc _ = W0
  have HC0 : Hid (CellsAt W0 w.heap.size cs) := by show CellsAt _ _ _; rw [← hW0]; exact heap_alloc_new w _
  have HB0 : Hid (Below w.heap.size w W0) := by show Below _ _ _; rw [← hW0]; exact (Below.refl _ _).alloc (Nat.le_refl _) _
  clear hW0
  refine (HMay _ (HT.out.below HB0.out).1).mono ?_
  rintro e w1 ⟨rfl, hb⟩
  have HC1 : Hid (CellsAt w1 w.heap.size cs) := HC0.out.below hb
  have HB1 : Hid (Below w.heap.size w w1) := HB0.out.trans (hb.mono HB0.out.size)
  have HRl : Hid (w.heap.size < w1.heap.size) := HC1.out.lt
  clear hb HMay HC0 HB0
  obtain ⟨t, fr, hg⟩ := (HT.out.below HB1.out).1
  have HG : Hid (w1.heap[0]? = some (.cells tabArr t fr)) := hg
  clear hg
  generalize tabArr = TA at HG HR HZ
  go_wp2_with (refine wpList_load_row rfl 55 (.global 0) rfl 0 rfl t TA fr _ HG.out u_tab rfl HZ.out ?_)
  go_wp2
  go_loopw [3, 10] (fun o q wr => ∃ (k : Nat) (vs : List Value), k ≤ 23 ∧ q = .int .i64 k ∧ wr.ownsRow w1.heap.size 38 2 o k (lineCells (LC k) vs) ∧ HeldL wr o vs (LC k) ∧ Below w1.heap.size w1 wr) (fun _ q _ => 23 - (intOf q).toNat)
  case atStart => exact ⟨0, [], Nat.zero_le _, rfl, by rw [HL0.out]; exact World.ownsRow_nil _ _ _ _, by rw [HL0.out]; exact heldL_nil _ _, Below.refl _ _⟩
  case round =>
    obtain ⟨k, vs, hk, rfl, ho, hh, hb⟩ := hrel
    have HO : Hid (wr.ownsRow w1.heap.size 38 2 u3 k (lineCells (LC k) vs)) := ho
    have HH : Hid (HeldL wr u3 vs (LC k)) := hh
    have HB : Hid (Below w1.heap.size w1 wr) := hb
    clear ho hh hb
    by_cases hlt : k < 23
    · have hix := HR.out k hlt
      have HW2 : Hid _ := HWr.out k hlt
      have HN2 : Hid (LC (k + 1) = LC k ++ [(((k + 1 : Nat) : Int), [nameC k, VW k])]) := HNx.out k
      unfold rowA at hix HW2
      generalize nameC k = nm at hix HW2 HN2
      generalize (rowK k).1 = k1 at hix HW2
      generalize (rowK k).2.1 = k2 at hix HW2
      generalize (rowK k).2.2.1 = k3 at hix HW2
      generalize mkS (rowK k).2.2.2 = k4 at hix HW2
      generalize VW k = val at HW2 HN2
      obtain ⟨oo, oc, rfl⟩ := (isRow_own HO.out).shaped
      go_wp2
      generalize hW0' : wr.alloc _ = W0'
      obtain ⟨rb, hrb⟩ : ∃ rb, wr.heap.size = rb := ⟨_, rfl⟩
      rw [hrb]
      have HE0 : Hid (Below wr.heap.size wr W0') := by show Below _ _ _; rw [← hW0']; exact (Below.refl _ _).alloc (Nat.le_refl _) _
      have hrbl : rb < W0'.heap.size := by rw [← hW0', ← hrb]; simp
      have hcell : ∀ W (j : Nat), Below W0'.heap.size W0' W → W.cell? ⟨rb, j, none⟩ = (#[Value.string nm, .int .i64 k1, .int .i64 k2, .int .i64 k3, .string k4] : Array Value)[j]? := fun W j hE => by
        rw [hE.cell (p := ⟨rb, j, none⟩) hrbl, ← hW0', ← hrb]
        exact World.cell?_alloc_at _ _ _ _ rfl
      have hcfg : ∀ W, Below W0'.heap.size W0' W → CellsAt W w.heap.size cs := fun W hE => ((HC1.out.below HB.out).below HE0.out).below hE
      have HTb : Hid (Tabs W0') := (((HT.out.below HB1.out).below HB.out).below HE0.out)
      have hwr : ∀ W, Tabs W → Calls Tryd.prog 22 #[rowOf nm k1 k2 k3 k4, .agg cs] W fun e w' => e = .returned (.string val) ∧ Below W.heap.size W w' := fun W h => HW2.out W h
      have HO1 : Hid (W0'.ownsRow w1.heap.size 38 2 (.slice oo k oc) k (lineCells (LC k) vs)) := own_stays HO.out HE0.out
      have HH1 : Hid (HeldL W0' (.slice oo k oc) vs (LC k)) := HH.out.below HE0.out
      have HB2 : Hid (Below w1.heap.size w1 W0') := HB.out.trans (HE0.out.mono HB.out.size)
      have hwr1 : IntKind.i64.wrap ((k : Int) + 1) = (k : Int) + 1 := wrap_small (by omega) (by omega)
      clear hW0' hrb HW2 hix
      refine wp_region_head 11 (fun W W' => Below W.heap.size W W') (textV (.slice oo k oc) k rb nm val (rowOf nm k1 k2 k3 k4) cs W0'.heap.size) (by kernel_rfl) (by kernel_rfl) (Below.refl _ _).drew (fun W => Below.refl _ _) (fun _ _ _ h1 h2 => h1.trans (h2.mono h1.size)) textV_stays ?_ ?_
      · simp only [stepsHead, List.take_succ_cons, List.take_zero]
        refine ⟨fun a W hF hE hd => ?_, fun a W hF hE hd => ?_, fun a W hF hE hd => ?_, fun a W hF hE hd => ?_, fun a W hF hE hd => ?_, fun a W hF hE hd => ?_, fun a W hF hE hd => ?_, fun a W hF hE hd => ?_, fun a W hF hE hd => ?_, fun a W hF hE hd => ?_, fun a W hF hE hd => ?_, trivial⟩
        all_goals unfold StepAt
        · have t3 : a.tmps.getD 3 undef = .slice oo k oc := hF.at 3 (by kernel_rfl)
          rw [Array.getD_eq_getD_getElem?] at t3
          left
          refine ⟨rfl, ?_⟩
          go_simp
          exact ⟨Below.refl _ _, rfl⟩
        · have t4 : a.tmps.getD 4 undef = .int .i64 k := hF.at 4 (by kernel_rfl)
          rw [Array.getD_eq_getD_getElem?] at t4
          left
          refine ⟨rfl, ?_⟩
          go_simp
          exact ⟨Below.refl _ _, rfl⟩
        · have t15 : a.tmps.getD 15 undef = .int .i64 k := hd { on := 1, ground := .data } (by simp) rfl
          rw [Array.getD_eq_getD_getElem?] at t15
          left
          refine ⟨rfl, ?_⟩
          go_simp
          exact ⟨Below.refl _ _, rfl⟩
        · have t5 : a.tmps.getD 5 undef = .pointer (some ⟨rb, 0, none⟩) := hF.at 5 (by kernel_rfl)
          rw [Array.getD_eq_getD_getElem?] at t5
          left
          refine ⟨rfl, ?_⟩
          go_simp
          exact ⟨Below.refl _ _, rfl⟩
        · have t17 : a.tmps.getD 17 undef = .pointer (some ⟨rb, 0, none⟩) := hd { on := 3, ground := .data } (by simp) rfl
          rw [Array.getD_eq_getD_getElem?] at t17
          have c0 := hcell W 0 hE
          left
          refine ⟨rfl, ?_⟩
          go_simp
          exact ⟨Below.refl _ _, rfl⟩
        · have t5 : a.tmps.getD 5 undef = .pointer (some ⟨rb, 0, none⟩) := hF.at 5 (by kernel_rfl)
          rw [Array.getD_eq_getD_getElem?] at t5
          have c0 := hcell W 0 hE
          have c1 := hcell W 1 hE
          have c2 := hcell W 2 hE
          have c3 := hcell W 3 hE
          have c4 := hcell W 4 hE
          left
          refine ⟨rfl, ?_⟩
          go_simp
          exact ⟨Below.refl _ _, rfl⟩
        · have t1 : a.tmps.getD 1 undef = .pointer (some ⟨w.heap.size, 0, none⟩) := hF.at 1 (by kernel_rfl)
          rw [Array.getD_eq_getD_getElem?] at t1
          left
          refine ⟨rfl, ?_⟩
          rw [run_oload _ _ 23 (.tmp 1) rfl w.heap.size (by simpa [Act.eval] using t1) 23 cs (0, 0) _ (hcfg W hE) Tryd.underlying23 rfl HI.out]
          exact ⟨Below.refl _ _, rfl⟩
        · have t19 : a.tmps.getD 19 undef = rowOf nm k1 k2 k3 k4 := hd { on := 5, ground := .data } (by simp) rfl
          rw [Array.getD_eq_getD_getElem?] at t19
          have t20 : a.tmps.getD 20 undef = .agg cs := hd { on := 6, ground := .data } (by simp) rfl
          rw [Array.getD_eq_getD_getElem?] at t20
          left
          refine ⟨rfl, ?_⟩
          go_simp
          exact (hwr W (HTb.out.below hE)).mono fun e w2 h => ⟨_, h.1, h.2, rfl⟩
        · have t18 : a.tmps.getD 18 undef = .string nm := hd { on := 4, ground := .data } (by simp) rfl
          rw [Array.getD_eq_getD_getElem?] at t18
          have t21 : a.tmps.getD 21 undef = .string val := hd { on := 7, ground := .data } (by simp) rfl
          rw [Array.getD_eq_getD_getElem?] at t21
          left
          refine ⟨rfl, ?_⟩
          go_simp
          exact ⟨(Below.refl _ _).alloc (Nat.le_refl _) _, W.heap.size, rfl, hE.size, IsRow.fresh W [.string nm, .string val] 1 2 _ 2 rfl (by omega) (by unfold maxLen; omega) (by omega)⟩
        · have t16 : a.tmps.getD 16 undef = .int .i64 (k + 1) := hd { on := 2, ground := .data } (by simp) rfl
          rw [Array.getD_eq_getD_getElem?] at t16
          obtain ⟨g, hg, hgl, hgr⟩ : ∃ g, a.tmps.getD 22 undef = .slice (some ⟨g, 0, none⟩) 2 2 ∧ W0'.heap.size ≤ g ∧ IsRow 1 W (.slice (some ⟨g, 0, none⟩) 2 2) 2 [.string nm, .string val] := hd { on := 8, ground := .data } (by simp) rfl
          rw [Array.getD_eq_getD_getElem?] at hg
          left
          refine ⟨rfl, ?_⟩
          go_simp
          exact ⟨Below.refl _ _, g, rfl, hgl, hgr⟩
        · obtain ⟨g, hg, hgl, hgr⟩ : ∃ g, a.tmps.getD 23 undef = .agg #[.int .i64 (k + 1), .slice (some ⟨g, 0, none⟩) 2 2] ∧ W0'.heap.size ≤ g ∧ IsRow 1 W (.slice (some ⟨g, 0, none⟩) 2 2) 2 [.string nm, .string val] := hd { on := 9, ground := .data } (by simp) rfl
          rw [Array.getD_eq_getD_getElem?] at hg
          left
          refine ⟨rfl, ?_⟩
          go_simp
          exact ⟨(Below.refl _ _).alloc (Nat.le_refl _) _, g, hgl, hgr.below ((Below.refl _ _).alloc (Nat.le_refl _) _), one_line W (k + 1) _ _ _ rfl⟩
      · intro vs' W hE hV
        have h0 : vs' 0 = .slice oo k oc := hV 0 (by decide)
        obtain ⟨g, hgl, hgr, hgx⟩ : ∃ g, W0'.heap.size ≤ g ∧ IsRow 1 W (.slice (some ⟨g, 0, none⟩) 2 2) 2 [.string nm, .string val] ∧ IsRow 2 W (vs' 10) 1 [.int .i64 (k + 1), .slice (some ⟨g, 0, none⟩) 2 2] := hV 10 (by decide)
        have HOw : Hid (W.ownsRow w1.heap.size 38 2 (.slice oo k oc) k (lineCells (LC k) vs)) := own_stays HO1.out hE
        have HHw : Hid (HeldL W (.slice oo k oc) vs (LC k)) := HH1.out.below hE
        have HBw : Hid (Below w1.heap.size w1 W) := HB2.out.trans (hE.mono HB2.out.size)
        have hown : ∀ b, (Value.slice oo k oc).ownBlock = some b → b < W0'.heap.size := own_lt HO1.out
        clear hcell hcfg hwr hE hV HO1 HH1 HB2
        simp only [List.take_succ_cons, List.take_zero, List.drop_succ_cons, List.drop_zero, putsV, dstsV, List.foldl, h0, Act.put, List.setIfInBounds_toArray, List.set_cons_succ, List.set_cons_zero]
        clear h0
        generalize vs' 10 = u10 at hgx ⊢
        refine wpList_append_row rfl (.tmp 14) (.tmp 24) 32 rfl w1.heap.size 38 i1 _ 2 32 Tryd.underlying32 ji jz0 jz1 jz2 rfl (by decide) _ k _ rfl HOw.out _ 1 [.int .i64 (k + 1), .slice (some ⟨g, 0, none⟩) 2 2] rfl hgx (by simp [Value.oneCell']) (by unfold maxLen; omega) (by omega) HBw.out.size ?_
        intro v' w6 hown' hgrow hat
        have hne : blkOf (Value.slice (some ⟨g, 0, none⟩) 2 2) ≠ (Value.slice oo k oc).ownBlock := fun e => by
          have := hown g e.symm
          omega
        have HH6 : Hid (HeldL w6 v' (vs ++ [.slice (some ⟨g, 0, none⟩) 2 2]) (LC (k + 1))) := by
          show HeldL _ _ _ _
          rw [HN2.out]
          exact heldL_append HHw.out hgrow hat hgr (fun _ => hne)
        have HO6 : Hid (w6.ownsRow w1.heap.size 38 2 v' (k + 1) (lineCells (LC (k + 1)) (vs ++ [.slice (some ⟨g, 0, none⟩) 2 2]))) := by
          show World.ownsRow _ _ _ _ _ _ _
          rw [HN2.out, lineCells_snoc _ _ HHw.out.1]
          exact hown'
        have HB6 : Hid (Below w1.heap.size w1 w6) := HBw.out.grown hgrow HBw.out.size (own_base HOw.out)
        clear hown' hgrow hat hne hgr hgx hown HOw HHw HBw HN2
        go_wp2
        go_roundw
        case rel => exact ⟨k + 1, _, by omega, by go_num, HO6.out, HH6.out, HB6.out⟩
        case measure => simp [intOf]; omega
    · obtain rfl : k = 23 := by omega
      have hlen := HLn.out 23
      have HIs : Hid (IsLines wr u3 vs (LC 23)) := heldL_lines HH.out (by rw [hlen]; exact isRow_own HO.out)
      have HBa : Hid (Below w.heap.size w wr) := HB1.out.trans (HB.out.mono (by have := HRl.out; omega))
      have HJ := fun W h => join_any (LC 23) vs u3 W h HTx.out.2
      rw [HTx.out.1] at HJ
      clear hlen
      go_wp2_with fail
      refine (HJ _ HIs.out).mono ?_
      rintro e w7 ⟨rfl, hb7⟩
      have HB7 : Hid (Below w.heap.size w w7) := HBa.out.trans (hb7.mono HBa.out.size)
      clear hb7
      go_wp2
      go_ret
      exact ⟨rfl, HB7.out⟩

set_option maxRecDepth 100000 in
set_option maxHeartbeats 2000000 in
theorem text_not (c : Cfg) (hc : mayC c = false) (w : World) (ht : Tabs w) (hz : c.zone.size ≤ 9223372036854775807) :
    Calls Tryd.prog 7 #[.agg c.arr] w fun e w' => e = .returned (.string ⟨#[]⟩) ∧ Below w.heap.size w w' := by
  have HT : Hid (Tabs w) := ht
  have HMay := fun W h => may_any c W h hz
  rw [hc] at HMay
  have HI : Hid ((Tryd.prog.info? 23).map (·.size) = some c.arr.size) := by show _ = _; rw [arr_size]; kernel_rfl
  clear ht hc hz
  generalize c.arr = cs at HMay HI ⊢
  go_enter Tryd.func7, Tryd.ntmps7
  go_wp2_with (refine wpList_load_row rfl 23 (.tmp 1) rfl w.heap.size rfl 23 _ (0, 0) _ (heap_alloc_new w _) Tryd.underlying23 rfl HI.out ?_)
  refine (HMay _ (HT.out.alloc _).1).mono ?_
  rintro e w1 ⟨rfl, hb⟩
  have HB1 : Hid (Below w.heap.size w w1) := ((Below.refl _ w).alloc (Nat.le_refl _) _).trans (hb.mono (by simp))
  clear hb HMay
  go_wp2
  go_ret
  exact ⟨rfl, HB1.out⟩

/-- Text. -/
theorem text_any (c : Cfg) (w : World) (ht : Tabs w) (hz : c.zone.size ≤ 9223372036854775807) :
    Calls Tryd.prog 7 #[.agg c.arr] w fun e w' => e = .returned (.string (mkS (textC c))) ∧ Below w.heap.size w w' := by
  cases hc : mayC c with
  | true => exact text_may c hc w ht
  | false =>
    have e : textC c = [] := by unfold textC; rw [hc]; rfl
    rw [e]
    exact text_not c hc w ht hz

end Go.Proofs.YtkninlahlgipoaaDoor

/-
  The contract of package config's Parse.
-/
import Derived.Test.YtkninlahlgipoaaDoorConf6
import Derived.Test.YtkninlahlgipoaaDoorConfMath3
import Derived.Test.YtkninlahlgipoaaDoorLineSplit
import Derived.Test.YtkninlahlgipoaaDoorRels
namespace Go.Proofs.YtkninlahlgipoaaDoor
open Go.RowKit

theorem results_cell3 {P : Program} {fn : Func} {p q r : Tmp} {ty : TypeId} (h : fn.results = #[.cell p ty, .tmp q, .tmp r]) (tmps : Array Value) (w : World) (g : Nat) (t : TypeId) (cs : Array Value) (fr : Nat × Nat) (d : TypeDesc)
    (hp : tmps.getD p undef = .pointer (some ⟨g, 0, none⟩)) (hg : w.heap[g]? = some (.cells cs t fr))
    (hu : P.underlying ty = some d) (hd : (match d with | .struct _ | .array _ _ => true | _ => false) = true) (hi : (P.info? ty).map (·.size) = some cs.size) :
    (results fn tmps).run P w = .ok (.tuple #[.agg cs, tmps.getD q undef, tmps.getD r undef]) w := by
  have hp' : tmps[p]?.getD undef = .pointer (some ⟨g, 0, none⟩) := by simpa using hp
  simp [results, h, hp', asAddr, run_loadVar_row w g t ty cs fr d hg hu hd hi]

theorem run_ostore {P : Program} {w : World} (ρ : Operand → Value) (o : Oper) (ty : TypeId) (x y : Operand) (ho : o.op = .store ty x y) (g : Nat) (cells : Array Value) (hx : ρ x = .pointer (some ⟨g, 0, none⟩)) (hy : ρ y = .agg cells)
    (t : TypeId) (old : Array Value) (hg : w.heap[g]? = some (.cells old t (0, 0))) (hi : (P.info? ty).map (·.size) = some cells.size)
    (hold : old.size = cells.size) (h1 : cells.all (·.oneCell') = true) : (execOp ρ o).run P w = .ok .skip (w.setRow g cells) := by
  unfold execOp
  simp only [ho, hx, hy, Instr.storeAt, Instr.sureAddr, Sem.run_bind, Sem.run_pure, Result.andThen_ok, run_storeVar_row w g t ty old cells hg hi hold h1]

/-- No configuration: all at nought. -/
def zeroArr : Array Value := #[.int .i64 0, .int .i64 0, .int .i64 0, .int .i64 0, .int .i64 0, .int .i64 0, .int .i64 0, .int .i64 0, .int .i64 0, .int .i64 0, .int .i64 0, .int .i64 0, .int .i64 0, .int .i64 0, .int .i64 0, .bool false, .int .i64 0, .int .i64 0, .int .i64 0, .int .i64 0, .int .i64 0, .string ⟨#[]⟩, .bool false]
theorem zeroArr_eq : zeroC.arr = zeroArr := rfl
theorem zeroArr_one : zeroArr.all (·.oneCell') = true := by unfold zeroArr; simp [Value.oneCell']
theorem zero_info : (Tryd.prog.info? 23).map (·.size) = some zeroArr.size := by kernel_rfl

set_option maxRecDepth 100000 in
set_option maxHeartbeats 2000000 in
theorem parse_bad (s : ByteArray) (no er : Int) (L : List LineT) (hsp : splitV s = (L, no, er)) (her : ¬ er = 0) (w : World) (hs : s.size ≤ 9223372036854775807) :
    Calls Tryd.prog 5 #[.string s] w fun e w' => e = .returned (.tuple #[.agg zeroArr, .int .i64 no, .int .i64 er]) ∧ Below w.heap.size w w' := by
  have HSp := fun W => split_any s W hs
  rw [hsp] at HSp
  simp only at HSp
  have h0 : (er == 0) = false := by rw [beq_eq_false_iff_ne]; exact her
  have HL : Hid (splitV s = (L, no, er)) := hsp
  clear hsp
  go_enter Tryd.func5, Tryd.ntmps5
  go_wp2_with fail
  generalize hW0 : w.alloc _ = W0
  have HC0 : Hid (CellsAt W0 w.heap.size zeroArr) := by show CellsAt _ _ _; rw [← hW0]; exact heap_alloc_new w _
  have HB0 : Hid (Below w.heap.size w W0) := by show Below _ _ _; rw [← hW0]; exact (Below.refl _ _).alloc (Nat.le_refl _) _
  clear hW0
  refine (HSp _).mono ?_
  rintro e w1 ⟨v, rfl, _, hb⟩
  have HC1 : Hid (CellsAt w1 w.heap.size zeroArr) := HC0.out.below hb
  have HB1 : Hid (Below w.heap.size w w1) := HB0.out.trans (hb.mono HB0.out.size)
  clear hb HSp
  go_wp2_with (refine wpList_store_row rfl 23 (.tmp 2) (.tmp 22) rfl w.heap.size zeroArr rfl rfl 23 _ HC1.out zero_info rfl zeroArr_one ?_)
  try simp only [Exit.inBlock, Exit.then]
  refine bodyPost_ret (results_cell3 rfl _ _ w.heap.size 23 _ _ _ rfl (setRow_heap w1 _ _ _ _ _ HC1.out) Tryd.underlying23 rfl zero_info) rfl ?_
  exact ⟨rfl, below_setRow HB1.out (Nat.le_refl _) _⟩

/-- The array of which names stood. -/
def StoodAt (w : World) (b : Nat) (seen : List Bool) : Prop := w.heap[b]? = some (.cells ((seen.take 23).map Value.bool).toArray 35 (0, 0))
theorem StoodAt.lt {w : World} {b : Nat} {seen : List Bool} (h : StoodAt w b seen) : b < w.heap.size := (Array.getElem?_eq_some_iff.1 h).1
theorem StoodAt.below {w w' : World} {b : Nat} {seen : List Bool} (h : StoodAt w b seen) (hb : Below w.heap.size w w') : StoodAt w' b seen := (hb.block b h.lt).trans h
theorem StoodAt.alloc {w : World} {b : Nat} {seen : List Bool} (h : StoodAt w b seen) (o : Obj) : StoodAt (w.alloc o) b seen := h.below ((Below.refl _ _).alloc (Nat.le_refl _) _)
theorem StoodAt.grown {w w' : World} {b c : Nat} {seen : List Bool} (h : StoodAt w b seen) (hg : w.grownBy w' (some c)) (hne : b ≠ c) : StoodAt w' b seen := (hg.block b h.lt (by simpa using hne)).trans h
theorem StoodAt.cell {w : World} {b i : Nat} {seen : List Bool} (h : StoodAt w b seen) (hl : seen.length = 30) (hi : i < 23) : w.cell? ⟨b, i, none⟩ = some (.bool (seen.getD i false)) := by
  rw [cell_of_row w b i _ _ _ h]
  have : i < seen.length := by omega
  simp [hi, this]
theorem StoodAt.frozen {w : World} {b i : Nat} {seen : List Bool} (h : StoodAt w b seen) : w.frozen? ⟨b, i, none⟩ = false := frozen_of_row w b i _ _ h
theorem StoodAt.set {w : World} {b i : Nat} {seen : List Bool} (h : StoodAt w b seen) : StoodAt (w.setCell ⟨b, i, none⟩ (.bool true)) b (seen.set i true) := by
  have := heap_setCell_same w b i _ _ (.bool true) h
  unfold StoodAt
  rw [this]
  congr 2
  apply Array.toList_inj.1
  simp only [Array.toList_setIfInBounds, List.take_set, List.map_set]
theorem CellsAt.grown {w w' : World} {b c : Nat} {cs : Array Value} (h : CellsAt w b cs) (hg : w.grownBy w' (some c)) (hne : b ≠ c) : CellsAt w' b cs := (hg.block b h.lt (by simpa using hne)).trans h

/-- What is told of the lines read so far. -/
structure Reading (L : List LineT) (k : Nat) (r : Read) (cB sB : Nat) (w1 wr : World) : Prop where
  run : runC read0 L = runC r (L.drop k)
  good : GoodR r
  len : r.seen.length = 30
  cells : CellsAt wr cB (ofNums r.n r.z).arr
  stood : StoodAt wr sB r.seen
  below : Below w1.heap.size w1 wr

def badE (b : Nat) (w w' : World) : Prop := w.grownBy w' (some b) ∧ (CellsAt w b zeroArr → CellsAt w' b zeroArr)
def badV (lb : Nat) (no : Int) : Nat → Value → World → Prop
  | 0, v, _ => v = .agg zeroArr
  | 1, v, _ => v = .pointer (some ⟨lb, 0, none⟩)
  | 2, v, _ => v = .int .i64 no
  | 3, _, _ => True
  | 4, v, _ => v = .int .i64 no
  | _, v, _ => v = .int .i64 2
theorem badE_refl (b : Nat) (w : World) : badE b w w := ⟨grown_below (Below.refl _ _) _, id⟩
theorem badE_trans {b : Nat} {w w' w'' : World} (h : badE b w w') (h2 : badE b w' w'') : badE b w w'' := ⟨h.1.trans h2.1, fun x => h2.2 (h.2 x)⟩
theorem grown_setRow {w : World} {g : Nat} (cells : Array Value) : w.grownBy (w.setRow g cells) (some g) :=
  ⟨rfl, rfl, rfl, by simp, fun k _ hk => setRow_other w g k cells (fun e => hk (by rw [e]))⟩

set_option maxRecDepth 100000 in
set_option maxHeartbeats 4000000 in
theorem parse_good (s : ByteArray) (L : List LineT) (hsp : splitV s = (L, 0, 0)) (w : World) (htab : TabC w) (hs : s.size ≤ 9223372036854775807) :
    Calls Tryd.prog 5 #[.string s] w fun e w' => (match runC read0 L with
      | .inl r => e = .returned (.tuple #[.agg (ofNums r.n r.z).arr, .int .i64 0, .int .i64 0])
      | .inr no => e = .returned (.tuple #[.agg zeroArr, .int .i64 no, .int .i64 2])) ∧ Below w.heap.size w w' := by
  have HSp := fun W => split_any s W hs
  rw [hsp] at HSp
  simp only at HSp
  have HW : Hid (∀ l ∈ L, (∀ x ∈ l.2, x.size ≠ 0 ∧ x.size ≤ 4000) ∧ 1 ≤ l.1 ∧ l.1 ≤ 4001) := by
    have := split_words s
    rw [hsp] at this
    exact this
  have HT : Hid (TabC w) := htab
  clear hsp htab
  obtain ⟨R, hR⟩ : ∃ R, runC read0 L = R := ⟨_, rfl⟩
  rw [hR]
  have HR : Hid (runC read0 L = R) := hR
  clear hR
  have HDef := fun W h => default_any W h
  go_enter Tryd.func5, Tryd.ntmps5
  go_wp2_with fail
  generalize hW0 : w.alloc _ = W0
  have HC0 : Hid (CellsAt W0 w.heap.size zeroArr) := by show CellsAt _ _ _; rw [← hW0]; exact heap_alloc_new w _
  have HB0 : Hid (Below w.heap.size w W0) := by show Below _ _ _; rw [← hW0]; exact (Below.refl _ _).alloc (Nat.le_refl _) _
  clear hW0
  refine (HSp _).mono ?_
  rintro e w1 ⟨v, rfl, ⟨vs, hL⟩, hb⟩
  obtain ⟨ao, cap, rfl⟩ := hL.2.1.shaped
  have HL : Hid (IsLines w1 (.slice ao L.length cap) vs L) := hL
  have HC1 : Hid (CellsAt w1 w.heap.size zeroArr) := HC0.out.below hb
  have HB1 : Hid (Below w.heap.size w w1) := HB0.out.trans (hb.mono HB0.out.size)
  have HT1 : Hid (TabC w1) := HT.out.below HB1.out
  have hLm : L.length ≤ 9223372036854775807 := hL.2.1.2.1.1
  clear hb HSp hL HC0 HB0 HT
  go_wp2_with fail
  refine (HDef _ HT1.out).mono ?_
  rintro e w2 ⟨rfl, hb⟩
  have HB2 : Hid (Below w1.heap.size w1 w2) := hb
  clear hb HDef
  obtain ⟨D, hD⟩ : ∃ D, defC.arr = D := ⟨_, rfl⟩
  have HD0 : Hid (defC.arr = D) := hD
  rw [hD]
  have HDI : Hid ((Tryd.prog.info? 23).map (·.size) = some D.size) := by show _ = _; rw [← hD, arr_size]; kernel_rfl
  have HDS : Hid (D.size = 23) := by show _ = _; rw [← hD]; rfl
  have HDO : Hid (D.all (·.oneCell') = true) := by show _ = _; rw [← hD]; unfold Cfg.arr Cfg.cells; simp [Value.oneCell']
  clear hD
  go_wp2_with (refine wpList_store_row rfl 23 (.tmp 8) (.tmp 25) rfl w2.heap.size D rfl rfl 23 _ (heap_alloc_new w2 _) HDI.out HDS.out.symm HDO.out ?_)
  generalize hW3 : World.alloc (World.setRow _ _ _) _ = W3
  have HC3 : Hid (CellsAt W3 w2.heap.size (ofNums read0.n read0.z).arr) := by
    show CellsAt _ _ _
    rw [← hW3]
    refine CellsAt.alloc ?_ _
    rw [show (ofNums read0.n read0.z).arr = D from HD0.out]
    exact setRow_heap (w2.alloc _) _ _ _ _ _ (heap_alloc_new w2 _)
  have HS3 : Hid (StoodAt W3 (w2.heap.size + 1) read0.seen) := by
    show StoodAt _ _ _
    rw [← hW3]
    have e : ∀ (A B : Obj) (cs : Array Value), (((w2.alloc A).setRow w2.heap.size cs).alloc B).heap[w2.heap.size + 1]? = some B := fun A B cs => by
      have := heap_alloc_new ((w2.alloc A).setRow w2.heap.size cs) B
      have h2 : ((w2.alloc A).setRow w2.heap.size cs).heap.size = w2.heap.size + 1 := by simp
      rwa [h2] at this
    exact e _ _ _
  have HB3 : Hid (Below w1.heap.size w1 W3) := by
    show Below _ _ _
    rw [← hW3]
    have hw := HB2.out.size
    exact (below_setRow (HB2.out.alloc hw _) hw _).alloc (by simp; omega) _
  have HN3 : Hid (w1.heap.size ≤ w2.heap.size) := HB2.out.size
  have HRl : Hid (w.heap.size < w1.heap.size) := HC1.out.lt
  clear hW3 HD0 HDI HDS HDO HB2
  generalize w2.heap.size = cB at HC3 HS3 HN3 ⊢
  go_loopw [28] (fun q wr => ∃ (k : Nat) (r : Read), k ≤ L.length ∧ q = .int .i64 k ∧ Reading L k r cB (cB + 1) w1 wr) (fun q _ => L.length - (intOf q).toNat)
  case atStart => exact ⟨0, read0, Nat.zero_le _, rfl, ⟨rfl, good0, rfl, HC3.out, HS3.out, HB3.out⟩⟩
  case round =>
    obtain ⟨k, r, hk, rfl, hrd⟩ := hrel
    have HRd : Hid (Reading L k r cB (cB + 1) w1 wr) := hrd
    clear hrd
    by_cases hlt : k < L.length
    · have hlr := HL.out.below HRd.out.below
      obtain ⟨b, off, rfl, hbl, g1, g2⟩ := hlr.at k hlt
      have HWs : Hid (IsStrs wr (vs.getD k nilW) (L.getD k (0, [])).2) := hlr.2.2 k hlt
      have HWb : Hid (0 < (L.getD k (0, [])).2.length → blkOf (vs.getD k nilW) ≠ some cB) := fun h0 e => by
        obtain ⟨b2, e2, hl2⟩ := (HL.out.2.2 k hlt).blk_lt h0
        rw [e] at e2
        have := HN3.out
        simp only [Option.some.injEq] at e2
        omega
      have hmem : L.getD k (0, []) ∈ L := by
        have e : L.getD k (0, []) = L[k] := by simp [hlt]
        rw [e]; exact List.getElem_mem hlt
      have HWx := HW.out _ hmem
      have HRun := runC_at r L k hlt
      rw [stepC_words] at HRun
      have HRu : Hid (runC r (L.drop k) = match (match wordsC (L.getD k (0, [])).2 with
          | none => none
          | some (i, kk, z) => if r.seen.getD i false then none else some ⟨r.n.set i kk, if i = 21 then z else r.z, r.seen.set i true⟩) with
        | none => .inr (L.getD k (0, [])).1
        | some r' => runC r' (L.drop (k + 1))) := HRun
      have HIn : Hid (∀ i kk z, wordsC (L.getD k (0, [])).2 = some (i, kk, z) → i < 23) := fun i kk z h => (wordsC_in h).1
      have HSt : Hid (∀ r', stepC r (L.getD k (0, [])).2 = some r' → GoodR r' ∧ r'.seen.length = 30) := fun r' h => ⟨step_good HRd.out.good h, (step_seenlen h).trans HRd.out.len⟩
      have HSe := stepC_words r (L.getD k (0, [])).2
      have HSq : Hid (stepC r (L.getD k (0, [])).2 = match wordsC (L.getD k (0, [])).2 with
          | none => none
          | some (i, kk, z) => if r.seen.getD i false then none else some ⟨r.n.set i kk, if i = 21 then z else r.z, r.seen.set i true⟩) := HSe
      have HRL := fun W h1 h2 h3 h4 h5 => readLine_any (L.getD k (0, [])).2 r.n HRd.out.good.len r.z cB (vs.getD k nilW) W h1 h2 h3 h4 (fun x hx => ⟨(HWx.1 x hx).1, by have := (HWx.1 x hx).2; omega⟩) h5
      have HZ : Hid (r.z.size ≤ 9223372036854775807) := by
        show _ ≤ _
        rcases HRd.out.good.zone with h | h
        · omega
        · have := (clean_name h).2; omega
      obtain ⟨no, ws, hl⟩ : ∃ no ws, L.getD k (0, []) = (no, ws) := ⟨_, _, rfl⟩
      rw [hl] at g1 HWs HWb HRu HIn HSt HSq HRL
      simp only at g1 HWs HWb HRu HIn HSt HSq HRL
      clear hlr hmem HWx HRun HSe hl
      generalize vs.getD k nilW = wv at g2 HWs HWb HRL
      generalize hWC : wordsC ws = WC at HRu HIn HSq HRL
      clear hWC
      obtain ⟨wo, wc, rfl⟩ := HWs.out.shaped
      go_wp2_with fail
      refine (HRL _ ((HT1.out.below HRd.out.below).alloc _) (HRd.out.cells.alloc _) (HWs.out.below ((Below.refl _ _).alloc (Nat.le_refl _) _)) HWb.out HZ.out).mono ?_
      rintro e w5 ⟨hg5, hsay⟩
      clear HRL
      have HCz : Hid (CellsAt w5 w.heap.size zeroArr) := (((HC1.out.below HRd.out.below).alloc _).grown hg5 (by have := HN3.out; have := HRl.out; omega))
      have HBz : Hid (Below w.heap.size w w5) := below_grown ((HB1.out.trans (HRd.out.below.mono (by have := HRl.out; omega))).alloc (by have := HB1.out.size; have := HRd.out.below.size; omega) _) hg5 (by have := HN3.out; have := HRl.out; omega) (by have := HB1.out.size; have := HRd.out.below.size; simp; omega)
      have hline : ∀ W, badE w.heap.size w5 W → W.cell? ⟨wr.heap.size, 0, none⟩ = some (.int .i64 no) := fun W hE => by
        have hlt5 : wr.heap.size < w5.heap.size := by have := hg5.size; simp at this; omega
        have h1 : w.heap.size < wr.heap.size := by have := HRl.out; have := HRd.out.below.size; omega
        have h2 : cB < wr.heap.size := HRd.out.cells.lt
        rw [hE.1.cell_far ⟨wr.heap.size, 0, none⟩ hlt5 (fun e => by simp at e; omega), hg5.cell_far ⟨wr.heap.size, 0, none⟩ (by simp) (fun e => by simp at e; omega)]
        exact World.cell?_alloc_at _ _ _ _ rfl
      have HS5 : Hid (StoodAt w5 (cB + 1) r.seen) := (HRd.out.stood.alloc _).grown hg5 (by omega)
      have HB5 : Hid (Below w1.heap.size w1 w5) := below_grown (HRd.out.below.alloc HRd.out.below.size _) hg5 HN3.out (by have := HRd.out.below.size; simp; omega)
      clear hg5
      cases WC with
      | none =>
        have e0 : R = .inr no := by rw [← HR.out, HRd.out.run, HRu.out]
        have e1 : e = .returned (.tuple #[.int .i64 0, .bool false]) := hsay
        subst e0 e1
        clear hsay HRu HSq HIn HS5 HSt
        go_wp2
        refine wp_region_rel4 (badE w.heap.size) (badV wr.heap.size no) (by kernel_rfl) (by kernel_rfl) ⟨grown_below (Below.refl _ _).drew _, fun h => h⟩ (badE_refl _) (fun _ _ _ h1 h2 => badE_trans h1 h2) (fun i v _ _ h _ => by match i with | 0 | 1 | 2 | 3 | 4 => exact h | n + 5 => exact h) ?_ ?_
        · simp only [stepsAll3]
          refine ⟨fun a W hF hE hd => ?_, fun a W hF hE hd => ?_, fun a W hF hE hd => ?_, fun a W hF hE hd => ?_, fun a W hF hE hd => ?_, fun a W hF hE hd => ?_, trivial⟩
          all_goals unfold StepAt
          · left
            refine ⟨rfl, ?_⟩
            go_simp
            exact ⟨badE_refl _ _, rfl⟩
          · have t11 : a.tmps.getD 11 undef = .pointer (some ⟨wr.heap.size, 0, none⟩) := hF.at 11 (by kernel_rfl)
            rw [Array.getD_eq_getD_getElem?] at t11
            left
            refine ⟨rfl, ?_⟩
            go_simp
            exact ⟨badE_refl _ _, rfl⟩
          · have t46 : a.tmps.getD 46 undef = .pointer (some ⟨wr.heap.size, 0, none⟩) := hd { on := 1, ground := .data } (by simp) rfl
            rw [Array.getD_eq_getD_getElem?] at t46
            have c0 : W.cell? ⟨wr.heap.size, 0, none⟩ = some (.int .i64 no) := hline W hE
            left
            refine ⟨rfl, ?_⟩
            go_simp
            exact ⟨badE_refl _ _, rfl⟩
          · have t2 : a.tmps.getD 2 undef = .pointer (some ⟨w.heap.size, 0, none⟩) := hF.at 2 (by kernel_rfl)
            rw [Array.getD_eq_getD_getElem?] at t2
            have t45 : a.tmps.getD 45 undef = .agg zeroArr := hd { on := 0, ground := .data } (by simp) rfl
            rw [Array.getD_eq_getD_getElem?] at t45
            left
            refine ⟨rfl, ?_⟩
            rw [run_ostore _ _ 23 (.tmp 2) (.tmp 45) rfl w.heap.size zeroArr (by simpa [Act.eval] using t2) (by simpa [Act.eval] using t45) 23 zeroArr (hE.2 HCz.out) zero_info rfl zeroArr_one]
            exact ⟨⟨grown_setRow _, fun h => setRow_heap W _ _ _ _ _ h⟩, trivial⟩
          · have t47 : a.tmps.getD 47 undef = .int .i64 no := hd { on := 2, ground := .data } (by simp) rfl
            rw [Array.getD_eq_getD_getElem?] at t47
            left
            refine ⟨rfl, ?_⟩
            go_simp
            exact ⟨badE_refl _ _, rfl⟩
          · left
            refine ⟨rfl, ?_⟩
            go_simp
            exact ⟨badE_refl _ _, rfl⟩
        · intro vs' W hE hV
          have h3 : vs' 4 = .int .i64 no := hV 4 (by decide)
          have h4 : vs' 5 = .int .i64 2 := hV 5 (by decide)
          have HCf : Hid (CellsAt W w.heap.size zeroArr) := hE.2 HCz.out
          have HBf : Hid (Below w.heap.size w W) := below_grown HBz.out hE.1 (Nat.le_refl _) HBz.out.size
          clear hV hE
          simp only [putsV, dstsV, List.foldl, h3, h4, Act.put, List.setIfInBounds_toArray, List.set_cons_succ, List.set_cons_zero]
          clear h3 h4
          refine ‹∀ (a : Act) (w : World), Code.wp Tryd.prog Code.ret _ a w → _› _ _ ?_
          go_wp2
          try simp only [Exit.inBlock, Exit.then]
          refine bodyPost_ret (results_cell3 rfl _ _ w.heap.size 23 _ _ _ rfl HCf.out Tryd.underlying23 rfl zero_info) rfl ?_
          exact ⟨rfl, HBf.out⟩
      | some p =>
        obtain ⟨i, kk, zz⟩ := p
        have hi := HIn.out i kk zz rfl
        obtain ⟨e1, hca⟩ : e = .returned (.tuple #[.int .i64 i, .bool true]) ∧ CellsAt w5 cB (ofNums (r.n.set i kk) (if i = 21 then zz else r.z)).arr := hsay
        subst e1
        have HCa : Hid (CellsAt w5 cB (ofNums (r.n.set i kk) (if i = 21 then zz else r.z)).arr) := hca
        have hst := HS5.out.cell HRd.out.len hi
        have hfz : w5.frozen? ⟨cB + 1, i, none⟩ = false := HS5.out.frozen
        clear HIn hca
        by_cases hsn : r.seen.getD i false = true
        · have e0 : R = .inr no := by
            rw [← HR.out, HRd.out.run, HRu.out]
            simp only [hsn, if_true]
          subst e0
          rw [hsn] at hst
          clear HRu HSq HS5 HSt HCa hfz hsn
          go_wp2
          refine wp_region_rel4 (badE w.heap.size) (badV wr.heap.size no) (by kernel_rfl) (by kernel_rfl) ⟨grown_below (Below.refl _ _).drew _, fun h => h⟩ (badE_refl _) (fun _ _ _ h1 h2 => badE_trans h1 h2) (fun i v _ _ h _ => by match i with | 0 | 1 | 2 | 3 | 4 => exact h | n + 5 => exact h) ?_ ?_
          · simp only [stepsAll3]
            refine ⟨fun a W hF hE hd => ?_, fun a W hF hE hd => ?_, fun a W hF hE hd => ?_, fun a W hF hE hd => ?_, fun a W hF hE hd => ?_, fun a W hF hE hd => ?_, trivial⟩
            all_goals unfold StepAt
            · left
              refine ⟨rfl, ?_⟩
              go_simp
              exact ⟨badE_refl _ _, rfl⟩
            · have t11 : a.tmps.getD 11 undef = .pointer (some ⟨wr.heap.size, 0, none⟩) := hF.at 11 (by kernel_rfl)
              rw [Array.getD_eq_getD_getElem?] at t11
              left
              refine ⟨rfl, ?_⟩
              go_simp
              exact ⟨badE_refl _ _, rfl⟩
            · have t46 : a.tmps.getD 46 undef = .pointer (some ⟨wr.heap.size, 0, none⟩) := hd { on := 1, ground := .data } (by simp) rfl
              rw [Array.getD_eq_getD_getElem?] at t46
              have c0 : W.cell? ⟨wr.heap.size, 0, none⟩ = some (.int .i64 no) := hline W hE
              left
              refine ⟨rfl, ?_⟩
              go_simp
              exact ⟨badE_refl _ _, rfl⟩
            · have t2 : a.tmps.getD 2 undef = .pointer (some ⟨w.heap.size, 0, none⟩) := hF.at 2 (by kernel_rfl)
              rw [Array.getD_eq_getD_getElem?] at t2
              have t45 : a.tmps.getD 45 undef = .agg zeroArr := hd { on := 0, ground := .data } (by simp) rfl
              rw [Array.getD_eq_getD_getElem?] at t45
              left
              refine ⟨rfl, ?_⟩
              rw [run_ostore _ _ 23 (.tmp 2) (.tmp 45) rfl w.heap.size zeroArr (by simpa [Act.eval] using t2) (by simpa [Act.eval] using t45) 23 zeroArr (hE.2 HCz.out) zero_info rfl zeroArr_one]
              exact ⟨⟨grown_setRow _, fun h => setRow_heap W _ _ _ _ _ h⟩, trivial⟩
            · have t47 : a.tmps.getD 47 undef = .int .i64 no := hd { on := 2, ground := .data } (by simp) rfl
              rw [Array.getD_eq_getD_getElem?] at t47
              left
              refine ⟨rfl, ?_⟩
              go_simp
              exact ⟨badE_refl _ _, rfl⟩
            · left
              refine ⟨rfl, ?_⟩
              go_simp
              exact ⟨badE_refl _ _, rfl⟩
          · intro vs' W hE hV
            have h3 : vs' 4 = .int .i64 no := hV 4 (by decide)
            have h4 : vs' 5 = .int .i64 2 := hV 5 (by decide)
            have HCf : Hid (CellsAt W w.heap.size zeroArr) := hE.2 HCz.out
            have HBf : Hid (Below w.heap.size w W) := below_grown HBz.out hE.1 (Nat.le_refl _) HBz.out.size
            clear hV hE
            simp only [putsV, dstsV, List.foldl, h3, h4, Act.put, List.setIfInBounds_toArray, List.set_cons_succ, List.set_cons_zero]
            clear h3 h4
            refine ‹∀ (a : Act) (w : World), Code.wp Tryd.prog Code.ret _ a w → _› _ _ ?_
            go_wp2
            try simp only [Exit.inBlock, Exit.then]
            refine bodyPost_ret (results_cell3 rfl _ _ w.heap.size 23 _ _ _ rfl HCf.out Tryd.underlying23 rfl zero_info) rfl ?_
            exact ⟨rfl, HBf.out⟩
        · have hsn' : r.seen.getD i false = false := by simpa using hsn
          rw [hsn'] at hst
          have HNx : Hid (runC read0 L = runC ⟨r.n.set i kk, if i = 21 then zz else r.z, r.seen.set i true⟩ (L.drop (k + 1))) := by
            show _ = _
            rw [HRd.out.run, HRu.out]
            simp only [hsn', Bool.false_eq_true, if_false]
          have HGd : Hid (GoodR ⟨r.n.set i kk, if i = 21 then zz else r.z, r.seen.set i true⟩ ∧ (r.seen.set i true).length = 30) := by
            have := HSt.out ⟨r.n.set i kk, if i = 21 then zz else r.z, r.seen.set i true⟩ (by rw [HSq.out]; simp only [hsn', Bool.false_eq_true, if_false])
            exact this
          clear HRu HSq HSt hsn hsn' hline HCz HBz
          have HRf : Hid (Reading L (k + 1) ⟨r.n.set i kk, if i = 21 then zz else r.z, r.seen.set i true⟩ cB (cB + 1) w1 (w5.setCell ⟨cB + 1, i, none⟩ (.bool true))) :=
            ⟨HNx.out, HGd.out.1, HGd.out.2, HCa.out.grown (grown_set w5 ⟨cB + 1, i, none⟩ _) (by simp), HS5.out.set, below_grown HB5.out (grown_set w5 ⟨cB + 1, i, none⟩ _) (by have := HN3.out; show _ ≤ cB + 1; omega) HB5.out.size⟩
          clear HNx HGd HCa HS5 HB5
          go_wp2
          go_roundw
          case rel => exact ⟨k + 1, _, by omega, by go_num, HRf.out⟩
          case measure => simp [intOf]; omega
    · have e0 : R = .inl r := by rw [← HR.out, HRd.out.run, runC_end r L k (by omega)]
      subst e0
      have HCr : Hid (CellsAt wr w.heap.size zeroArr) := HC1.out.below HRd.out.below
      have HBr : Hid (Below w.heap.size w wr) := HB1.out.trans (HRd.out.below.mono (by have := HRl.out; omega))
      have HCc : Hid (CellsAt wr cB (ofNums r.n r.z).arr) := HRd.out.cells
      have HI : Hid ((Tryd.prog.info? 23).map (·.size) = some (ofNums r.n r.z).arr.size) := by show _ = _; rw [arr_size]; kernel_rfl
      have HO : Hid ((ofNums r.n r.z).arr.all (·.oneCell') = true) := by show _ = _; unfold Cfg.arr Cfg.cells; simp [Value.oneCell']
      go_wp2_with (first | (refine wpList_load_row rfl 23 (.tmp 8) rfl cB rfl 23 _ (0, 0) _ HCc.out Tryd.underlying23 rfl HI.out ?_) | (refine wpList_store_row rfl 23 (.tmp 2) (.tmp 51) rfl w.heap.size (ofNums r.n r.z).arr rfl rfl 23 _ HCr.out HI.out rfl HO.out ?_))
      try simp only [Exit.inBlock, Exit.then]
      refine bodyPost_ret (results_cell3 rfl _ _ w.heap.size 23 _ _ _ rfl (setRow_heap wr _ _ _ _ _ HCr.out) Tryd.underlying23 rfl HI.out) rfl ?_
      exact ⟨rfl, below_setRow HBr.out (Nat.le_refl _) _⟩

/-- Parse. -/
theorem parse_any (s : ByteArray) (w : World) (htab : TabC w) (hs : s.size ≤ 9223372036854775807) :
    Calls Tryd.prog 5 #[.string s] w fun e w' => e = .returned (.tuple #[.agg (parseV s).1.arr, .int .i64 (parseV s).2.1, .int .i64 (parseV s).2.2]) ∧ Below w.heap.size w w' := by
  obtain ⟨L, no, er, hsp⟩ : ∃ L no er, splitV s = (L, no, er) := ⟨_, _, _, rfl⟩
  by_cases her : er = 0
  · have hno : no = 0 := by
      rcases split_no s with ⟨_, h, _⟩ | ⟨h, _⟩
      · rw [hsp] at h; exact h
      · rw [hsp] at h; simp only at h; omega
    subst her hno
    refine (parse_good s L hsp w htab hs).mono ?_
    rintro e w1 ⟨h, hb⟩
    refine ⟨?_, hb⟩
    unfold parseV
    rw [hsp]
    simp only [if_true]
    cases hr : runC read0 L with
    | inl r => rw [hr] at h; exact h
    | inr no => rw [hr] at h; exact h
  · refine (parse_bad s no er L hsp her w hs).mono ?_
    rintro e w1 ⟨rfl, hb⟩
    refine ⟨?_, hb⟩
    unfold parseV
    rw [hsp]
    simp only [if_neg her]
    rfl

end Go.Proofs.YtkninlahlgipoaaDoor

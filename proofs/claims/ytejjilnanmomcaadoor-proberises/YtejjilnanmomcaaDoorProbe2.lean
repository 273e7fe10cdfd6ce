/-
  Contracts of package probe: Force, known, needed, End.
-/
import Derived.Test.YtejjilnanmomcaaDoorProbe1
import Derived.Test.YtejjilnanmomcaaDoorConf7
namespace Go.Proofs.YtejjilnanmomcaaDoor
open Go.RowKit

/-- The configuration that c counts as. -/
def knownC (c : Cfg) : Cfg := if mayC c then c else defC
def needC (c : Cfg) (u : Bool) : Int := if u then (knownC c).f4 else (knownC c).f3
theorem arr_one (c : Cfg) : c.arr.all (·.oneCell') = true := by unfold Cfg.arr Cfg.cells; simp [Value.oneCell']
theorem arr_inf (c : Cfg) : (Tryd.prog.info? 23).map (·.size) = some c.arr.size := by rw [arr_size]; kernel_rfl
theorem pcells_one (p : ProbeT) : (pcells p).all (·.oneCell') = true := by simp [pcells, Value.oneCell']

set_option maxHeartbeats 1000000 in
theorem pforce_any (p : ProbeT) (how : Int) (w : World) : Calls Tryd.prog 12 #[pval p, .int .i64 how] w fun e w' => e = .returned (.tuple #[pval (forceP p how).1, .int .i64 (forceP p how).2]) ∧ Below w.heap.size w w' := by
  by_cases h : how < 0 ∨ 2 < how
  · have hf : forceP p how = (p, 0) := if_pos h
    rw [hf]
    clear hf
    obtain ⟨u, r, f, i⟩ := p
    unfold pval pcells
    simp only
    rcases h with h | h
    · go_enter Tryd.func12, Tryd.ntmps12
      go_wp2
      refine bodyPost_ret (results_ct_row rfl _ _ (w.heap.size + 1) 25 _ _ _ rfl (heap_alloc2_new w _ _) Tryd.underlying25 rfl infoProbing) rfl ?_
      exact ⟨rfl, ((Below.refl _ _).alloc (Nat.le_refl _) _).alloc (by simp) _⟩
    · have h0 : ¬ how < 0 := by omega
      go_enter Tryd.func12, Tryd.ntmps12
      go_wp2
      refine bodyPost_ret (results_ct_row rfl _ _ (w.heap.size + 1) 25 _ _ _ rfl (heap_alloc2_new w _ _) Tryd.underlying25 rfl infoProbing) rfl ?_
      exact ⟨rfl, ((Below.refl _ _).alloc (Nat.le_refl _) _).alloc (by simp) _⟩
  · have hf : forceP p how = ({ p with forced := how }, moveP p { p with forced := how }) := if_neg h
    rw [hf]
    clear hf
    have h0 : ¬ how < 0 := by omega
    have h1 : ¬ 2 < how := by omega
    clear h
    have HMv' : Hid (∀ W : World, Calls Tryd.prog 21 #[pval p, pval { p with forced := how }] W fun e w' => e = .returned (.int .i64 (moveP p { p with forced := how })) ∧ Below W.heap.size W w') := pmove_any p _
    generalize moveP p { p with forced := how } = M at HMv' ⊢
    obtain ⟨u, r, f, i⟩ := p
    unfold pval pcells at HMv' ⊢
    simp only at HMv' ⊢
    go_enter Tryd.func12, Tryd.ntmps12
    go_upto_region 5 with fail
    obtain ⟨cp, hcp, sp⟩ : ∃ c : Array Value, (#[.bool u, .int .i64 r, .int .i64 f, .int .i64 i] : Array Value) = c ∧ c.size = 4 := ⟨_, rfl, rfl⟩
    obtain ⟨cn, hcn, sn⟩ : ∃ c : Array Value, (#[.bool u, .int .i64 r, .int .i64 how, .int .i64 i] : Array Value) = c ∧ c.size = 4 := ⟨_, rfl, rfl⟩
    have HOn : Hid (cn.all (·.oneCell') = true) := by show _ = _; rw [← hcn]; simp [Value.oneCell']
    have HRes : Hid ((#[.bool u, .int .i64 r, .int .i64 how, .int .i64 i] : Array Value) = cn) := hcn
    rw [hcp, hcn] at HMv' ⊢
    have HMv := HMv'.out
    have HIp : Hid ((Tryd.prog.info? 25).map (·.size) = some cp.size) := by show _ = _; rw [sp]; kernel_rfl
    have HIn : Hid ((Tryd.prog.info? 25).map (·.size) = some cn.size) := by show _ = _; rw [sn]; kernel_rfl
    have HZn : Hid ((4 : Nat) = cn.size) := sn.symm
    clear hcp hcn sp sn HMv'
    generalize hW0 : ((w.alloc _).alloc _).alloc _ = W0
    have HP : ∀ W, Below W0.heap.size W0 W → HasBox W w.heap.size 25 cp := fun W h => HasBox.below (by rw [← hW0]; exact ((hasBox_new w _ _).alloc _).alloc _) h
    have HN : ∀ W, Below W0.heap.size W0 W → HasBox W (w.heap.size + 1 + 1) 25 cn := fun W h => HasBox.below (by rw [← hW0]; exact hasBox_new' _ _ _ _ (by simp)) h
    have HZ : ∀ W, Below W0.heap.size W0 W → HasBox W (w.heap.size + 1) 25 #[.bool false, .int .i64 0, .int .i64 0, .int .i64 0] := fun W h => HasBox.below (by rw [← hW0]; exact (hasBox_new' _ _ _ _ (by simp)).alloc _) h
    have HB0 : Hid (Below w.heap.size w W0) := by show Below _ _ _; rw [← hW0]; exact (((Below.refl _ _).alloc (Nat.le_refl _) _).alloc (by simp) _).alloc (by simp; omega) _
    clear hW0
    refine wp_region_head 4 (fun W W' => Below W.heap.size W W') (fun jj vv _ => vv = ([.agg cn, .agg cp, .agg cn, .int .i64 M] : List Value).getD jj undef) (by kernel_rfl) (by kernel_rfl) (Below.refl _ _).drew (fun W => Below.refl _ _) (fun _ _ _ h1 h2 => h1.trans (h2.mono h1.size)) (fun _ _ _ _ h _ => h) ?_ ?_
    · simp only [stepsHead, List.take_succ_cons, List.take_zero]
      refine ⟨fun a W hF hE hd => ?_, fun a W hF hE hd => ?_, fun a W hF hE hd => ?_, fun a W hF hE hd => ?_, trivial⟩
      all_goals unfold StepAt
      · have t6 : a.tmps.getD 6 undef = .pointer (some ⟨w.heap.size + 1 + 1, 0, none⟩) := hF.at 6 (by kernel_rfl)
        rw [Array.getD_eq_getD_getElem?] at t6
        refine .inl ⟨rfl, ?_⟩
        rw [run_oload _ _ 25 (.tmp 6) rfl (w.heap.size + 1 + 1) (by simpa [Act.eval] using t6) 25 (cn) (0, 0) _ (HN W hE) Tryd.underlying25 rfl HIn.out]
        exact ⟨Below.refl _ _, rfl⟩
      · have t2 : a.tmps.getD 2 undef = .pointer (some ⟨w.heap.size, 0, none⟩) := hF.at 2 (by kernel_rfl)
        rw [Array.getD_eq_getD_getElem?] at t2
        refine .inl ⟨rfl, ?_⟩
        rw [run_oload _ _ 25 (.tmp 2) rfl (w.heap.size) (by simpa [Act.eval] using t2) 25 (cp) (0, 0) _ (HP W hE) Tryd.underlying25 rfl HIp.out]
        exact ⟨Below.refl _ _, rfl⟩
      · have t6 : a.tmps.getD 6 undef = .pointer (some ⟨w.heap.size + 1 + 1, 0, none⟩) := hF.at 6 (by kernel_rfl)
        rw [Array.getD_eq_getD_getElem?] at t6
        refine .inl ⟨rfl, ?_⟩
        rw [run_oload _ _ 25 (.tmp 6) rfl (w.heap.size + 1 + 1) (by simpa [Act.eval] using t6) 25 (cn) (0, 0) _ (HN W hE) Tryd.underlying25 rfl HIn.out]
        exact ⟨Below.refl _ _, rfl⟩
      · have t18 : a.tmps.getD 18 undef = .agg cp := hd { on := 1, ground := .data } (by simp) rfl
        rw [Array.getD_eq_getD_getElem?] at t18
        have t19 : a.tmps.getD 19 undef = .agg cn := hd { on := 2, ground := .data } (by simp) rfl
        rw [Array.getD_eq_getD_getElem?] at t19
        refine .inl ⟨rfl, ?_⟩
        go_simp
        exact (HMv W).mono fun e w2 h => ⟨_, h.1, h.2, rfl⟩
    · intro vs W hE hV
      have h0 : vs 0 = .agg cn := hV 0 (by decide)
      have h3 : vs 3 = .int .i64 M := hV 3 (by decide)
      have HZW : Hid (HasBox W (w.heap.size + 1) 25 #[.bool false, .int .i64 0, .int .i64 0, .int .i64 0]) := HZ W hE
      have HBW : Hid (Below w.heap.size w W) := HB0.out.trans (hE.mono HB0.out.size)
      clear hV hE HP HN HZ HMv
      simp only [putsV, dstsV, List.take_succ_cons, List.take_zero, List.drop_succ_cons, List.drop_zero, List.foldl, h0, h3, Act.put, List.setIfInBounds_toArray, List.set_cons_succ, List.set_cons_zero]
      clear h0 h3
      generalize vs 1 = y1
      generalize vs 2 = y2
      go_wp2_with (first | (refine wpList_store_row rfl 25 (.tmp 4) (.tmp 17) rfl (w.heap.size + 1) cn rfl rfl 25 _ HZW.out HIn.out HZn.out HOn.out ?_) | fail)
      refine bodyPost_ret (results_ct_row rfl _ _ (w.heap.size + 1) 25 _ _ _ rfl (setRow_heap W _ _ _ _ _ HZW.out) Tryd.underlying25 rfl HIn.out) rfl ?_
      have e := HRes.out
      subst e
      exact ⟨rfl, below_setRow HBW.out (by omega) _⟩

set_option maxRecDepth 100000 in
set_option maxHeartbeats 2000000 in
theorem pknown_any (c : Cfg) (w : World) (htab : TabC w) (hz : c.zone.size ≤ 9223372036854775807) :
    Calls Tryd.prog 22 #[.agg c.arr] w fun e w' => e = .returned (.agg (knownC c).arr) ∧ Below w.heap.size w w' := by
  have HT : Hid (TabC w) := htab
  clear htab
  have HMay : Hid (∀ W : World, TabC W → Calls Tryd.prog 28 #[.agg c.arr] W fun e w' => e = .returned (.bool (mayC c)) ∧ Below W.heap.size W w') := fun W h => may_any c W h hz
  have HK : Hid (knownC c = if mayC c then c else defC) := rfl
  have HI : Hid ((Tryd.prog.info? 23).map (·.size) = some c.arr.size) := arr_inf c
  have HJ : Hid ((Tryd.prog.info? 23).map (·.size) = some defC.arr.size) := arr_inf defC
  have HOc : Hid (c.arr.all (·.oneCell') = true) := arr_one c
  have HOd : Hid (defC.arr.all (·.oneCell') = true) := arr_one defC
  have HDef : Hid (∀ W : World, TabC W → Calls Tryd.prog 17 #[] W fun e w' => e = .returned (.agg defC.arr) ∧ Below W.heap.size W w') := default_any
  have HR : Hid ((knownC c).arr = if mayC c then c.arr else defC.arr) := by show _ = _; rw [HK.out]; split <;> rfl
  have hs1 : c.arr.size = 23 := arr_size c
  have hs2 : defC.arr.size = 23 := arr_size defC
  have HS1 : Hid (c.arr.size = 23) := hs1
  have HS2 : Hid (defC.arr.size = 23) := hs2
  clear HK hs1 hs2
  generalize (knownC c).arr = R at HR ⊢
  generalize c.arr = cs at HMay HI HOc HR HS1 ⊢
  generalize defC.arr = ds at HDef HJ HOd HR HS2
  generalize mayC c = q at HMay HR
  go_enter Tryd.func22, Tryd.ntmps22
  go_upto_region 1 with fail
  generalize hW0 : (w.alloc _).alloc _ = W0
  obtain ⟨old, hold, hg0⟩ : ∃ old : Array Value, old.size = 23 ∧ CellsAt W0 (w.heap.size + 1) old := ⟨_, rfl, by rw [← hW0]; exact heap_alloc2_new w _ _⟩
  have HZ0 : Hid (CellsAt W0 (w.heap.size + 1) old) := hg0
  have HOld : Hid (old.size = 23) := hold
  have HC0 : Hid (CellsAt W0 w.heap.size cs) := by show CellsAt _ _ _; rw [← hW0]; exact heap_alloc2_old w _ _
  have HB0 : Hid (Below w.heap.size w W0) := by show Below _ _ _; rw [← hW0]; exact ((Below.refl _ _).alloc (Nat.le_refl _) _).alloc (by simp) _
  have HT0 : Hid (TabC W0) := HT.out.below HB0.out
  clear hW0 hold hg0 HT
  go_wp2_with (first | (refine wpList_load_row rfl 23 (.tmp 1) rfl w.heap.size rfl 23 _ (0, 0) _ HC0.out Tryd.underlying23 rfl HI.out ?_) | fail)
  refine (HMay.out _ HT0.out).mono ?_
  rintro e w1 ⟨rfl, hb⟩
  have HC1 : Hid (CellsAt w1 w.heap.size cs) := HC0.out.below hb
  have HZ1 : Hid (CellsAt w1 (w.heap.size + 1) old) := HZ0.out.below hb
  have HB1 : Hid (Below w.heap.size w w1) := HB0.out.trans (hb.mono HB0.out.size)
  have HT1 : Hid (TabC w1) := HT0.out.below hb
  clear hb HC0 HZ0 HB0 HT0 HMay
  cases q with
  | true =>
    have e : R = cs := HR.out
    subst e
    have HOS : Hid (old.size = R.size) := HOld.out.trans HS1.out.symm
    go_wp2_with (first | (refine wpList_load_row rfl 23 (.tmp 1) rfl w.heap.size rfl 23 _ (0, 0) _ HC1.out Tryd.underlying23 rfl HI.out ?_) | (refine wpList_store_row rfl 23 (.tmp 2) (.tmp 5) rfl (w.heap.size + 1) R rfl rfl 23 _ HZ1.out HI.out HOS.out HOc.out ?_) | fail)
    refine bodyPost_ret (results_cell_row rfl _ _ (w.heap.size + 1) 23 _ _ _ rfl (setRow_heap w1 _ _ _ _ _ HZ1.out) Tryd.underlying23 rfl HI.out) rfl ?_
    exact ⟨rfl, below_setRow HB1.out (by omega) _⟩
  | false =>
    have e : R = ds := HR.out
    subst e
    have HOS : Hid (old.size = R.size) := HOld.out.trans HS2.out.symm
    go_wp2_with fail
    refine (HDef.out _ HT1.out).mono ?_
    rintro e w2 ⟨rfl, hb⟩
    have HZ2 : Hid (CellsAt w2 (w.heap.size + 1) old) := HZ1.out.below hb
    have HB2 : Hid (Below w.heap.size w w2) := HB1.out.trans (hb.mono HB1.out.size)
    clear hb HC1 HZ1 HB1 HT1 HDef
    go_wp2_with (first | (refine wpList_store_row rfl 23 (.tmp 2) (.tmp 6) rfl (w.heap.size + 1) R rfl rfl 23 _ HZ2.out HJ.out HOS.out HOd.out ?_) | fail)
    refine bodyPost_ret (results_cell_row rfl _ _ (w.heap.size + 1) 23 _ _ _ rfl (setRow_heap w2 _ _ _ _ _ HZ2.out) Tryd.underlying23 rfl HJ.out) rfl ?_
    exact ⟨rfl, below_setRow HB2.out (by omega) _⟩

set_option maxRecDepth 100000 in
set_option maxHeartbeats 2000000 in
theorem pneeded_any (c : Cfg) (u : Bool) (w : World) (htab : TabC w) (hz : c.zone.size ≤ 9223372036854775807) :
    Calls Tryd.prog 20 #[.agg c.arr, .bool u] w fun e w' => e = .returned (.int .i64 (needC c u)) ∧ Below w.heap.size w w' := by
  have HT : Hid (TabC w) := htab
  clear htab
  have HK : Hid (∀ W : World, TabC W → Calls Tryd.prog 22 #[.agg c.arr] W fun e w' => e = .returned (.agg (knownC c).arr) ∧ Below W.heap.size W w') := fun W h => pknown_any c W h hz
  have HI : Hid ((Tryd.prog.info? 23).map (·.size) = some c.arr.size) := arr_inf c
  have HJ : Hid ((Tryd.prog.info? 23).map (·.size) = some (knownC c).arr.size) := arr_inf _
  have HOS : Hid (c.arr.size = (knownC c).arr.size) := (arr_size c).trans (arr_size _).symm
  have HOd : Hid ((knownC c).arr.all (·.oneCell') = true) := arr_one _
  have HN : Hid (needC c u = if u then (knownC c).f4 else (knownC c).f3) := rfl
  have c4 : (knownC c).arr[4]? = some (.int .i64 (knownC c).f4) := rfl
  have c3 : (knownC c).arr[3]? = some (.int .i64 (knownC c).f3) := rfl
  have HC4 : Hid _ := c4
  have HC3 : Hid _ := c3
  clear c4 c3
  generalize needC c u = R at HN ⊢
  generalize (knownC c).f4 = n4 at HN HC4
  generalize (knownC c).f3 = n3 at HN HC3
  generalize (knownC c).arr = ds at HK HJ HOS HOd HC4 HC3
  generalize c.arr = cs at HK HI HOS ⊢
  cases u with
  | true =>
    have e : R = n4 := HN.out
    subst e
    clear HN
    go_enter Tryd.func20, Tryd.ntmps20
    go_upto_region 1 with fail
    generalize hW0 : w.alloc _ = W0
    have HC0 : Hid (CellsAt W0 w.heap.size cs) := by show CellsAt _ _ _; rw [← hW0]; exact heap_alloc_new w _
    have HB0 : Hid (Below w.heap.size w W0) := by show Below _ _ _; rw [← hW0]; exact (Below.refl _ _).alloc (Nat.le_refl _) _
    have HT0 : Hid (TabC W0) := HT.out.below HB0.out
    clear hW0 HT
    go_wp2_with (first | (refine wpList_load_row rfl 23 (.tmp 2) rfl w.heap.size rfl 23 _ (0, 0) _ HC0.out Tryd.underlying23 rfl HI.out ?_) | fail)
    refine (HK.out _ HT0.out).mono ?_
    rintro e w1 ⟨rfl, hb⟩
    have HC1 : Hid (CellsAt w1 w.heap.size cs) := HC0.out.below hb
    have HB1 : Hid (Below w.heap.size w w1) := HB0.out.trans (hb.mono HB0.out.size)
    clear hb HC0 HB0 HT0 HK
    go_wp2_with (first | (refine wpList_store_row rfl 23 (.tmp 2) (.tmp 6) rfl w.heap.size ds rfl rfl 23 _ HC1.out HJ.out HOS.out HOd.out ?_; generalize hW2 : World.setRow _ _ _ = W2; have HC2 : Hid (CellsAt W2 w.heap.size ds) := (by show CellsAt _ _ _; rw [← hW2]; exact setRow_heap _ _ _ _ _ _ HC1.out); have q4 : W2.cell? ⟨w.heap.size, 4, none⟩ = some (.int .i64 R) := HC2.out.cell.trans HC4.out; have q3 : W2.cell? ⟨w.heap.size, 3, none⟩ = some (.int .i64 n3) := HC2.out.cell.trans HC3.out; have HB2 : Hid (Below w.heap.size w W2) := (by show Below _ _ _; rw [← hW2]; exact below_setRow HB1.out (Nat.le_refl _) _); clear hW2) | fail)
    go_ret
    exact ⟨rfl, HB2.out⟩
  | false =>
    have e : R = n3 := HN.out
    subst e
    clear HN
    go_enter Tryd.func20, Tryd.ntmps20
    go_upto_region 1 with fail
    generalize hW0 : w.alloc _ = W0
    have HC0 : Hid (CellsAt W0 w.heap.size cs) := by show CellsAt _ _ _; rw [← hW0]; exact heap_alloc_new w _
    have HB0 : Hid (Below w.heap.size w W0) := by show Below _ _ _; rw [← hW0]; exact (Below.refl _ _).alloc (Nat.le_refl _) _
    have HT0 : Hid (TabC W0) := HT.out.below HB0.out
    clear hW0 HT
    go_wp2_with (first | (refine wpList_load_row rfl 23 (.tmp 2) rfl w.heap.size rfl 23 _ (0, 0) _ HC0.out Tryd.underlying23 rfl HI.out ?_) | fail)
    refine (HK.out _ HT0.out).mono ?_
    rintro e w1 ⟨rfl, hb⟩
    have HC1 : Hid (CellsAt w1 w.heap.size cs) := HC0.out.below hb
    have HB1 : Hid (Below w.heap.size w w1) := HB0.out.trans (hb.mono HB0.out.size)
    clear hb HC0 HB0 HT0 HK
    go_wp2_with (first | (refine wpList_store_row rfl 23 (.tmp 2) (.tmp 6) rfl w.heap.size ds rfl rfl 23 _ HC1.out HJ.out HOS.out HOd.out ?_; generalize hW2 : World.setRow _ _ _ = W2; have HC2 : Hid (CellsAt W2 w.heap.size ds) := (by show CellsAt _ _ _; rw [← hW2]; exact setRow_heap _ _ _ _ _ _ HC1.out); have q4 : W2.cell? ⟨w.heap.size, 4, none⟩ = some (.int .i64 n4) := HC2.out.cell.trans HC4.out; have q3 : W2.cell? ⟨w.heap.size, 3, none⟩ = some (.int .i64 R) := HC2.out.cell.trans HC3.out; have HB2 : Hid (Below w.heap.size w W2) := (by show Below _ _ _; rw [← hW2]; exact below_setRow HB1.out (Nat.le_refl _) _); clear hW2) | fail)
    go_ret
    exact ⟨rfl, HB2.out⟩

set_option maxRecDepth 100000 in
set_option maxHeartbeats 4000000 in
theorem pend_any (c : Cfg) (p : ProbeT) (ok : Bool) (w : World) (htab : TabC w) (hz : c.zone.size ≤ 9223372036854775807) (hp : inP p) :
    Calls Tryd.prog 9 #[.agg c.arr, pval p, .bool ok] w fun e w' => e = .returned (.tuple #[pval (endP (knownC c).f3 (knownC c).f4 p ok).1, .int .i64 (endP (knownC c).f3 (knownC c).f4 p ok).2]) ∧ Below w.heap.size w w' := by
  have HT : Hid (TabC w) := htab
  clear htab
  have HK : Hid (∀ (u : Bool) (W : World), TabC W → Calls Tryd.prog 20 #[.agg c.arr, .bool u] W fun e w' => e = .returned (.int .i64 (needC c u)) ∧ Below W.heap.size W w') := fun u W h => pneeded_any c u W h hz
  have HI : Hid ((Tryd.prog.info? 23).map (·.size) = some c.arr.size) := arr_inf c
  have hn : needP (knownC c).f3 (knownC c).f4 p = needC c p.up := rfl
  have HMv' : Hid (∀ W : World, Calls Tryd.prog 21 #[pval p, pval { p with up := ok, run := 0, wait := 0 }] W fun e w' => e = .returned (.int .i64 (moveP p { p with up := ok, run := 0, wait := 0 })) ∧ Below W.heap.size W w') := pmove_any p _
  unfold endP
  rw [hn]
  clear hn
  by_cases h1 : ok = p.up
  · rw [if_pos h1]
    subst h1
    obtain ⟨u, r, f, i⟩ := p
    unfold pval pcells
    simp only
    clear HMv' HK HI HT
    generalize c.arr = cs
    have HU : Hid ((u == u) = true) := by show _ = _; simp
    go_enter Tryd.func9, Tryd.ntmps9
    go_wp2
    refine bodyPost_ret (results_ct_row rfl _ _ (w.heap.size + 1 + 1) 25 _ _ _ rfl ((hasBox_new' _ _ _ _ (by simp)).alloc _) Tryd.underlying25 rfl infoProbing) rfl ?_
    exact ⟨rfl, ((((Below.refl _ _).alloc (Nat.le_refl _) _).alloc (by simp) _).alloc (by simp; omega) _).alloc (by simp; omega) _⟩
  · rw [if_neg h1]
    have HOne : Hid (∀ W : World, Calls Tryd.prog 19 #[.int .i64 p.run] W fun e w' => e = .returned (.int .i64 (nextRun p.run)) ∧ w' = W) := fun W => pmore_any _ hp.1.2 W
    have HK1 : Hid (∀ W : World, TabC W → Calls Tryd.prog 20 #[.agg c.arr, .bool p.up] W fun e w' => e = .returned (.int .i64 (needC c p.up)) ∧ Below W.heap.size W w') := HK.out p.up
    have h1' : (ok == p.up) = false := by cases ok <;> cases hu : p.up <;> simp_all
    clear HK hp
    generalize nextRun p.run = R at HOne ⊢
    generalize needC c p.up = E at HK1 ⊢
    generalize moveP p { p with up := ok, run := 0, wait := 0 } = M at HMv' ⊢
    generalize c.arr = cs at HK1 HI ⊢
    obtain ⟨u, r, f, i⟩ := p
    unfold pval pcells at *
    simp only at *
    by_cases h2 : E ≤ R
    · rw [if_pos h2]
      simp only
      go_enter Tryd.func9, Tryd.ntmps9
      go_wp2_with fail
      refine (HOne.out _).mono ?_
      rintro e w1 ⟨rfl, hw⟩
      subst w1
      generalize hW0 : (((w.alloc _).alloc _).alloc _).alloc _ = W0
      have HC0 : Hid (CellsAt W0 w.heap.size cs) := by show CellsAt _ _ _; rw [← hW0]; exact (((hasBox_new w _ _).alloc _).alloc _).alloc _
      have HP0 : Hid (HasBox W0 (w.heap.size + 1) 25 #[.bool u, .int .i64 r, .int .i64 f, .int .i64 i]) := by show HasBox _ _ _ _; rw [← hW0]; exact ((hasBox_new' _ _ _ _ (by simp)).alloc _).alloc _
      have HZ0 : Hid (HasBox W0 (w.heap.size + 1 + 1) 25 #[.bool false, .int .i64 0, .int .i64 0, .int .i64 0]) := by show HasBox _ _ _ _; rw [← hW0]; exact (hasBox_new' _ _ _ _ (by simp)).alloc _
      have HN0 : Hid (HasBox W0 (w.heap.size + 1 + 1 + 1) 25 #[.bool u, .int .i64 0, .int .i64 f, .int .i64 0]) := by show HasBox _ _ _ _; rw [← hW0]; exact hasBox_new' _ _ _ _ (by simp)
      have HB0 : Hid (Below w.heap.size w W0) := by show Below _ _ _; rw [← hW0]; exact ((((Below.refl _ _).alloc (Nat.le_refl _) _).alloc (by simp) _).alloc (by simp; omega) _).alloc (by simp; omega) _
      have HT0 : Hid (TabC W0) := HT.out.below HB0.out
      have q0 : W0.cell? ⟨w.heap.size + 1, 0, none⟩ = some (.bool u) := HP0.out.cell 0
      clear hW0 HT HOne
      go_wp2_with (first | (refine wpList_load_row rfl 23 (.tmp 3) rfl w.heap.size rfl 23 _ (0, 0) _ HC0.out Tryd.underlying23 rfl HI.out ?_) | fail)
      refine (HK1.out _ HT0.out).mono ?_
      rintro e w1 ⟨rfl, hb⟩
      have HP1 : Hid (HasBox w1 (w.heap.size + 1) 25 _) := HP0.out.below hb
      have HZ1 : Hid (HasBox w1 (w.heap.size + 1 + 1) 25 _) := HZ0.out.below hb
      have HN1 : Hid (HasBox w1 (w.heap.size + 1 + 1 + 1) 25 _) := HN0.out.below hb
      have HB1 : Hid (Below w.heap.size w w1) := HB0.out.trans (hb.mono HB0.out.size)
      have n0 : w1.cell? ⟨w.heap.size + 1 + 1 + 1, 0, none⟩ = some (.bool u) := HN1.out.cell 0
      have nf : w1.frozen? ⟨w.heap.size + 1 + 1 + 1, 0, none⟩ = false := HN1.out.frozen 0
      clear hb HP0 HZ0 HN0 HB0 HT0 HC0 HK1 HI q0
      obtain ⟨cp, hcp, sp⟩ : ∃ c : Array Value, (#[.bool u, .int .i64 r, .int .i64 f, .int .i64 i] : Array Value) = c ∧ c.size = 4 := ⟨_, rfl, rfl⟩
      obtain ⟨cn, hcn, sn⟩ : ∃ c : Array Value, (#[.bool ok, .int .i64 0, .int .i64 f, .int .i64 0] : Array Value) = c ∧ c.size = 4 := ⟨_, rfl, rfl⟩
      have HOn : Hid (cn.all (·.oneCell') = true) := by show _ = _; rw [← hcn]; simp [Value.oneCell']
      have HRes : Hid ((#[.bool ok, .int .i64 0, .int .i64 f, .int .i64 0] : Array Value) = cn) := hcn
      have HNs : Hid ((#[.bool u, .int .i64 0, .int .i64 f, .int .i64 0] : Array Value).setIfInBounds 0 (.bool ok) = cn) := hcn
      rw [hcp, hcn] at HMv'
      rw [hcp] at HP1
      have HMv := HMv'.out
      have HIp : Hid ((Tryd.prog.info? 25).map (·.size) = some cp.size) := by show _ = _; rw [sp]; kernel_rfl
      have HIn : Hid ((Tryd.prog.info? 25).map (·.size) = some cn.size) := by show _ = _; rw [sn]; kernel_rfl
      have HZn : Hid ((4 : Nat) = cn.size) := sn.symm
      clear hcp hcn sp sn HMv'
      go_upto_region 9 with fail
      generalize hW2 : w1.setCell _ _ = W2
      have HP2 : Hid (HasBox W2 (w.heap.size + 1) 25 cp) := by show HasBox _ _ _ _; rw [← hW2]; exact HP1.out.setOther _ (by simp) _
      have HZ2 : Hid (HasBox W2 (w.heap.size + 1 + 1) 25 #[.bool false, .int .i64 0, .int .i64 0, .int .i64 0]) := by show HasBox _ _ _ _; rw [← hW2]; exact HZ1.out.setOther _ (by simp) _
      have HN2 : Hid (HasBox W2 (w.heap.size + 1 + 1 + 1) 25 cn) := by show HasBox _ _ _ _; rw [← hW2, ← HNs.out]; exact HN1.out.set 0 _
      have HB0 : Hid (Below w.heap.size w W2) := by show Below _ _ _; rw [← hW2]; exact HB1.out.setCell (by simp; omega) _
      have HP : ∀ W, Below W2.heap.size W2 W → HasBox W (w.heap.size + 1) 25 cp := fun W h => HP2.out.below h
      have HN : ∀ W, Below W2.heap.size W2 W → HasBox W (w.heap.size + 1 + 1 + 1) 25 cn := fun W h => HN2.out.below h
      have HZ : ∀ W, Below W2.heap.size W2 W → HasBox W (w.heap.size + 1 + 1) 25 #[.bool false, .int .i64 0, .int .i64 0, .int .i64 0] := fun W h => HZ2.out.below h
      clear hW2 HP1 HZ1 HN1 HB1 HP2 HZ2 HN2 n0 nf
      refine wp_region_head 4 (fun W W' => Below W.heap.size W W') (fun jj vv _ => vv = ([.agg cn, .agg cp, .agg cn, .int .i64 M] : List Value).getD jj undef) (by kernel_rfl) (by kernel_rfl) (Below.refl _ _).drew (fun W => Below.refl _ _) (fun _ _ _ h1 h2 => h1.trans (h2.mono h1.size)) (fun _ _ _ _ h _ => h) ?_ ?_
      · simp only [stepsHead, List.take_succ_cons, List.take_zero]
        refine ⟨fun a W hF hE hd => ?_, fun a W hF hE hd => ?_, fun a W hF hE hd => ?_, fun a W hF hE hd => ?_, trivial⟩
        all_goals unfold StepAt
        · have t8 : a.tmps.getD 8 undef = .pointer (some ⟨w.heap.size + 1 + 1 + 1, 0, none⟩) := hF.at 8 (by kernel_rfl)
          rw [Array.getD_eq_getD_getElem?] at t8
          refine .inl ⟨rfl, ?_⟩
          rw [run_oload _ _ 25 (.tmp 8) rfl (w.heap.size + 1 + 1 + 1) (by simpa [Act.eval] using t8) 25 (cn) (0, 0) _ (HN W hE) Tryd.underlying25 rfl HIn.out]
          exact ⟨Below.refl _ _, rfl⟩
        · have t4 : a.tmps.getD 4 undef = .pointer (some ⟨w.heap.size + 1, 0, none⟩) := hF.at 4 (by kernel_rfl)
          rw [Array.getD_eq_getD_getElem?] at t4
          refine .inl ⟨rfl, ?_⟩
          rw [run_oload _ _ 25 (.tmp 4) rfl (w.heap.size + 1) (by simpa [Act.eval] using t4) 25 (cp) (0, 0) _ (HP W hE) Tryd.underlying25 rfl HIp.out]
          exact ⟨Below.refl _ _, rfl⟩
        · have t8 : a.tmps.getD 8 undef = .pointer (some ⟨w.heap.size + 1 + 1 + 1, 0, none⟩) := hF.at 8 (by kernel_rfl)
          rw [Array.getD_eq_getD_getElem?] at t8
          refine .inl ⟨rfl, ?_⟩
          rw [run_oload _ _ 25 (.tmp 8) rfl (w.heap.size + 1 + 1 + 1) (by simpa [Act.eval] using t8) 25 (cn) (0, 0) _ (HN W hE) Tryd.underlying25 rfl HIn.out]
          exact ⟨Below.refl _ _, rfl⟩
        · have t30 : a.tmps.getD 30 undef = .agg cp := hd { on := 1, ground := .data } (by simp) rfl
          rw [Array.getD_eq_getD_getElem?] at t30
          have t31 : a.tmps.getD 31 undef = .agg cn := hd { on := 2, ground := .data } (by simp) rfl
          rw [Array.getD_eq_getD_getElem?] at t31
          refine .inl ⟨rfl, ?_⟩
          go_simp
          exact (HMv W).mono fun e w2 h => ⟨_, h.1, h.2, rfl⟩
      · intro vs W hE hV
        have h0 : vs 0 = .agg cn := hV 0 (by decide)
        have h3 : vs 3 = .int .i64 M := hV 3 (by decide)
        have HZW : Hid (HasBox W (w.heap.size + 1 + 1) 25 #[.bool false, .int .i64 0, .int .i64 0, .int .i64 0]) := HZ W hE
        have HBW : Hid (Below w.heap.size w W) := HB0.out.trans (hE.mono HB0.out.size)
        clear hV hE HP HN HZ HMv
        simp only [putsV, dstsV, List.take_succ_cons, List.take_zero, List.drop_succ_cons, List.drop_zero, List.foldl, h0, h3, Act.put, List.setIfInBounds_toArray, List.set_cons_succ, List.set_cons_zero]
        clear h0 h3
        generalize vs 1 = y1
        generalize vs 2 = y2
        go_wp2_with (first | (refine wpList_store_row rfl 25 (.tmp 6) (.tmp 29) rfl (w.heap.size + 1 + 1) cn rfl rfl 25 _ HZW.out HIn.out HZn.out HOn.out ?_) | fail)
        refine bodyPost_ret (results_ct_row rfl _ _ (w.heap.size + 1 + 1) 25 _ _ _ rfl (setRow_heap W _ _ _ _ _ HZW.out) Tryd.underlying25 rfl HIn.out) rfl ?_
        have e := HRes.out
        subst e
        exact ⟨rfl, below_setRow HBW.out (by omega) _⟩
    · rw [if_neg h2]
      simp only
      clear HMv'
      have h2' : ¬ R ≥ E := h2
      go_enter Tryd.func9, Tryd.ntmps9
      go_wp2_with fail
      refine (HOne.out _).mono ?_
      rintro e w1 ⟨rfl, hw⟩
      subst w1
      generalize hW0 : (((w.alloc _).alloc _).alloc _).alloc _ = W0
      have HC0 : Hid (CellsAt W0 w.heap.size cs) := by show CellsAt _ _ _; rw [← hW0]; exact (((hasBox_new w _ _).alloc _).alloc _).alloc _
      have HP0 : Hid (HasBox W0 (w.heap.size + 1) 25 #[.bool u, .int .i64 r, .int .i64 f, .int .i64 i]) := by show HasBox _ _ _ _; rw [← hW0]; exact ((hasBox_new' _ _ _ _ (by simp)).alloc _).alloc _
      have HZ0 : Hid (HasBox W0 (w.heap.size + 1 + 1) 25 #[.bool false, .int .i64 0, .int .i64 0, .int .i64 0]) := by show HasBox _ _ _ _; rw [← hW0]; exact (hasBox_new' _ _ _ _ (by simp)).alloc _
      have HN0 : Hid (HasBox W0 (w.heap.size + 1 + 1 + 1) 25 #[.bool u, .int .i64 0, .int .i64 f, .int .i64 0]) := by show HasBox _ _ _ _; rw [← hW0]; exact hasBox_new' _ _ _ _ (by simp)
      have HB0 : Hid (Below w.heap.size w W0) := by show Below _ _ _; rw [← hW0]; exact ((((Below.refl _ _).alloc (Nat.le_refl _) _).alloc (by simp) _).alloc (by simp; omega) _).alloc (by simp; omega) _
      have HT0 : Hid (TabC W0) := HT.out.below HB0.out
      have q0 : W0.cell? ⟨w.heap.size + 1, 0, none⟩ = some (.bool u) := HP0.out.cell 0
      clear hW0 HT HOne
      go_wp2_with (first | (refine wpList_load_row rfl 23 (.tmp 3) rfl w.heap.size rfl 23 _ (0, 0) _ HC0.out Tryd.underlying23 rfl HI.out ?_) | fail)
      refine (HK1.out _ HT0.out).mono ?_
      rintro e w1 ⟨rfl, hb⟩
      have HZ1 : Hid (HasBox w1 (w.heap.size + 1 + 1) 25 _) := HZ0.out.below hb
      have HN1 : Hid (HasBox w1 (w.heap.size + 1 + 1 + 1) 25 _) := HN0.out.below hb
      have HB1 : Hid (Below w.heap.size w w1) := HB0.out.trans (hb.mono HB0.out.size)
      have n1 : w1.cell? ⟨w.heap.size + 1 + 1 + 1, 1, none⟩ = some (.int .i64 0) := HN1.out.cell 1
      have nf : w1.frozen? ⟨w.heap.size + 1 + 1 + 1, 1, none⟩ = false := HN1.out.frozen 1
      clear hb HP0 HZ0 HN0 HB0 HT0 HC0 HK1 HI q0
      obtain ⟨cn, hcn, sn⟩ : ∃ c : Array Value, (#[.bool u, .int .i64 R, .int .i64 f, .int .i64 0] : Array Value) = c ∧ c.size = 4 := ⟨_, rfl, rfl⟩
      have HOn : Hid (cn.all (·.oneCell') = true) := by show _ = _; rw [← hcn]; simp [Value.oneCell']
      have HRes : Hid ((#[.bool u, .int .i64 R, .int .i64 f, .int .i64 0] : Array Value) = cn) := hcn
      have HNs : Hid ((#[.bool u, .int .i64 0, .int .i64 f, .int .i64 0] : Array Value).setIfInBounds 1 (.int .i64 R) = cn) := hcn
      have HIn : Hid ((Tryd.prog.info? 25).map (·.size) = some cn.size) := by show _ = _; rw [sn]; kernel_rfl
      have HZn : Hid ((4 : Nat) = cn.size) := sn.symm
      clear hcn sn
      go_upto_region 11 with fail
      generalize hW2 : w1.setCell _ _ = W2
      have HZ2 : Hid (HasBox W2 (w.heap.size + 1 + 1) 25 #[.bool false, .int .i64 0, .int .i64 0, .int .i64 0]) := by show HasBox _ _ _ _; rw [← hW2]; exact HZ1.out.setOther _ (by simp) _
      have HN2 : Hid (HasBox W2 (w.heap.size + 1 + 1 + 1) 25 cn) := by show HasBox _ _ _ _; rw [← hW2, ← HNs.out]; exact HN1.out.set 1 _
      have HB2 : Hid (Below w.heap.size w W2) := by show Below _ _ _; rw [← hW2]; exact HB1.out.setCell (by simp; omega) _
      clear hW2 HZ1 HN1 HB1 n1 nf
      go_wp2_with (first | (refine wpList_load_row rfl 25 (.tmp 8) rfl (w.heap.size + 1 + 1 + 1) rfl 25 _ (0, 0) _ HN2.out Tryd.underlying25 rfl HIn.out ?_) | (refine wpList_store_row rfl 25 (.tmp 6) (.tmp 35) rfl (w.heap.size + 1 + 1) cn rfl rfl 25 _ HZ2.out HIn.out HZn.out HOn.out ?_) | fail)
      refine bodyPost_ret (results_ct_row rfl _ _ (w.heap.size + 1 + 1) 25 _ _ _ rfl (setRow_heap W2 _ _ _ _ _ HZ2.out) Tryd.underlying25 rfl HIn.out) rfl ?_
      have e := HRes.out
      subst e
      exact ⟨rfl, below_setRow HB2.out (by omega) _⟩

end Go.Proofs.YtejjilnanmomcaaDoor

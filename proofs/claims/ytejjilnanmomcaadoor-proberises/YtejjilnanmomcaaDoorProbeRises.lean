/-
  ProbeRises, for every configuration, probing and row of answers: Rise answers in a row, and one that is not forced is well; Fall failures, and it is not; whatever was before; and it stays so. No condition on the call.
-/
import Derived.Test.YtejjilnanmomcaaDoorProbe4
import Derived.Test.YtejjilnanmomcaaDoorRefMayC
namespace Go.Proofs.YtejjilnanmomcaaDoor
open Go.ChangeShapes Go.WideShapes Go.ChangeAt Go.RowKit
open Go.ChangeMaps (open_string shut_string)

theorem pend_lit3 {c : Cfg} (hc : mayC c = true) (hz : c.zone.size ≤ 9223372036854775807) {p q : ProbeT} {x : Bool} {m : Int} (hp : inP p) (he : endP c.f3 c.f4 p x = (q, m)) (W : World) (h : Tabs W) :
    Calls Tryd.prog 9 #[.agg c.arr, .agg (pcells p), .bool x] W fun e w' => e = .returned (.tuple #[.agg (pcells q), .int .i64 m]) ∧ Below W.heap.size W w' := by
  have := pend_may c hc p x W h.1 hz hp
  rw [he] at this
  exact this
theorem u_mod20 (a : Int) : ∃ F : Nat, (IntKind.u64.wrap a).tmod 20 = (F : Int) ∧ F < 20 := by
  rw [IntKind.wrap_u64]
  have h1 := Int.emod_nonneg a (show (18446744073709551616 : Int) ≠ 0 by omega)
  rw [Int.tmod_eq_emod_of_nonneg h1]
  exact ⟨(a % 18446744073709551616 % 20).toNat, by omega, by omega⟩
theorem rising_moves {n : Int} {ok : Bool} {p0 p : ProbeT} {i : Nat} {moves : Int} (h : Rising n ok p0 p i moves) : moves = 0 ∨ moves = 1 := by
  rcases h.way with ⟨_, _, _, _, h⟩ | ⟨_, _, h⟩
  · exact .inl h
  · rw [h]; split
    · exact .inl rfl
    · exact .inr rfl
/-- One more answer, and what it tells. -/
theorem rising_told {n rise fall : Int} {ok : Bool} {p0 p q : ProbeT} {i : Nat} {moves m : Int} (hn : n = if ok then rise else fall) (hn2 : n ≤ 10) (he : endP rise fall p ok = (q, m)) (h : Rising n ok p0 p i moves) :
    (m = 0 ∧ wellP q = wellP p ∧ Rising n ok p0 q (i + 1) moves) ∨ ((m = 1 ∨ m = 2) ∧ wellP q = (!wellP p) ∧ ¬ n ≤ (i : Int) ∧ moves = 0 ∧ Rising n ok p0 q (i + 1) 1) := by
  obtain ⟨h1, h2⟩ := rising_next hn (by unfold topP; omega) h
  have ht := endP_told rise fall p ok
  rw [he] at h1 h2 ht
  simp only at h1 h2 ht
  rcases ht with ⟨e, hw⟩ | ⟨e, hw⟩
  · rw [if_pos e] at h1
    exact .inl ⟨e, hw, h1⟩
  · have e0 : ¬ m = 0 := by rcases e with e | e <;> rw [e] <;> decide
    rw [if_neg e0] at h1
    have hm : moves = 0 := by
      rcases rising_moves h1 with h' | h'
      · rcases rising_moves h with h'' | h'' <;> omega
      · omega
    rw [hm] at h1
    exact .inr ⟨e, by cases hq : wellP q <;> cases hp : wellP p <;> simp_all, fun h => e0 (h2 h), hm, h1⟩

set_option maxRecDepth 100000 in
set_option maxHeartbeats 16000000 in
theorem walk_Rises_true (c : Cfg) (hz : c.zone.size ≤ 9223372036854775807) (hm : mayC c = true) (p0 : ProbeT) (hp0 : inP p0) (l : List Bool) (ao : Option Addr) (cap : Nat) (hlen : l.length ≤ 100) (more : Int) (w : World) (htab : Tabs w) (hl : IsBools w (.slice ao l.length cap) l) :
    Calls Tryd.prog 3 #[.agg c.arr, pval p0, .slice ao l.length cap, .bool true, .int .i64 more] w fun e w' => e = .returned (.bool true) ∧ Below w.heap.size w w' := by
  have HT : Hid (Tabs w) := htab
  have HL : Hid (IsBools w (.slice ao l.length cap) l) := hl
  clear htab hl
  have HMay : Hid (∀ W : World, Calls Tryd.prog 7 #[.agg c.arr] W fun e w' => e = .returned (.bool (mayC c)) ∧ Below W.heap.size W w') := fun W => rMay_any c W hz
  have HI : Hid ((Tryd.prog.info? 23).map (·.size) = some c.arr.size) := arr_inf c
  have hl1 : ¬ (100 : Int) < (l.length : Int) := by omega
  rw [hm] at HMay
  have HEnd : Hid (∀ (p q : ProbeT) (x : Bool) (m : Int), inP p → endP c.f3 c.f4 p x = (q, m) → ∀ W : World, Tabs W → Calls Tryd.prog 9 #[.agg c.arr, .agg (pcells p), .bool x] W fun e w' => e = .returned (.tuple #[.agg (pcells q), .int .i64 m]) ∧ Below W.heap.size W w') := fun p q x m hp he W h => pend_lit3 hm hz hp he W h
  have HNb : Hid (1 ≤ c.f3 ∧ c.f3 ≤ 10) := may_num3 hm
  have HNe : Hid (c.f3 = if true then c.f3 else c.f4) := rfl
  have c3 : c.arr[3]? = some (.int .i64 c.f3) := rfl
  have c4 : c.arr[4]? = some (.int .i64 c.f4) := rfl
  have HC3 : Hid _ := c3
  have HC4 : Hid _ := c4
  clear hm hlen c3 c4
  generalize c.f3 = n3 at HEnd HC3 HNb HNe
  generalize c.f4 = n4 at HEnd HC4 HNb HNe
  generalize c.arr = cs at HMay HI HEnd HC3 HC4 ⊢
  obtain ⟨F, hF, hF20⟩ := u_mod20 more
  obtain ⟨NN, hNN⟩ : ∃ NN : Nat, n3 + (F : Int) = NN := ⟨(n3 + (F : Int)).toNat, by have := HNb.out; omega⟩
  have HF2 : Hid (IntKind.i64.wrap (F : Int) = F) := wrap_in (by omega) (by omega)
  have HF3 : Hid (IntKind.i64.wrap (n3 + (F : Int)) = NN) := (wrap_in (by have := HNb.out; omega) (by have := HNb.out; omega)).trans hNN
  have HF4 : Hid (wrap64 (n3 + (F : Int)) = NN) := by show _ = _; rw [← hNN]; unfold wrap64; have := HNb.out; omega
  have HNN : Hid (n3 ≤ (NN : Int) ∧ NN ≤ 100) := by show _ ∧ _; have := HNb.out; omega
  have HF1 : Hid ((IntKind.u64.wrap more).tmod 20 = (F : Int)) := hF
  clear hF hF20 hNN
  unfold pval
  go_enter Tryd.func3, Tryd.ntmps3
  go_upto_region 1 with fail
  generalize hW0 : (w.alloc _).alloc _ = W0
  have HC : Hid (CellsAt W0 w.heap.size cs) := by show CellsAt _ _ _; rw [← hW0]; exact heap_alloc2_old w _ _
  have HX : Hid (HasBox W0 (w.heap.size + 1) 25 (pcells p0)) := by show HasBox _ _ _ _; rw [← hW0]; exact hasBox_new' _ _ _ _ (by simp)
  have HB : Hid (Below w.heap.size w W0) := by show Below _ _ _; rw [← hW0]; exact ((Below.refl _ _).alloc (Nat.le_refl _) _).alloc (by simp) _
  clear hW0
  obtain ⟨b6, hb6⟩ : ∃ b6, w.heap.size + 1 = b6 := ⟨_, rfl⟩
  rw [hb6] at HX ⊢
  have HLe : Hid (w.heap.size < b6) := by show _ < _; omega
  clear hb6
  go_wp2_with (first | (refine wpList_load_bx rfl 23 (.tmp 5) rfl w.heap.size rfl 23 _ _ HC.out Tryd.underlying23 rfl HI.out ?_) | fail)
  refine (HMay.out _).mono ?_
  rintro e w1 ⟨rfl, hb⟩
  have HC1 : Hid (CellsAt w1 w.heap.size cs) := HC.out.below hb
  have HX1 : Hid (HasBox w1 b6 25 (pcells p0)) := HX.out.below hb
  have HB1 : Hid (Below w.heap.size w w1) := HB.out.trans (hb.mono HB.out.size)
  clear hb HC HX HB HMay
  go_wp2
  go_loopw [30] (fun i wr => ∃ (k : Nat) (p : ProbeT), k ≤ l.length ∧ i = .int .i64 k ∧ inP p ∧ HasBox wr b6 25 (pcells p) ∧ CellsAt wr w.heap.size cs ∧ Below w.heap.size w wr) (fun i _ => l.length - (intOf i).toNat)
  case atStart => exact ⟨0, p0, Nat.zero_le _, rfl, hp0, HX1.out, HC1.out, HB1.out⟩
  case round =>
    obtain ⟨k, p, hk, rfl, hpi, hx, hc, hb⟩ := hrel
    have HX : Hid (HasBox wr b6 25 (pcells p)) := hx
    have HC : Hid (CellsAt wr w.heap.size cs) := hc
    have HB : Hid (Below w.heap.size w wr) := hb
    clear hx hc hb HX1 HC1 HB1 hp0
    by_cases hlt : k < l.length
    · obtain ⟨bl, ol, rfl, hbl, gx⟩ := (HL.out.below HB.out).at k hlt
      obtain ⟨x, hxk⟩ : ∃ x, l.getD k false = x := ⟨_, rfl⟩
      rw [hxk] at gx
      obtain ⟨q, m, he⟩ : ∃ q m, endP n3 n4 p x = (q, m) := ⟨_, _, rfl⟩
      have HQi : Hid (inP q) := by show inP q; have := endP_in (rise := n3) (fall := n4) (ok := x) hpi; rw [he] at this; exact this
      have HE : Hid _ := HEnd.out p q x m hpi he
      clear he hxk hpi
      go_wp2_with (first | (refine wpList_load_bx rfl 23 (.tmp 5) rfl w.heap.size rfl 23 _ _ HC.out Tryd.underlying23 rfl HI.out ?_) | (refine wpList_load_bx rfl 25 (.tmp 6) rfl b6 rfl 25 _ _ HX.out Tryd.underlying25 rfl infoProbing ?_) | fail)
      refine (HE.out _ (HT.out.below HB.out)).mono ?_
      rintro e w4 ⟨rfl, hb⟩
      have HX4 : Hid (HasBox w4 b6 25 (pcells p)) := HX.out.below hb
      have HC4' : Hid (CellsAt w4 w.heap.size cs) := HC.out.below hb
      have HB4 : Hid (Below w.heap.size w w4) := HB.out.trans (hb.mono HB.out.size)
      clear hb HX HC HB HE gx hbl
      go_wp2_with (first | (refine wpList_store_row rfl 25 (.tmp 6) (.tmp 39) rfl b6 (pcells q) rfl rfl 25 _ HX4.out infoProbing rfl (pcells_one _) ?_) | fail)
      have HX5 : Hid (HasBox (w4.setRow b6 (pcells q)) b6 25 (pcells q)) := HasBox.row HX4.out
      have HC5 : Hid (CellsAt (w4.setRow b6 (pcells q)) w.heap.size cs) := HasBox.rowOther HC4'.out (by have := HLe.out; omega)
      have HB5 : Hid (Below w.heap.size w (w4.setRow b6 (pcells q))) := below_setRow HB4.out (by have := HLe.out; omega) _
      go_roundw
      case rel => exact ⟨k + 1, q, by omega, by go_num, HQi.out, HX5.out, HC5.out, HB5.out⟩
      case measure => simp [intOf]; omega
    · have g3 : wr.cell? ⟨w.heap.size, 3, none⟩ = some (.int .i64 n3) := HC.out.cell.trans HC3.out
      have g4 : wr.cell? ⟨w.heap.size, 4, none⟩ = some (.int .i64 n4) := HC.out.cell.trans HC4.out
      have HWp0 : Hid (∀ W : World, Calls Tryd.prog 10 #[.agg (pcells p)] W fun e w' => e = .returned (.bool (wellP p)) ∧ Below W.heap.size W w') := pwell_any p
      have HSt : Hid (Rising n3 true p p 0 0) := rising_start true p HNb.out.1
      have HPi : Hid (inP p) := hpi
      clear hpi
      generalize p = ps at HSt HX HPi HWp0
      obtain ⟨y0, hy0⟩ : ∃ y0, wellP ps = y0 := ⟨_, rfl⟩
      rw [hy0] at HWp0
      have HY0 : Hid (wellP ps = y0) := hy0
      clear hy0
      go_wp2_with (first | (refine wpList_load_bx rfl 25 (.tmp 6) rfl b6 rfl 25 _ _ HX.out Tryd.underlying25 rfl infoProbing ?_) | fail)
      refine (HWp0.out _).mono ?_
      rintro e w7 ⟨rfl, hb⟩
      have HX7 : Hid (HasBox w7 b6 25 (pcells ps)) := HX.out.below hb
      have HC7 : Hid (CellsAt w7 w.heap.size cs) := HC.out.below hb
      have HB7 : Hid (Below w.heap.size w w7) := HB.out.trans (hb.mono HB.out.size)
      have hf1 := HF1.out
      have hf2 := HF2.out
      have hf3 := HF3.out
      have hf4 := HF4.out
      clear hb HX HC HB HWp0 g3 g4 HF1 HF2 HF3 HF4
      go_wp2
      clear hf1 hf2 hf3 hf4
      go_loopw [15, 55] (fun mv i wr => ∃ (k : Nat) (p : ProbeT) (moves : Int), k ≤ NN ∧ i = .int .i64 k ∧ mv = .int .i64 moves ∧ Rising n3 true ps p k moves ∧ inP p ∧ HasBox wr b6 25 (pcells p) ∧ CellsAt wr w.heap.size cs ∧ Below w.heap.size w wr) (fun _ i _ => NN - (intOf i).toNat)
      case atStart => exact ⟨0, ps, 0, Nat.zero_le _, rfl, rfl, HSt.out, HPi.out, HX7.out, HC7.out, HB7.out⟩
      case round =>
        obtain ⟨k, p, moves, hk, rfl, rfl, hri, hpi, hx, hc, hb⟩ := hrel
        have HX : Hid (HasBox wr b6 25 (pcells p)) := hx
        have HC : Hid (CellsAt wr w.heap.size cs) := hc
        have HB : Hid (Below w.heap.size w wr) := hb
        have HRi : Hid (Rising n3 true ps p k moves) := hri
        clear hx hc hb HX7 HC7 HB7 hri HSt HPi
        by_cases hlt : k < NN
        · obtain ⟨q, m, he⟩ : ∃ q m, endP n3 n4 p true = (q, m) := ⟨_, _, rfl⟩
          have HQi : Hid (inP q) := by show inP q; have := endP_in (rise := n3) (fall := n4) (ok := true) hpi; rw [he] at this; exact this
          have HE : Hid _ := HEnd.out p q true m hpi he
          have htold := rising_told HNe.out HNb.out.2 he HRi.out
          have HTold : Hid _ := htold
          have HWp' : Hid (∀ W : World, Calls Tryd.prog 10 #[.agg (pcells p)] W fun e w' => e = .returned (.bool (wellP p)) ∧ Below W.heap.size W w') := pwell_any p
          have HWq' : Hid (∀ W : World, Calls Tryd.prog 10 #[.agg (pcells q)] W fun e w' => e = .returned (.bool (wellP q)) ∧ Below W.heap.size W w') := pwell_any q
          clear he htold hpi HRi
          generalize wellP p = y at HTold HWp'
          go_wp2_with (first | (refine wpList_load_bx rfl 23 (.tmp 5) rfl w.heap.size rfl 23 _ _ HC.out Tryd.underlying23 rfl HI.out ?_) | (refine wpList_load_bx rfl 25 (.tmp 6) rfl b6 rfl 25 _ _ HX.out Tryd.underlying25 rfl infoProbing ?_) | fail)
          refine (HE.out _ (HT.out.below HB.out)).mono ?_
          rintro e w4 ⟨rfl, hb⟩
          have HX4 : Hid (HasBox w4 b6 25 (pcells p)) := HX.out.below hb
          have HC4' : Hid (CellsAt w4 w.heap.size cs) := HC.out.below hb
          have HB4 : Hid (Below w.heap.size w w4) := HB.out.trans (hb.mono HB.out.size)
          clear hb HX HC HB HE
          go_upto_region 17 with (first | (refine wpList_store_row rfl 25 (.tmp 17) (.tmp 63) rfl w4.heap.size (pcells q) rfl rfl 25 _ (heap_alloc_new w4 _) infoProbing rfl (pcells_one _) ?_; generalize hW5 : World.setRow _ _ _ = W5) | fail)
          have HX5 : Hid (HasBox W5 b6 25 (pcells p)) := by show HasBox _ _ _ _; rw [← hW5]; exact (HX4.out.alloc _).rowOther (by have := HX4.out.lt; omega)
          have HC5 : Hid (CellsAt W5 w.heap.size cs) := by show CellsAt _ _ _; rw [← hW5]; exact HasBox.rowOther (HasBox.alloc HC4'.out _) (by have := HC4'.out.lt; omega)
          have HZ5 : Hid (HasBox W5 w4.heap.size 25 (pcells q)) := by show HasBox _ _ _ _; rw [← hW5]; exact (hasBox_new w4 _ _).row
          have HB0 : Hid (Below w.heap.size w W5) := by show Below _ _ _; rw [← hW5]; exact below_setRow (HB4.out.alloc HB4.out.size _) HB4.out.size _
          clear hW5 HX4 HC4' HB4
          generalize w4.heap.size = b17 at HZ5 ⊢
          have HP : ∀ W, Below W5.heap.size W5 W → HasBox W b6 25 (pcells p) := fun W h => HX5.out.below h
          have HQ : ∀ W, Below W5.heap.size W5 W → HasBox W b17 25 (pcells q) := fun W h => HZ5.out.below h
          have HCc : Hid (∀ W, Below W5.heap.size W5 W → CellsAt W w.heap.size cs) := fun W h => HC5.out.below h
          have HWp := HWp'.out
          have HWq := HWq'.out
          clear HX5 HC5 HZ5 HWp' HWq'
          rcases HTold.out with ⟨rfl, hw, hr⟩ | ⟨hm12, hw, hkn, rfl, hr⟩
          · rw [hw] at HWq
            have HR : Hid (Rising n3 true ps q (k + 1) moves) := hr
            clear hw hr HTold
            by_cases hkn : n3 ≤ (k : Int)
            · have HK : Hid (n3 ≤ (k : Int)) := hkn
              clear hkn
              refine wp_region_mp ([eqP (.int .i64 0), eqP (.bool false), eqP (.agg (pcells q)), eqP (.bool y), eqP (.agg (pcells p)), eqP (.bool y), eqP (.bool false), eqP (.bool false), eqP (.bool false), eqP (.int .i64 0), eqP (.bool false), eqP (.bool false), eqP (undef), eqP (undef), eqP (.bool false), eqP (.bool false), eqP (undef), eqP (undef), eqP (.bool false), eqP (.bool false), eqP (.bool false), eqP (.int .i64 k), eqP (.int .i64 n3), eqP (.bool true), eqP (.bool true), eqP (.int .i64 0), eqP (.bool false), eqP (.bool false), eqP (.bool false)]) (by kernel_rfl) (by kernel_rfl) ?_ ?_
              · simp only [stepsAll3]
                refine ⟨fun a W hF hE hd => ?_, fun a W hF hE hd => ?_, fun a W hF hE hd => ?_, fun a W hF hE hd => ?_, fun a W hF hE hd => ?_, fun a W hF hE hd => ?_, fun a W hF hE hd => ?_, fun a W hF hE hd => ?_, fun a W hF hE hd => ?_, fun a W hF hE hd => ?_, fun a W hF hE hd => ?_, fun a W hF hE hd => ?_, fun a W hF hE hd => ?_, fun a W hF hE hd => ?_, fun a W hF hE hd => ?_, fun a W hF hE hd => ?_, fun a W hF hE hd => ?_, fun a W hF hE hd => ?_, fun a W hF hE hd => ?_, fun a W hF hE hd => ?_, fun a W hF hE hd => ?_, fun a W hF hE hd => ?_, fun a W hF hE hd => ?_, fun a W hF hE hd => ?_, fun a W hF hE hd => ?_, fun a W hF hE hd => ?_, fun a W hF hE hd => ?_, fun a W hF hE hd => ?_, fun a W hF hE hd => ?_, trivial⟩
                all_goals unfold StepAt
                · have t18 : a.tmps.getD 18 undef = .int .i64 0 := hF.at 18 (by kernel_rfl)
                  rw [Array.getD_eq_getD_getElem?] at t18
                  refine .inl ⟨rfl, ?_⟩
                  go_simp
                  exact ⟨Below.refl _ _, rfl⟩
                · have t65 : a.tmps.getD 65 undef = .int .i64 0 := hd { on := 0, ground := .data } (by simp) rfl
                  rw [Array.getD_eq_getD_getElem?] at t65
                  refine .inl ⟨rfl, ?_⟩
                  go_simp
                  exact ⟨Below.refl _ _, rfl⟩
                · have t17 : a.tmps.getD 17 undef = .pointer (some ⟨b17, 0, none⟩) := hF.at 17 (by kernel_rfl)
                  rw [Array.getD_eq_getD_getElem?] at t17
                  refine .inl ⟨rfl, ?_⟩
                  rw [run_oload _ _ 25 (.tmp 17) rfl (b17) (by simpa [Act.eval] using t17) 25 (pcells q) (0, 0) _ (HQ W hE) Tryd.underlying25 rfl infoProbing]
                  exact ⟨Below.refl _ _, rfl⟩
                · have t67 : a.tmps.getD 67 undef = .agg (pcells q) := hd { on := 2, ground := .data } (by simp) rfl
                  rw [Array.getD_eq_getD_getElem?] at t67
                  refine .inl ⟨rfl, ?_⟩
                  go_simp
                  exact (HWq W).mono fun e w2 h => ⟨_, h.1, h.2, rfl⟩
                · have t6 : a.tmps.getD 6 undef = .pointer (some ⟨b6, 0, none⟩) := hF.at 6 (by kernel_rfl)
                  rw [Array.getD_eq_getD_getElem?] at t6
                  refine .inl ⟨rfl, ?_⟩
                  rw [run_oload _ _ 25 (.tmp 6) rfl (b6) (by simpa [Act.eval] using t6) 25 (pcells p) (0, 0) _ (HP W hE) Tryd.underlying25 rfl infoProbing]
                  exact ⟨Below.refl _ _, rfl⟩
                · have t69 : a.tmps.getD 69 undef = .agg (pcells p) := hd { on := 4, ground := .data } (by simp) rfl
                  rw [Array.getD_eq_getD_getElem?] at t69
                  refine .inl ⟨rfl, ?_⟩
                  go_simp
                  exact (HWp W).mono fun e w2 h => ⟨_, h.1, h.2, rfl⟩
                · have t68 : a.tmps.getD 68 undef = .bool y := hd { on := 3, ground := .data } (by simp) rfl
                  rw [Array.getD_eq_getD_getElem?] at t68
                  have t70 : a.tmps.getD 70 undef = .bool y := hd { on := 5, ground := .data } (by simp) rfl
                  rw [Array.getD_eq_getD_getElem?] at t70
                  refine .inl ⟨rfl, ?_⟩
                  go_simp
                  exact ⟨Below.refl _ _, rfl⟩
                · have t66 : a.tmps.getD 66 undef = .bool false := hd { on := 1, ground := .data } (by simp) rfl
                  rw [Array.getD_eq_getD_getElem?] at t66
                  have t71 : a.tmps.getD 71 undef = .bool false := hd { on := 6, ground := .data } (by simp) rfl
                  rw [Array.getD_eq_getD_getElem?] at t71
                  refine .inl ⟨rfl, ?_⟩
                  go_simp
                  exact ⟨Below.refl _ _, rfl⟩
                · have t72 : a.tmps.getD 72 undef = .bool false := hd { on := 7, ground := .data } (by simp) rfl
                  rw [Array.getD_eq_getD_getElem?] at t72
                  refine .inl ⟨rfl, ?_⟩
                  go_simp
                  exact ⟨Below.refl _ _, rfl⟩
                · have t18 : a.tmps.getD 18 undef = .int .i64 0 := hF.at 18 (by kernel_rfl)
                  rw [Array.getD_eq_getD_getElem?] at t18
                  have g73 : a.eval (.tmp 73) = .bool false := hd { on := 8, ground := .guard } (by simp) rfl
                  refine .inl ⟨(by simp only [Region.wanted]; rw [yielded_of (d := 73) (by rfl) g73]; rfl), ?_⟩
                  clear g73
                  go_simp
                  exact ⟨Below.refl _ _, rfl⟩
                · have t74 : a.tmps.getD 74 undef = .int .i64 0 := hd { on := 9, ground := .data } (by simp) rfl
                  rw [Array.getD_eq_getD_getElem?] at t74
                  have g73 : a.eval (.tmp 73) = .bool false := hd { on := 8, ground := .guard } (by simp) rfl
                  refine .inl ⟨(by simp only [Region.wanted]; rw [yielded_of (d := 73) (by rfl) g73]; rfl), ?_⟩
                  clear g73
                  go_simp
                  exact ⟨Below.refl _ _, rfl⟩
                · have t75 : a.tmps.getD 75 undef = .bool false := hd { on := 10, ground := .data } (by simp) rfl
                  rw [Array.getD_eq_getD_getElem?] at t75
                  have g73 : a.eval (.tmp 73) = .bool false := hd { on := 8, ground := .guard } (by simp) rfl
                  refine .inl ⟨(by simp only [Region.wanted]; rw [yielded_of (d := 73) (by rfl) g73]; rfl), ?_⟩
                  clear g73
                  go_simp
                  exact ⟨Below.refl _ _, rfl⟩
                · have g76 : a.eval (.tmp 76) = .bool false := hd { on := 11, ground := .guard } (by simp) rfl
                  exact .inr ⟨(by simp only [Region.wanted]; rw [yielded_of (d := 76) (by rfl) g76]; rfl), rfl⟩
                · have g76 : a.eval (.tmp 76) = .bool false := hd { on := 11, ground := .guard } (by simp) rfl
                  exact .inr ⟨(by simp only [Region.wanted]; rw [yielded_of (d := 76) (by rfl) g76]; rfl), rfl⟩
                · have t76 : a.tmps.getD 76 undef = .bool false := hd { on := 11, ground := .data } (by simp) rfl
                  rw [Array.getD_eq_getD_getElem?] at t76
                  have g73 : a.eval (.tmp 73) = .bool false := hd { on := 8, ground := .guard } (by simp) rfl
                  refine .inl ⟨(by simp only [Region.wanted]; rw [yielded_of (d := 73) (by rfl) g73]; rfl), ?_⟩
                  clear g73
                  go_simp
                  exact ⟨Below.refl _ _, rfl⟩
                · have t79 : a.tmps.getD 79 undef = .bool false := hd { on := 14, ground := .data } (by simp) rfl
                  rw [Array.getD_eq_getD_getElem?] at t79
                  have g73 : a.eval (.tmp 73) = .bool false := hd { on := 8, ground := .guard } (by simp) rfl
                  refine .inl ⟨(by simp only [Region.wanted]; rw [yielded_of (d := 73) (by rfl) g73]; rfl), ?_⟩
                  clear g73
                  go_simp
                  exact ⟨Below.refl _ _, rfl⟩
                · have g80 : a.eval (.tmp 80) = .bool false := hd { on := 15, ground := .guard } (by simp) rfl
                  exact .inr ⟨(by simp only [Region.wanted]; rw [yielded_of (d := 80) (by rfl) g80]; rfl), rfl⟩
                · have g80 : a.eval (.tmp 80) = .bool false := hd { on := 15, ground := .guard } (by simp) rfl
                  exact .inr ⟨(by simp only [Region.wanted]; rw [yielded_of (d := 80) (by rfl) g80]; rfl), rfl⟩
                · have t80 : a.tmps.getD 80 undef = .bool false := hd { on := 15, ground := .data } (by simp) rfl
                  rw [Array.getD_eq_getD_getElem?] at t80
                  have g73 : a.eval (.tmp 73) = .bool false := hd { on := 8, ground := .guard } (by simp) rfl
                  refine .inl ⟨(by simp only [Region.wanted]; rw [yielded_of (d := 73) (by rfl) g73]; rfl), ?_⟩
                  clear g73
                  go_simp
                  exact ⟨Below.refl _ _, rfl⟩
                · have t73 : a.tmps.getD 73 undef = .bool false := hd { on := 8, ground := .data } (by simp) rfl
                  rw [Array.getD_eq_getD_getElem?] at t73
                  have t83 : a.tmps.getD 83 undef = .bool false := hd { on := 18, ground := .data } (by simp) rfl
                  rw [Array.getD_eq_getD_getElem?] at t83
                  refine .inl ⟨rfl, ?_⟩
                  go_simp
                  exact ⟨Below.refl _ _, rfl⟩
                · have t84 : a.tmps.getD 84 undef = .bool false := hd { on := 19, ground := .data } (by simp) rfl
                  rw [Array.getD_eq_getD_getElem?] at t84
                  refine .inl ⟨rfl, ?_⟩
                  go_simp
                  exact ⟨Below.refl _ _, rfl⟩
                · have t16 : a.tmps.getD 16 undef = .int .i64 k := hF.at 16 (by kernel_rfl)
                  rw [Array.getD_eq_getD_getElem?] at t16
                  have g85 : a.eval (.tmp 85) = .bool false := hd { on := 20, ground := .guard } (by simp) rfl
                  refine .inl ⟨(by simp only [Region.wanted]; rw [yielded_of (d := 85) (by rfl) g85]; rfl), ?_⟩
                  clear g85
                  go_simp
                  exact ⟨Below.refl _ _, rfl⟩
                · have t13 : a.tmps.getD 13 undef = .int .i64 n3 := hF.at 13 (by kernel_rfl)
                  rw [Array.getD_eq_getD_getElem?] at t13
                  have g85 : a.eval (.tmp 85) = .bool false := hd { on := 20, ground := .guard } (by simp) rfl
                  refine .inl ⟨(by simp only [Region.wanted]; rw [yielded_of (d := 85) (by rfl) g85]; rfl), ?_⟩
                  clear g85
                  go_simp
                  exact ⟨Below.refl _ _, rfl⟩
                · have t86 : a.tmps.getD 86 undef = .int .i64 k := hd { on := 21, ground := .data } (by simp) rfl
                  rw [Array.getD_eq_getD_getElem?] at t86
                  have t87 : a.tmps.getD 87 undef = .int .i64 n3 := hd { on := 22, ground := .data } (by simp) rfl
                  rw [Array.getD_eq_getD_getElem?] at t87
                  have g85 : a.eval (.tmp 85) = .bool false := hd { on := 20, ground := .guard } (by simp) rfl
                  refine .inl ⟨(by simp only [Region.wanted]; rw [yielded_of (d := 85) (by rfl) g85]; rfl), ?_⟩
                  clear g85
                  have q1 : n3 ≤ (k : Int) := HK.out
                  go_simp
                  exact ⟨Below.refl _ _, rfl⟩
                · have t88 : a.tmps.getD 88 undef = .bool true := hd { on := 23, ground := .data } (by simp) rfl
                  rw [Array.getD_eq_getD_getElem?] at t88
                  have g85 : a.eval (.tmp 85) = .bool false := hd { on := 20, ground := .guard } (by simp) rfl
                  refine .inl ⟨(by simp only [Region.wanted]; rw [yielded_of (d := 85) (by rfl) g85]; rfl), ?_⟩
                  clear g85
                  go_simp
                  exact ⟨Below.refl _ _, rfl⟩
                · have t18 : a.tmps.getD 18 undef = .int .i64 0 := hF.at 18 (by kernel_rfl)
                  rw [Array.getD_eq_getD_getElem?] at t18
                  have g89 : a.eval (.tmp 89) = .bool true := hd { on := 24, ground := .guard } (by simp) rfl
                  refine .inl ⟨(by simp only [Region.wanted]; rw [yielded_of (d := 89) (by rfl) g89]; rfl), ?_⟩
                  clear g89
                  go_simp
                  exact ⟨Below.refl _ _, rfl⟩
                · have t90 : a.tmps.getD 90 undef = .int .i64 0 := hd { on := 25, ground := .data } (by simp) rfl
                  rw [Array.getD_eq_getD_getElem?] at t90
                  have g89 : a.eval (.tmp 89) = .bool true := hd { on := 24, ground := .guard } (by simp) rfl
                  refine .inl ⟨(by simp only [Region.wanted]; rw [yielded_of (d := 89) (by rfl) g89]; rfl), ?_⟩
                  clear g89
                  go_simp
                  exact ⟨Below.refl _ _, rfl⟩
                · have t89 : a.tmps.getD 89 undef = .bool true := hd { on := 24, ground := .data } (by simp) rfl
                  rw [Array.getD_eq_getD_getElem?] at t89
                  have t91 : a.tmps.getD 91 undef = .bool false := hd { on := 26, ground := .data } (by simp) rfl
                  rw [Array.getD_eq_getD_getElem?] at t91
                  have g85 : a.eval (.tmp 85) = .bool false := hd { on := 20, ground := .guard } (by simp) rfl
                  refine .inl ⟨(by simp only [Region.wanted]; rw [yielded_of (d := 85) (by rfl) g85]; rfl), ?_⟩
                  clear g85
                  go_simp
                  exact ⟨Below.refl _ _, rfl⟩
                · have t85 : a.tmps.getD 85 undef = .bool false := hd { on := 20, ground := .data } (by simp) rfl
                  rw [Array.getD_eq_getD_getElem?] at t85
                  have t92 : a.tmps.getD 92 undef = .bool false := hd { on := 27, ground := .data } (by simp) rfl
                  rw [Array.getD_eq_getD_getElem?] at t92
                  refine .inl ⟨rfl, ?_⟩
                  go_simp
                  exact ⟨Below.refl _ _, rfl⟩
              · intro vs W hE hV
                have h28 : vs 28 = .bool false := hV 28 (by decide)
                have HWW : Hid (Below W5.heap.size W5 W) := hE
                have HBf : Hid (Below w.heap.size w W) := HB0.out.trans (hE.mono HB0.out.size)
                clear hV hE
                simp only [putsV, dstsV, List.foldl, h28, Act.put, List.setIfInBounds_toArray, List.set_cons_succ, List.set_cons_zero]
                clear h28
                generalize vs 0 = y0
                generalize vs 1 = y1
                generalize vs 2 = y2
                generalize vs 3 = y3
                generalize vs 4 = y4
                generalize vs 5 = y5
                generalize vs 6 = y6
                generalize vs 7 = y7
                generalize vs 8 = y8
                generalize vs 9 = y9
                generalize vs 10 = y10
                generalize vs 11 = y11
                generalize vs 12 = y12
                generalize vs 13 = y13
                generalize vs 14 = y14
                generalize vs 15 = y15
                generalize vs 16 = y16
                generalize vs 17 = y17
                generalize vs 18 = y18
                generalize vs 19 = y19
                generalize vs 20 = y20
                generalize vs 21 = y21
                generalize vs 22 = y22
                generalize vs 23 = y23
                generalize vs 24 = y24
                generalize vs 25 = y25
                generalize vs 26 = y26
                generalize vs 27 = y27
                refine ‹∀ (a : Act) (w : World), Code.wp Tryd.prog (Code.cond _ _ _) _ a w → _› _ _ ?_
                have HPf : Hid (HasBox W b6 25 (pcells p)) := HP W HWW.out
                have HQf : Hid (HasBox W b17 25 (pcells q)) := HQ W HWW.out
                have HCf : Hid (CellsAt W w.heap.size cs) := HCc.out W HWW.out
                clear HP HQ HCc HWW HWp HWq
                have hN100 : NN ≤ 100 := by have := HNN.out.2; omega
                go_wp2_with (first | (refine wpList_load_bx rfl 25 (.tmp 17) rfl b17 rfl 25 _ _ HQf.out Tryd.underlying25 rfl infoProbing ?_) | (refine wpList_store_row rfl 25 (.tmp 6) (.tmp 98) rfl b6 (pcells q) rfl rfl 25 _ HPf.out infoProbing rfl (pcells_one _) ?_) | fail)
                have HX6 : Hid (HasBox (W.setRow b6 (pcells q)) b6 25 (pcells q)) := HasBox.row HPf.out
                have HC6 : Hid (CellsAt (W.setRow b6 (pcells q)) w.heap.size cs) := HasBox.rowOther HCf.out (by have := HLe.out; omega)
                have HB6 : Hid (Below w.heap.size w (W.setRow b6 (pcells q))) := below_setRow HBf.out (by have := HLe.out; omega) _
                go_roundw
                case rel => exact ⟨k + 1, q, moves, by omega, by go_num, rfl, HR.out, HQi.out, HX6.out, HC6.out, HB6.out⟩
                case measure => simp [intOf]; omega
            · have HK : Hid (¬ n3 ≤ (k : Int)) := hkn
              clear hkn
              refine wp_region_mp ([eqP (.int .i64 0), eqP (.bool false), eqP (.agg (pcells q)), eqP (.bool y), eqP (.agg (pcells p)), eqP (.bool y), eqP (.bool false), eqP (.bool false), eqP (.bool false), eqP (.int .i64 0), eqP (.bool false), eqP (.bool false), eqP (undef), eqP (undef), eqP (.bool false), eqP (.bool false), eqP (undef), eqP (undef), eqP (.bool false), eqP (.bool false), eqP (.bool false), eqP (.int .i64 k), eqP (.int .i64 n3), eqP (.bool false), eqP (.bool false), eqP (undef), eqP (undef), eqP (.bool false), eqP (.bool false)]) (by kernel_rfl) (by kernel_rfl) ?_ ?_
              · simp only [stepsAll3]
                refine ⟨fun a W hF hE hd => ?_, fun a W hF hE hd => ?_, fun a W hF hE hd => ?_, fun a W hF hE hd => ?_, fun a W hF hE hd => ?_, fun a W hF hE hd => ?_, fun a W hF hE hd => ?_, fun a W hF hE hd => ?_, fun a W hF hE hd => ?_, fun a W hF hE hd => ?_, fun a W hF hE hd => ?_, fun a W hF hE hd => ?_, fun a W hF hE hd => ?_, fun a W hF hE hd => ?_, fun a W hF hE hd => ?_, fun a W hF hE hd => ?_, fun a W hF hE hd => ?_, fun a W hF hE hd => ?_, fun a W hF hE hd => ?_, fun a W hF hE hd => ?_, fun a W hF hE hd => ?_, fun a W hF hE hd => ?_, fun a W hF hE hd => ?_, fun a W hF hE hd => ?_, fun a W hF hE hd => ?_, fun a W hF hE hd => ?_, fun a W hF hE hd => ?_, fun a W hF hE hd => ?_, fun a W hF hE hd => ?_, trivial⟩
                all_goals unfold StepAt
                · have t18 : a.tmps.getD 18 undef = .int .i64 0 := hF.at 18 (by kernel_rfl)
                  rw [Array.getD_eq_getD_getElem?] at t18
                  refine .inl ⟨rfl, ?_⟩
                  go_simp
                  exact ⟨Below.refl _ _, rfl⟩
                · have t65 : a.tmps.getD 65 undef = .int .i64 0 := hd { on := 0, ground := .data } (by simp) rfl
                  rw [Array.getD_eq_getD_getElem?] at t65
                  refine .inl ⟨rfl, ?_⟩
                  go_simp
                  exact ⟨Below.refl _ _, rfl⟩
                · have t17 : a.tmps.getD 17 undef = .pointer (some ⟨b17, 0, none⟩) := hF.at 17 (by kernel_rfl)
                  rw [Array.getD_eq_getD_getElem?] at t17
                  refine .inl ⟨rfl, ?_⟩
                  rw [run_oload _ _ 25 (.tmp 17) rfl (b17) (by simpa [Act.eval] using t17) 25 (pcells q) (0, 0) _ (HQ W hE) Tryd.underlying25 rfl infoProbing]
                  exact ⟨Below.refl _ _, rfl⟩
                · have t67 : a.tmps.getD 67 undef = .agg (pcells q) := hd { on := 2, ground := .data } (by simp) rfl
                  rw [Array.getD_eq_getD_getElem?] at t67
                  refine .inl ⟨rfl, ?_⟩
                  go_simp
                  exact (HWq W).mono fun e w2 h => ⟨_, h.1, h.2, rfl⟩
                · have t6 : a.tmps.getD 6 undef = .pointer (some ⟨b6, 0, none⟩) := hF.at 6 (by kernel_rfl)
                  rw [Array.getD_eq_getD_getElem?] at t6
                  refine .inl ⟨rfl, ?_⟩
                  rw [run_oload _ _ 25 (.tmp 6) rfl (b6) (by simpa [Act.eval] using t6) 25 (pcells p) (0, 0) _ (HP W hE) Tryd.underlying25 rfl infoProbing]
                  exact ⟨Below.refl _ _, rfl⟩
                · have t69 : a.tmps.getD 69 undef = .agg (pcells p) := hd { on := 4, ground := .data } (by simp) rfl
                  rw [Array.getD_eq_getD_getElem?] at t69
                  refine .inl ⟨rfl, ?_⟩
                  go_simp
                  exact (HWp W).mono fun e w2 h => ⟨_, h.1, h.2, rfl⟩
                · have t68 : a.tmps.getD 68 undef = .bool y := hd { on := 3, ground := .data } (by simp) rfl
                  rw [Array.getD_eq_getD_getElem?] at t68
                  have t70 : a.tmps.getD 70 undef = .bool y := hd { on := 5, ground := .data } (by simp) rfl
                  rw [Array.getD_eq_getD_getElem?] at t70
                  refine .inl ⟨rfl, ?_⟩
                  go_simp
                  exact ⟨Below.refl _ _, rfl⟩
                · have t66 : a.tmps.getD 66 undef = .bool false := hd { on := 1, ground := .data } (by simp) rfl
                  rw [Array.getD_eq_getD_getElem?] at t66
                  have t71 : a.tmps.getD 71 undef = .bool false := hd { on := 6, ground := .data } (by simp) rfl
                  rw [Array.getD_eq_getD_getElem?] at t71
                  refine .inl ⟨rfl, ?_⟩
                  go_simp
                  exact ⟨Below.refl _ _, rfl⟩
                · have t72 : a.tmps.getD 72 undef = .bool false := hd { on := 7, ground := .data } (by simp) rfl
                  rw [Array.getD_eq_getD_getElem?] at t72
                  refine .inl ⟨rfl, ?_⟩
                  go_simp
                  exact ⟨Below.refl _ _, rfl⟩
                · have t18 : a.tmps.getD 18 undef = .int .i64 0 := hF.at 18 (by kernel_rfl)
                  rw [Array.getD_eq_getD_getElem?] at t18
                  have g73 : a.eval (.tmp 73) = .bool false := hd { on := 8, ground := .guard } (by simp) rfl
                  refine .inl ⟨(by simp only [Region.wanted]; rw [yielded_of (d := 73) (by rfl) g73]; rfl), ?_⟩
                  clear g73
                  go_simp
                  exact ⟨Below.refl _ _, rfl⟩
                · have t74 : a.tmps.getD 74 undef = .int .i64 0 := hd { on := 9, ground := .data } (by simp) rfl
                  rw [Array.getD_eq_getD_getElem?] at t74
                  have g73 : a.eval (.tmp 73) = .bool false := hd { on := 8, ground := .guard } (by simp) rfl
                  refine .inl ⟨(by simp only [Region.wanted]; rw [yielded_of (d := 73) (by rfl) g73]; rfl), ?_⟩
                  clear g73
                  go_simp
                  exact ⟨Below.refl _ _, rfl⟩
                · have t75 : a.tmps.getD 75 undef = .bool false := hd { on := 10, ground := .data } (by simp) rfl
                  rw [Array.getD_eq_getD_getElem?] at t75
                  have g73 : a.eval (.tmp 73) = .bool false := hd { on := 8, ground := .guard } (by simp) rfl
                  refine .inl ⟨(by simp only [Region.wanted]; rw [yielded_of (d := 73) (by rfl) g73]; rfl), ?_⟩
                  clear g73
                  go_simp
                  exact ⟨Below.refl _ _, rfl⟩
                · have g76 : a.eval (.tmp 76) = .bool false := hd { on := 11, ground := .guard } (by simp) rfl
                  exact .inr ⟨(by simp only [Region.wanted]; rw [yielded_of (d := 76) (by rfl) g76]; rfl), rfl⟩
                · have g76 : a.eval (.tmp 76) = .bool false := hd { on := 11, ground := .guard } (by simp) rfl
                  exact .inr ⟨(by simp only [Region.wanted]; rw [yielded_of (d := 76) (by rfl) g76]; rfl), rfl⟩
                · have t76 : a.tmps.getD 76 undef = .bool false := hd { on := 11, ground := .data } (by simp) rfl
                  rw [Array.getD_eq_getD_getElem?] at t76
                  have g73 : a.eval (.tmp 73) = .bool false := hd { on := 8, ground := .guard } (by simp) rfl
                  refine .inl ⟨(by simp only [Region.wanted]; rw [yielded_of (d := 73) (by rfl) g73]; rfl), ?_⟩
                  clear g73
                  go_simp
                  exact ⟨Below.refl _ _, rfl⟩
                · have t79 : a.tmps.getD 79 undef = .bool false := hd { on := 14, ground := .data } (by simp) rfl
                  rw [Array.getD_eq_getD_getElem?] at t79
                  have g73 : a.eval (.tmp 73) = .bool false := hd { on := 8, ground := .guard } (by simp) rfl
                  refine .inl ⟨(by simp only [Region.wanted]; rw [yielded_of (d := 73) (by rfl) g73]; rfl), ?_⟩
                  clear g73
                  go_simp
                  exact ⟨Below.refl _ _, rfl⟩
                · have g80 : a.eval (.tmp 80) = .bool false := hd { on := 15, ground := .guard } (by simp) rfl
                  exact .inr ⟨(by simp only [Region.wanted]; rw [yielded_of (d := 80) (by rfl) g80]; rfl), rfl⟩
                · have g80 : a.eval (.tmp 80) = .bool false := hd { on := 15, ground := .guard } (by simp) rfl
                  exact .inr ⟨(by simp only [Region.wanted]; rw [yielded_of (d := 80) (by rfl) g80]; rfl), rfl⟩
                · have t80 : a.tmps.getD 80 undef = .bool false := hd { on := 15, ground := .data } (by simp) rfl
                  rw [Array.getD_eq_getD_getElem?] at t80
                  have g73 : a.eval (.tmp 73) = .bool false := hd { on := 8, ground := .guard } (by simp) rfl
                  refine .inl ⟨(by simp only [Region.wanted]; rw [yielded_of (d := 73) (by rfl) g73]; rfl), ?_⟩
                  clear g73
                  go_simp
                  exact ⟨Below.refl _ _, rfl⟩
                · have t73 : a.tmps.getD 73 undef = .bool false := hd { on := 8, ground := .data } (by simp) rfl
                  rw [Array.getD_eq_getD_getElem?] at t73
                  have t83 : a.tmps.getD 83 undef = .bool false := hd { on := 18, ground := .data } (by simp) rfl
                  rw [Array.getD_eq_getD_getElem?] at t83
                  refine .inl ⟨rfl, ?_⟩
                  go_simp
                  exact ⟨Below.refl _ _, rfl⟩
                · have t84 : a.tmps.getD 84 undef = .bool false := hd { on := 19, ground := .data } (by simp) rfl
                  rw [Array.getD_eq_getD_getElem?] at t84
                  refine .inl ⟨rfl, ?_⟩
                  go_simp
                  exact ⟨Below.refl _ _, rfl⟩
                · have t16 : a.tmps.getD 16 undef = .int .i64 k := hF.at 16 (by kernel_rfl)
                  rw [Array.getD_eq_getD_getElem?] at t16
                  have g85 : a.eval (.tmp 85) = .bool false := hd { on := 20, ground := .guard } (by simp) rfl
                  refine .inl ⟨(by simp only [Region.wanted]; rw [yielded_of (d := 85) (by rfl) g85]; rfl), ?_⟩
                  clear g85
                  go_simp
                  exact ⟨Below.refl _ _, rfl⟩
                · have t13 : a.tmps.getD 13 undef = .int .i64 n3 := hF.at 13 (by kernel_rfl)
                  rw [Array.getD_eq_getD_getElem?] at t13
                  have g85 : a.eval (.tmp 85) = .bool false := hd { on := 20, ground := .guard } (by simp) rfl
                  refine .inl ⟨(by simp only [Region.wanted]; rw [yielded_of (d := 85) (by rfl) g85]; rfl), ?_⟩
                  clear g85
                  go_simp
                  exact ⟨Below.refl _ _, rfl⟩
                · have t86 : a.tmps.getD 86 undef = .int .i64 k := hd { on := 21, ground := .data } (by simp) rfl
                  rw [Array.getD_eq_getD_getElem?] at t86
                  have t87 : a.tmps.getD 87 undef = .int .i64 n3 := hd { on := 22, ground := .data } (by simp) rfl
                  rw [Array.getD_eq_getD_getElem?] at t87
                  have g85 : a.eval (.tmp 85) = .bool false := hd { on := 20, ground := .guard } (by simp) rfl
                  refine .inl ⟨(by simp only [Region.wanted]; rw [yielded_of (d := 85) (by rfl) g85]; rfl), ?_⟩
                  clear g85
                  have q1 : ¬ n3 ≤ (k : Int) := HK.out
                  go_simp
                  exact ⟨Below.refl _ _, rfl⟩
                · have t88 : a.tmps.getD 88 undef = .bool false := hd { on := 23, ground := .data } (by simp) rfl
                  rw [Array.getD_eq_getD_getElem?] at t88
                  have g85 : a.eval (.tmp 85) = .bool false := hd { on := 20, ground := .guard } (by simp) rfl
                  refine .inl ⟨(by simp only [Region.wanted]; rw [yielded_of (d := 85) (by rfl) g85]; rfl), ?_⟩
                  clear g85
                  go_simp
                  exact ⟨Below.refl _ _, rfl⟩
                · have g89 : a.eval (.tmp 89) = .bool false := hd { on := 24, ground := .guard } (by simp) rfl
                  exact .inr ⟨(by simp only [Region.wanted]; rw [yielded_of (d := 89) (by rfl) g89]; rfl), rfl⟩
                · have g89 : a.eval (.tmp 89) = .bool false := hd { on := 24, ground := .guard } (by simp) rfl
                  exact .inr ⟨(by simp only [Region.wanted]; rw [yielded_of (d := 89) (by rfl) g89]; rfl), rfl⟩
                · have t89 : a.tmps.getD 89 undef = .bool false := hd { on := 24, ground := .data } (by simp) rfl
                  rw [Array.getD_eq_getD_getElem?] at t89
                  have g85 : a.eval (.tmp 85) = .bool false := hd { on := 20, ground := .guard } (by simp) rfl
                  refine .inl ⟨(by simp only [Region.wanted]; rw [yielded_of (d := 85) (by rfl) g85]; rfl), ?_⟩
                  clear g85
                  go_simp
                  exact ⟨Below.refl _ _, rfl⟩
                · have t85 : a.tmps.getD 85 undef = .bool false := hd { on := 20, ground := .data } (by simp) rfl
                  rw [Array.getD_eq_getD_getElem?] at t85
                  have t92 : a.tmps.getD 92 undef = .bool false := hd { on := 27, ground := .data } (by simp) rfl
                  rw [Array.getD_eq_getD_getElem?] at t92
                  refine .inl ⟨rfl, ?_⟩
                  go_simp
                  exact ⟨Below.refl _ _, rfl⟩
              · intro vs W hE hV
                have h28 : vs 28 = .bool false := hV 28 (by decide)
                have HWW : Hid (Below W5.heap.size W5 W) := hE
                have HBf : Hid (Below w.heap.size w W) := HB0.out.trans (hE.mono HB0.out.size)
                clear hV hE
                simp only [putsV, dstsV, List.foldl, h28, Act.put, List.setIfInBounds_toArray, List.set_cons_succ, List.set_cons_zero]
                clear h28
                generalize vs 0 = y0
                generalize vs 1 = y1
                generalize vs 2 = y2
                generalize vs 3 = y3
                generalize vs 4 = y4
                generalize vs 5 = y5
                generalize vs 6 = y6
                generalize vs 7 = y7
                generalize vs 8 = y8
                generalize vs 9 = y9
                generalize vs 10 = y10
                generalize vs 11 = y11
                generalize vs 12 = y12
                generalize vs 13 = y13
                generalize vs 14 = y14
                generalize vs 15 = y15
                generalize vs 16 = y16
                generalize vs 17 = y17
                generalize vs 18 = y18
                generalize vs 19 = y19
                generalize vs 20 = y20
                generalize vs 21 = y21
                generalize vs 22 = y22
                generalize vs 23 = y23
                generalize vs 24 = y24
                generalize vs 25 = y25
                generalize vs 26 = y26
                generalize vs 27 = y27
                refine ‹∀ (a : Act) (w : World), Code.wp Tryd.prog (Code.cond _ _ _) _ a w → _› _ _ ?_
                have HPf : Hid (HasBox W b6 25 (pcells p)) := HP W HWW.out
                have HQf : Hid (HasBox W b17 25 (pcells q)) := HQ W HWW.out
                have HCf : Hid (CellsAt W w.heap.size cs) := HCc.out W HWW.out
                clear HP HQ HCc HWW HWp HWq
                have hN100 : NN ≤ 100 := by have := HNN.out.2; omega
                go_wp2_with (first | (refine wpList_load_bx rfl 25 (.tmp 17) rfl b17 rfl 25 _ _ HQf.out Tryd.underlying25 rfl infoProbing ?_) | (refine wpList_store_row rfl 25 (.tmp 6) (.tmp 98) rfl b6 (pcells q) rfl rfl 25 _ HPf.out infoProbing rfl (pcells_one _) ?_) | fail)
                have HX6 : Hid (HasBox (W.setRow b6 (pcells q)) b6 25 (pcells q)) := HasBox.row HPf.out
                have HC6 : Hid (CellsAt (W.setRow b6 (pcells q)) w.heap.size cs) := HasBox.rowOther HCf.out (by have := HLe.out; omega)
                have HB6 : Hid (Below w.heap.size w (W.setRow b6 (pcells q))) := below_setRow HBf.out (by have := HLe.out; omega) _
                go_roundw
                case rel => exact ⟨k + 1, q, moves, by omega, by go_num, rfl, HR.out, HQi.out, HX6.out, HC6.out, HB6.out⟩
                case measure => simp [intOf]; omega
          · rw [hw] at HWq
            have HR : Hid (Rising n3 true ps q (k + 1) 1) := hr
            have HK : Hid (¬ n3 ≤ (k : Int)) := by show ¬ _; omega
            clear hw hr HTold hkn
            rcases hm12 with rfl | rfl
            · refine wp_region_mp ([eqP (.int .i64 1), eqP (.bool true), eqP (.agg (pcells q)), eqP (.bool (!y)), eqP (.agg (pcells p)), eqP (.bool y), eqP (.bool true), eqP (.bool false), eqP (.bool false), eqP (.int .i64 1), eqP (.bool true), eqP (.bool true), eqP (.int .i64 1), eqP (.bool false), eqP (.bool false), eqP (.bool false), eqP (undef), eqP (undef), eqP (.bool false), eqP (.bool false), eqP (.bool false), eqP (.int .i64 k), eqP (.int .i64 n3), eqP (.bool false), eqP (.bool false), eqP (undef), eqP (undef), eqP (.bool false), eqP (.bool false)]) (by kernel_rfl) (by kernel_rfl) ?_ ?_
              · simp only [stepsAll3]
                refine ⟨fun a W hF hE hd => ?_, fun a W hF hE hd => ?_, fun a W hF hE hd => ?_, fun a W hF hE hd => ?_, fun a W hF hE hd => ?_, fun a W hF hE hd => ?_, fun a W hF hE hd => ?_, fun a W hF hE hd => ?_, fun a W hF hE hd => ?_, fun a W hF hE hd => ?_, fun a W hF hE hd => ?_, fun a W hF hE hd => ?_, fun a W hF hE hd => ?_, fun a W hF hE hd => ?_, fun a W hF hE hd => ?_, fun a W hF hE hd => ?_, fun a W hF hE hd => ?_, fun a W hF hE hd => ?_, fun a W hF hE hd => ?_, fun a W hF hE hd => ?_, fun a W hF hE hd => ?_, fun a W hF hE hd => ?_, fun a W hF hE hd => ?_, fun a W hF hE hd => ?_, fun a W hF hE hd => ?_, fun a W hF hE hd => ?_, fun a W hF hE hd => ?_, fun a W hF hE hd => ?_, fun a W hF hE hd => ?_, trivial⟩
                all_goals unfold StepAt
                · have t18 : a.tmps.getD 18 undef = .int .i64 1 := hF.at 18 (by kernel_rfl)
                  rw [Array.getD_eq_getD_getElem?] at t18
                  refine .inl ⟨rfl, ?_⟩
                  go_simp
                  exact ⟨Below.refl _ _, rfl⟩
                · have t65 : a.tmps.getD 65 undef = .int .i64 1 := hd { on := 0, ground := .data } (by simp) rfl
                  rw [Array.getD_eq_getD_getElem?] at t65
                  refine .inl ⟨rfl, ?_⟩
                  go_simp
                  exact ⟨Below.refl _ _, rfl⟩
                · have t17 : a.tmps.getD 17 undef = .pointer (some ⟨b17, 0, none⟩) := hF.at 17 (by kernel_rfl)
                  rw [Array.getD_eq_getD_getElem?] at t17
                  refine .inl ⟨rfl, ?_⟩
                  rw [run_oload _ _ 25 (.tmp 17) rfl (b17) (by simpa [Act.eval] using t17) 25 (pcells q) (0, 0) _ (HQ W hE) Tryd.underlying25 rfl infoProbing]
                  exact ⟨Below.refl _ _, rfl⟩
                · have t67 : a.tmps.getD 67 undef = .agg (pcells q) := hd { on := 2, ground := .data } (by simp) rfl
                  rw [Array.getD_eq_getD_getElem?] at t67
                  refine .inl ⟨rfl, ?_⟩
                  go_simp
                  exact (HWq W).mono fun e w2 h => ⟨_, h.1, h.2, rfl⟩
                · have t6 : a.tmps.getD 6 undef = .pointer (some ⟨b6, 0, none⟩) := hF.at 6 (by kernel_rfl)
                  rw [Array.getD_eq_getD_getElem?] at t6
                  refine .inl ⟨rfl, ?_⟩
                  rw [run_oload _ _ 25 (.tmp 6) rfl (b6) (by simpa [Act.eval] using t6) 25 (pcells p) (0, 0) _ (HP W hE) Tryd.underlying25 rfl infoProbing]
                  exact ⟨Below.refl _ _, rfl⟩
                · have t69 : a.tmps.getD 69 undef = .agg (pcells p) := hd { on := 4, ground := .data } (by simp) rfl
                  rw [Array.getD_eq_getD_getElem?] at t69
                  refine .inl ⟨rfl, ?_⟩
                  go_simp
                  exact (HWp W).mono fun e w2 h => ⟨_, h.1, h.2, rfl⟩
                · have t68 : a.tmps.getD 68 undef = .bool (!y) := hd { on := 3, ground := .data } (by simp) rfl
                  rw [Array.getD_eq_getD_getElem?] at t68
                  have t70 : a.tmps.getD 70 undef = .bool y := hd { on := 5, ground := .data } (by simp) rfl
                  rw [Array.getD_eq_getD_getElem?] at t70
                  refine .inl ⟨rfl, ?_⟩
                  go_simp
                  exact ⟨Below.refl _ _, rfl⟩
                · have t66 : a.tmps.getD 66 undef = .bool true := hd { on := 1, ground := .data } (by simp) rfl
                  rw [Array.getD_eq_getD_getElem?] at t66
                  have t71 : a.tmps.getD 71 undef = .bool true := hd { on := 6, ground := .data } (by simp) rfl
                  rw [Array.getD_eq_getD_getElem?] at t71
                  refine .inl ⟨rfl, ?_⟩
                  go_simp
                  exact ⟨Below.refl _ _, rfl⟩
                · have t72 : a.tmps.getD 72 undef = .bool false := hd { on := 7, ground := .data } (by simp) rfl
                  rw [Array.getD_eq_getD_getElem?] at t72
                  refine .inl ⟨rfl, ?_⟩
                  go_simp
                  exact ⟨Below.refl _ _, rfl⟩
                · have t18 : a.tmps.getD 18 undef = .int .i64 1 := hF.at 18 (by kernel_rfl)
                  rw [Array.getD_eq_getD_getElem?] at t18
                  have g73 : a.eval (.tmp 73) = .bool false := hd { on := 8, ground := .guard } (by simp) rfl
                  refine .inl ⟨(by simp only [Region.wanted]; rw [yielded_of (d := 73) (by rfl) g73]; rfl), ?_⟩
                  clear g73
                  go_simp
                  exact ⟨Below.refl _ _, rfl⟩
                · have t74 : a.tmps.getD 74 undef = .int .i64 1 := hd { on := 9, ground := .data } (by simp) rfl
                  rw [Array.getD_eq_getD_getElem?] at t74
                  have g73 : a.eval (.tmp 73) = .bool false := hd { on := 8, ground := .guard } (by simp) rfl
                  refine .inl ⟨(by simp only [Region.wanted]; rw [yielded_of (d := 73) (by rfl) g73]; rfl), ?_⟩
                  clear g73
                  go_simp
                  exact ⟨Below.refl _ _, rfl⟩
                · have t75 : a.tmps.getD 75 undef = .bool true := hd { on := 10, ground := .data } (by simp) rfl
                  rw [Array.getD_eq_getD_getElem?] at t75
                  have g73 : a.eval (.tmp 73) = .bool false := hd { on := 8, ground := .guard } (by simp) rfl
                  refine .inl ⟨(by simp only [Region.wanted]; rw [yielded_of (d := 73) (by rfl) g73]; rfl), ?_⟩
                  clear g73
                  go_simp
                  exact ⟨Below.refl _ _, rfl⟩
                · have t18 : a.tmps.getD 18 undef = .int .i64 1 := hF.at 18 (by kernel_rfl)
                  rw [Array.getD_eq_getD_getElem?] at t18
                  have g76 : a.eval (.tmp 76) = .bool true := hd { on := 11, ground := .guard } (by simp) rfl
                  refine .inl ⟨(by simp only [Region.wanted]; rw [yielded_of (d := 76) (by rfl) g76]; rfl), ?_⟩
                  clear g76
                  go_simp
                  exact ⟨Below.refl _ _, rfl⟩
                · have t77 : a.tmps.getD 77 undef = .int .i64 1 := hd { on := 12, ground := .data } (by simp) rfl
                  rw [Array.getD_eq_getD_getElem?] at t77
                  have g76 : a.eval (.tmp 76) = .bool true := hd { on := 11, ground := .guard } (by simp) rfl
                  refine .inl ⟨(by simp only [Region.wanted]; rw [yielded_of (d := 76) (by rfl) g76]; rfl), ?_⟩
                  clear g76
                  go_simp
                  exact ⟨Below.refl _ _, rfl⟩
                · have t76 : a.tmps.getD 76 undef = .bool true := hd { on := 11, ground := .data } (by simp) rfl
                  rw [Array.getD_eq_getD_getElem?] at t76
                  have t78 : a.tmps.getD 78 undef = .bool false := hd { on := 13, ground := .data } (by simp) rfl
                  rw [Array.getD_eq_getD_getElem?] at t78
                  have g73 : a.eval (.tmp 73) = .bool false := hd { on := 8, ground := .guard } (by simp) rfl
                  refine .inl ⟨(by simp only [Region.wanted]; rw [yielded_of (d := 73) (by rfl) g73]; rfl), ?_⟩
                  clear g73
                  go_simp
                  exact ⟨Below.refl _ _, rfl⟩
                · have t79 : a.tmps.getD 79 undef = .bool false := hd { on := 14, ground := .data } (by simp) rfl
                  rw [Array.getD_eq_getD_getElem?] at t79
                  have g73 : a.eval (.tmp 73) = .bool false := hd { on := 8, ground := .guard } (by simp) rfl
                  refine .inl ⟨(by simp only [Region.wanted]; rw [yielded_of (d := 73) (by rfl) g73]; rfl), ?_⟩
                  clear g73
                  go_simp
                  exact ⟨Below.refl _ _, rfl⟩
                · have g80 : a.eval (.tmp 80) = .bool false := hd { on := 15, ground := .guard } (by simp) rfl
                  exact .inr ⟨(by simp only [Region.wanted]; rw [yielded_of (d := 80) (by rfl) g80]; rfl), rfl⟩
                · have g80 : a.eval (.tmp 80) = .bool false := hd { on := 15, ground := .guard } (by simp) rfl
                  exact .inr ⟨(by simp only [Region.wanted]; rw [yielded_of (d := 80) (by rfl) g80]; rfl), rfl⟩
                · have t80 : a.tmps.getD 80 undef = .bool false := hd { on := 15, ground := .data } (by simp) rfl
                  rw [Array.getD_eq_getD_getElem?] at t80
                  have g73 : a.eval (.tmp 73) = .bool false := hd { on := 8, ground := .guard } (by simp) rfl
                  refine .inl ⟨(by simp only [Region.wanted]; rw [yielded_of (d := 73) (by rfl) g73]; rfl), ?_⟩
                  clear g73
                  go_simp
                  exact ⟨Below.refl _ _, rfl⟩
                · have t73 : a.tmps.getD 73 undef = .bool false := hd { on := 8, ground := .data } (by simp) rfl
                  rw [Array.getD_eq_getD_getElem?] at t73
                  have t83 : a.tmps.getD 83 undef = .bool false := hd { on := 18, ground := .data } (by simp) rfl
                  rw [Array.getD_eq_getD_getElem?] at t83
                  refine .inl ⟨rfl, ?_⟩
                  go_simp
                  exact ⟨Below.refl _ _, rfl⟩
                · have t84 : a.tmps.getD 84 undef = .bool false := hd { on := 19, ground := .data } (by simp) rfl
                  rw [Array.getD_eq_getD_getElem?] at t84
                  refine .inl ⟨rfl, ?_⟩
                  go_simp
                  exact ⟨Below.refl _ _, rfl⟩
                · have t16 : a.tmps.getD 16 undef = .int .i64 k := hF.at 16 (by kernel_rfl)
                  rw [Array.getD_eq_getD_getElem?] at t16
                  have g85 : a.eval (.tmp 85) = .bool false := hd { on := 20, ground := .guard } (by simp) rfl
                  refine .inl ⟨(by simp only [Region.wanted]; rw [yielded_of (d := 85) (by rfl) g85]; rfl), ?_⟩
                  clear g85
                  go_simp
                  exact ⟨Below.refl _ _, rfl⟩
                · have t13 : a.tmps.getD 13 undef = .int .i64 n3 := hF.at 13 (by kernel_rfl)
                  rw [Array.getD_eq_getD_getElem?] at t13
                  have g85 : a.eval (.tmp 85) = .bool false := hd { on := 20, ground := .guard } (by simp) rfl
                  refine .inl ⟨(by simp only [Region.wanted]; rw [yielded_of (d := 85) (by rfl) g85]; rfl), ?_⟩
                  clear g85
                  go_simp
                  exact ⟨Below.refl _ _, rfl⟩
                · have t86 : a.tmps.getD 86 undef = .int .i64 k := hd { on := 21, ground := .data } (by simp) rfl
                  rw [Array.getD_eq_getD_getElem?] at t86
                  have t87 : a.tmps.getD 87 undef = .int .i64 n3 := hd { on := 22, ground := .data } (by simp) rfl
                  rw [Array.getD_eq_getD_getElem?] at t87
                  have g85 : a.eval (.tmp 85) = .bool false := hd { on := 20, ground := .guard } (by simp) rfl
                  refine .inl ⟨(by simp only [Region.wanted]; rw [yielded_of (d := 85) (by rfl) g85]; rfl), ?_⟩
                  clear g85
                  have q1 : ¬ n3 ≤ (k : Int) := HK.out
                  go_simp
                  exact ⟨Below.refl _ _, rfl⟩
                · have t88 : a.tmps.getD 88 undef = .bool false := hd { on := 23, ground := .data } (by simp) rfl
                  rw [Array.getD_eq_getD_getElem?] at t88
                  have g85 : a.eval (.tmp 85) = .bool false := hd { on := 20, ground := .guard } (by simp) rfl
                  refine .inl ⟨(by simp only [Region.wanted]; rw [yielded_of (d := 85) (by rfl) g85]; rfl), ?_⟩
                  clear g85
                  go_simp
                  exact ⟨Below.refl _ _, rfl⟩
                · have g89 : a.eval (.tmp 89) = .bool false := hd { on := 24, ground := .guard } (by simp) rfl
                  exact .inr ⟨(by simp only [Region.wanted]; rw [yielded_of (d := 89) (by rfl) g89]; rfl), rfl⟩
                · have g89 : a.eval (.tmp 89) = .bool false := hd { on := 24, ground := .guard } (by simp) rfl
                  exact .inr ⟨(by simp only [Region.wanted]; rw [yielded_of (d := 89) (by rfl) g89]; rfl), rfl⟩
                · have t89 : a.tmps.getD 89 undef = .bool false := hd { on := 24, ground := .data } (by simp) rfl
                  rw [Array.getD_eq_getD_getElem?] at t89
                  have g85 : a.eval (.tmp 85) = .bool false := hd { on := 20, ground := .guard } (by simp) rfl
                  refine .inl ⟨(by simp only [Region.wanted]; rw [yielded_of (d := 85) (by rfl) g85]; rfl), ?_⟩
                  clear g85
                  go_simp
                  exact ⟨Below.refl _ _, rfl⟩
                · have t85 : a.tmps.getD 85 undef = .bool false := hd { on := 20, ground := .data } (by simp) rfl
                  rw [Array.getD_eq_getD_getElem?] at t85
                  have t92 : a.tmps.getD 92 undef = .bool false := hd { on := 27, ground := .data } (by simp) rfl
                  rw [Array.getD_eq_getD_getElem?] at t92
                  refine .inl ⟨rfl, ?_⟩
                  go_simp
                  exact ⟨Below.refl _ _, rfl⟩
              · intro vs W hE hV
                have h28 : vs 28 = .bool false := hV 28 (by decide)
                have HWW : Hid (Below W5.heap.size W5 W) := hE
                have HBf : Hid (Below w.heap.size w W) := HB0.out.trans (hE.mono HB0.out.size)
                clear hV hE
                simp only [putsV, dstsV, List.foldl, h28, Act.put, List.setIfInBounds_toArray, List.set_cons_succ, List.set_cons_zero]
                clear h28
                generalize vs 0 = y0
                generalize vs 1 = y1
                generalize vs 2 = y2
                generalize vs 3 = y3
                generalize vs 4 = y4
                generalize vs 5 = y5
                generalize vs 6 = y6
                generalize vs 7 = y7
                generalize vs 8 = y8
                generalize vs 9 = y9
                generalize vs 10 = y10
                generalize vs 11 = y11
                generalize vs 12 = y12
                generalize vs 13 = y13
                generalize vs 14 = y14
                generalize vs 15 = y15
                generalize vs 16 = y16
                generalize vs 17 = y17
                generalize vs 18 = y18
                generalize vs 19 = y19
                generalize vs 20 = y20
                generalize vs 21 = y21
                generalize vs 22 = y22
                generalize vs 23 = y23
                generalize vs 24 = y24
                generalize vs 25 = y25
                generalize vs 26 = y26
                generalize vs 27 = y27
                refine ‹∀ (a : Act) (w : World), Code.wp Tryd.prog (Code.cond _ _ _) _ a w → _› _ _ ?_
                have HPf : Hid (HasBox W b6 25 (pcells p)) := HP W HWW.out
                have HQf : Hid (HasBox W b17 25 (pcells q)) := HQ W HWW.out
                have HCf : Hid (CellsAt W w.heap.size cs) := HCc.out W HWW.out
                clear HP HQ HCc HWW HWp HWq
                have hN100 : NN ≤ 100 := by have := HNN.out.2; omega
                go_wp2_with (first | (refine wpList_load_bx rfl 25 (.tmp 17) rfl b17 rfl 25 _ _ HQf.out Tryd.underlying25 rfl infoProbing ?_) | (refine wpList_store_row rfl 25 (.tmp 6) (.tmp 98) rfl b6 (pcells q) rfl rfl 25 _ HPf.out infoProbing rfl (pcells_one _) ?_) | fail)
                have HX6 : Hid (HasBox (W.setRow b6 (pcells q)) b6 25 (pcells q)) := HasBox.row HPf.out
                have HC6 : Hid (CellsAt (W.setRow b6 (pcells q)) w.heap.size cs) := HasBox.rowOther HCf.out (by have := HLe.out; omega)
                have HB6 : Hid (Below w.heap.size w (W.setRow b6 (pcells q))) := below_setRow HBf.out (by have := HLe.out; omega) _
                go_roundw
                case rel => exact ⟨k + 1, q, 1, by omega, by go_num, rfl, HR.out, HQi.out, HX6.out, HC6.out, HB6.out⟩
                case measure => simp [intOf]; omega
            · refine wp_region_mp ([eqP (.int .i64 2), eqP (.bool true), eqP (.agg (pcells q)), eqP (.bool (!y)), eqP (.agg (pcells p)), eqP (.bool y), eqP (.bool true), eqP (.bool false), eqP (.bool false), eqP (.int .i64 2), eqP (.bool true), eqP (.bool true), eqP (.int .i64 2), eqP (.bool true), eqP (.bool true), eqP (.bool true), eqP (.int .i64 2), eqP (.bool false), eqP (.bool false), eqP (.bool false), eqP (.bool false), eqP (.int .i64 k), eqP (.int .i64 n3), eqP (.bool false), eqP (.bool false), eqP (undef), eqP (undef), eqP (.bool false), eqP (.bool false)]) (by kernel_rfl) (by kernel_rfl) ?_ ?_
              · simp only [stepsAll3]
                refine ⟨fun a W hF hE hd => ?_, fun a W hF hE hd => ?_, fun a W hF hE hd => ?_, fun a W hF hE hd => ?_, fun a W hF hE hd => ?_, fun a W hF hE hd => ?_, fun a W hF hE hd => ?_, fun a W hF hE hd => ?_, fun a W hF hE hd => ?_, fun a W hF hE hd => ?_, fun a W hF hE hd => ?_, fun a W hF hE hd => ?_, fun a W hF hE hd => ?_, fun a W hF hE hd => ?_, fun a W hF hE hd => ?_, fun a W hF hE hd => ?_, fun a W hF hE hd => ?_, fun a W hF hE hd => ?_, fun a W hF hE hd => ?_, fun a W hF hE hd => ?_, fun a W hF hE hd => ?_, fun a W hF hE hd => ?_, fun a W hF hE hd => ?_, fun a W hF hE hd => ?_, fun a W hF hE hd => ?_, fun a W hF hE hd => ?_, fun a W hF hE hd => ?_, fun a W hF hE hd => ?_, fun a W hF hE hd => ?_, trivial⟩
                all_goals unfold StepAt
                · have t18 : a.tmps.getD 18 undef = .int .i64 2 := hF.at 18 (by kernel_rfl)
                  rw [Array.getD_eq_getD_getElem?] at t18
                  refine .inl ⟨rfl, ?_⟩
                  go_simp
                  exact ⟨Below.refl _ _, rfl⟩
                · have t65 : a.tmps.getD 65 undef = .int .i64 2 := hd { on := 0, ground := .data } (by simp) rfl
                  rw [Array.getD_eq_getD_getElem?] at t65
                  refine .inl ⟨rfl, ?_⟩
                  go_simp
                  exact ⟨Below.refl _ _, rfl⟩
                · have t17 : a.tmps.getD 17 undef = .pointer (some ⟨b17, 0, none⟩) := hF.at 17 (by kernel_rfl)
                  rw [Array.getD_eq_getD_getElem?] at t17
                  refine .inl ⟨rfl, ?_⟩
                  rw [run_oload _ _ 25 (.tmp 17) rfl (b17) (by simpa [Act.eval] using t17) 25 (pcells q) (0, 0) _ (HQ W hE) Tryd.underlying25 rfl infoProbing]
                  exact ⟨Below.refl _ _, rfl⟩
                · have t67 : a.tmps.getD 67 undef = .agg (pcells q) := hd { on := 2, ground := .data } (by simp) rfl
                  rw [Array.getD_eq_getD_getElem?] at t67
                  refine .inl ⟨rfl, ?_⟩
                  go_simp
                  exact (HWq W).mono fun e w2 h => ⟨_, h.1, h.2, rfl⟩
                · have t6 : a.tmps.getD 6 undef = .pointer (some ⟨b6, 0, none⟩) := hF.at 6 (by kernel_rfl)
                  rw [Array.getD_eq_getD_getElem?] at t6
                  refine .inl ⟨rfl, ?_⟩
                  rw [run_oload _ _ 25 (.tmp 6) rfl (b6) (by simpa [Act.eval] using t6) 25 (pcells p) (0, 0) _ (HP W hE) Tryd.underlying25 rfl infoProbing]
                  exact ⟨Below.refl _ _, rfl⟩
                · have t69 : a.tmps.getD 69 undef = .agg (pcells p) := hd { on := 4, ground := .data } (by simp) rfl
                  rw [Array.getD_eq_getD_getElem?] at t69
                  refine .inl ⟨rfl, ?_⟩
                  go_simp
                  exact (HWp W).mono fun e w2 h => ⟨_, h.1, h.2, rfl⟩
                · have t68 : a.tmps.getD 68 undef = .bool (!y) := hd { on := 3, ground := .data } (by simp) rfl
                  rw [Array.getD_eq_getD_getElem?] at t68
                  have t70 : a.tmps.getD 70 undef = .bool y := hd { on := 5, ground := .data } (by simp) rfl
                  rw [Array.getD_eq_getD_getElem?] at t70
                  refine .inl ⟨rfl, ?_⟩
                  go_simp
                  exact ⟨Below.refl _ _, rfl⟩
                · have t66 : a.tmps.getD 66 undef = .bool true := hd { on := 1, ground := .data } (by simp) rfl
                  rw [Array.getD_eq_getD_getElem?] at t66
                  have t71 : a.tmps.getD 71 undef = .bool true := hd { on := 6, ground := .data } (by simp) rfl
                  rw [Array.getD_eq_getD_getElem?] at t71
                  refine .inl ⟨rfl, ?_⟩
                  go_simp
                  exact ⟨Below.refl _ _, rfl⟩
                · have t72 : a.tmps.getD 72 undef = .bool false := hd { on := 7, ground := .data } (by simp) rfl
                  rw [Array.getD_eq_getD_getElem?] at t72
                  refine .inl ⟨rfl, ?_⟩
                  go_simp
                  exact ⟨Below.refl _ _, rfl⟩
                · have t18 : a.tmps.getD 18 undef = .int .i64 2 := hF.at 18 (by kernel_rfl)
                  rw [Array.getD_eq_getD_getElem?] at t18
                  have g73 : a.eval (.tmp 73) = .bool false := hd { on := 8, ground := .guard } (by simp) rfl
                  refine .inl ⟨(by simp only [Region.wanted]; rw [yielded_of (d := 73) (by rfl) g73]; rfl), ?_⟩
                  clear g73
                  go_simp
                  exact ⟨Below.refl _ _, rfl⟩
                · have t74 : a.tmps.getD 74 undef = .int .i64 2 := hd { on := 9, ground := .data } (by simp) rfl
                  rw [Array.getD_eq_getD_getElem?] at t74
                  have g73 : a.eval (.tmp 73) = .bool false := hd { on := 8, ground := .guard } (by simp) rfl
                  refine .inl ⟨(by simp only [Region.wanted]; rw [yielded_of (d := 73) (by rfl) g73]; rfl), ?_⟩
                  clear g73
                  go_simp
                  exact ⟨Below.refl _ _, rfl⟩
                · have t75 : a.tmps.getD 75 undef = .bool true := hd { on := 10, ground := .data } (by simp) rfl
                  rw [Array.getD_eq_getD_getElem?] at t75
                  have g73 : a.eval (.tmp 73) = .bool false := hd { on := 8, ground := .guard } (by simp) rfl
                  refine .inl ⟨(by simp only [Region.wanted]; rw [yielded_of (d := 73) (by rfl) g73]; rfl), ?_⟩
                  clear g73
                  go_simp
                  exact ⟨Below.refl _ _, rfl⟩
                · have t18 : a.tmps.getD 18 undef = .int .i64 2 := hF.at 18 (by kernel_rfl)
                  rw [Array.getD_eq_getD_getElem?] at t18
                  have g76 : a.eval (.tmp 76) = .bool true := hd { on := 11, ground := .guard } (by simp) rfl
                  refine .inl ⟨(by simp only [Region.wanted]; rw [yielded_of (d := 76) (by rfl) g76]; rfl), ?_⟩
                  clear g76
                  go_simp
                  exact ⟨Below.refl _ _, rfl⟩
                · have t77 : a.tmps.getD 77 undef = .int .i64 2 := hd { on := 12, ground := .data } (by simp) rfl
                  rw [Array.getD_eq_getD_getElem?] at t77
                  have g76 : a.eval (.tmp 76) = .bool true := hd { on := 11, ground := .guard } (by simp) rfl
                  refine .inl ⟨(by simp only [Region.wanted]; rw [yielded_of (d := 76) (by rfl) g76]; rfl), ?_⟩
                  clear g76
                  go_simp
                  exact ⟨Below.refl _ _, rfl⟩
                · have t76 : a.tmps.getD 76 undef = .bool true := hd { on := 11, ground := .data } (by simp) rfl
                  rw [Array.getD_eq_getD_getElem?] at t76
                  have t78 : a.tmps.getD 78 undef = .bool true := hd { on := 13, ground := .data } (by simp) rfl
                  rw [Array.getD_eq_getD_getElem?] at t78
                  have g73 : a.eval (.tmp 73) = .bool false := hd { on := 8, ground := .guard } (by simp) rfl
                  refine .inl ⟨(by simp only [Region.wanted]; rw [yielded_of (d := 73) (by rfl) g73]; rfl), ?_⟩
                  clear g73
                  go_simp
                  exact ⟨Below.refl _ _, rfl⟩
                · have t79 : a.tmps.getD 79 undef = .bool true := hd { on := 14, ground := .data } (by simp) rfl
                  rw [Array.getD_eq_getD_getElem?] at t79
                  have g73 : a.eval (.tmp 73) = .bool false := hd { on := 8, ground := .guard } (by simp) rfl
                  refine .inl ⟨(by simp only [Region.wanted]; rw [yielded_of (d := 73) (by rfl) g73]; rfl), ?_⟩
                  clear g73
                  go_simp
                  exact ⟨Below.refl _ _, rfl⟩
                · have t18 : a.tmps.getD 18 undef = .int .i64 2 := hF.at 18 (by kernel_rfl)
                  rw [Array.getD_eq_getD_getElem?] at t18
                  have g80 : a.eval (.tmp 80) = .bool true := hd { on := 15, ground := .guard } (by simp) rfl
                  refine .inl ⟨(by simp only [Region.wanted]; rw [yielded_of (d := 80) (by rfl) g80]; rfl), ?_⟩
                  clear g80
                  go_simp
                  exact ⟨Below.refl _ _, rfl⟩
                · have t81 : a.tmps.getD 81 undef = .int .i64 2 := hd { on := 16, ground := .data } (by simp) rfl
                  rw [Array.getD_eq_getD_getElem?] at t81
                  have g80 : a.eval (.tmp 80) = .bool true := hd { on := 15, ground := .guard } (by simp) rfl
                  refine .inl ⟨(by simp only [Region.wanted]; rw [yielded_of (d := 80) (by rfl) g80]; rfl), ?_⟩
                  clear g80
                  go_simp
                  exact ⟨Below.refl _ _, rfl⟩
                · have t80 : a.tmps.getD 80 undef = .bool true := hd { on := 15, ground := .data } (by simp) rfl
                  rw [Array.getD_eq_getD_getElem?] at t80
                  have t82 : a.tmps.getD 82 undef = .bool false := hd { on := 17, ground := .data } (by simp) rfl
                  rw [Array.getD_eq_getD_getElem?] at t82
                  have g73 : a.eval (.tmp 73) = .bool false := hd { on := 8, ground := .guard } (by simp) rfl
                  refine .inl ⟨(by simp only [Region.wanted]; rw [yielded_of (d := 73) (by rfl) g73]; rfl), ?_⟩
                  clear g73
                  go_simp
                  exact ⟨Below.refl _ _, rfl⟩
                · have t73 : a.tmps.getD 73 undef = .bool false := hd { on := 8, ground := .data } (by simp) rfl
                  rw [Array.getD_eq_getD_getElem?] at t73
                  have t83 : a.tmps.getD 83 undef = .bool false := hd { on := 18, ground := .data } (by simp) rfl
                  rw [Array.getD_eq_getD_getElem?] at t83
                  refine .inl ⟨rfl, ?_⟩
                  go_simp
                  exact ⟨Below.refl _ _, rfl⟩
                · have t84 : a.tmps.getD 84 undef = .bool false := hd { on := 19, ground := .data } (by simp) rfl
                  rw [Array.getD_eq_getD_getElem?] at t84
                  refine .inl ⟨rfl, ?_⟩
                  go_simp
                  exact ⟨Below.refl _ _, rfl⟩
                · have t16 : a.tmps.getD 16 undef = .int .i64 k := hF.at 16 (by kernel_rfl)
                  rw [Array.getD_eq_getD_getElem?] at t16
                  have g85 : a.eval (.tmp 85) = .bool false := hd { on := 20, ground := .guard } (by simp) rfl
                  refine .inl ⟨(by simp only [Region.wanted]; rw [yielded_of (d := 85) (by rfl) g85]; rfl), ?_⟩
                  clear g85
                  go_simp
                  exact ⟨Below.refl _ _, rfl⟩
                · have t13 : a.tmps.getD 13 undef = .int .i64 n3 := hF.at 13 (by kernel_rfl)
                  rw [Array.getD_eq_getD_getElem?] at t13
                  have g85 : a.eval (.tmp 85) = .bool false := hd { on := 20, ground := .guard } (by simp) rfl
                  refine .inl ⟨(by simp only [Region.wanted]; rw [yielded_of (d := 85) (by rfl) g85]; rfl), ?_⟩
                  clear g85
                  go_simp
                  exact ⟨Below.refl _ _, rfl⟩
                · have t86 : a.tmps.getD 86 undef = .int .i64 k := hd { on := 21, ground := .data } (by simp) rfl
                  rw [Array.getD_eq_getD_getElem?] at t86
                  have t87 : a.tmps.getD 87 undef = .int .i64 n3 := hd { on := 22, ground := .data } (by simp) rfl
                  rw [Array.getD_eq_getD_getElem?] at t87
                  have g85 : a.eval (.tmp 85) = .bool false := hd { on := 20, ground := .guard } (by simp) rfl
                  refine .inl ⟨(by simp only [Region.wanted]; rw [yielded_of (d := 85) (by rfl) g85]; rfl), ?_⟩
                  clear g85
                  have q1 : ¬ n3 ≤ (k : Int) := HK.out
                  go_simp
                  exact ⟨Below.refl _ _, rfl⟩
                · have t88 : a.tmps.getD 88 undef = .bool false := hd { on := 23, ground := .data } (by simp) rfl
                  rw [Array.getD_eq_getD_getElem?] at t88
                  have g85 : a.eval (.tmp 85) = .bool false := hd { on := 20, ground := .guard } (by simp) rfl
                  refine .inl ⟨(by simp only [Region.wanted]; rw [yielded_of (d := 85) (by rfl) g85]; rfl), ?_⟩
                  clear g85
                  go_simp
                  exact ⟨Below.refl _ _, rfl⟩
                · have g89 : a.eval (.tmp 89) = .bool false := hd { on := 24, ground := .guard } (by simp) rfl
                  exact .inr ⟨(by simp only [Region.wanted]; rw [yielded_of (d := 89) (by rfl) g89]; rfl), rfl⟩
                · have g89 : a.eval (.tmp 89) = .bool false := hd { on := 24, ground := .guard } (by simp) rfl
                  exact .inr ⟨(by simp only [Region.wanted]; rw [yielded_of (d := 89) (by rfl) g89]; rfl), rfl⟩
                · have t89 : a.tmps.getD 89 undef = .bool false := hd { on := 24, ground := .data } (by simp) rfl
                  rw [Array.getD_eq_getD_getElem?] at t89
                  have g85 : a.eval (.tmp 85) = .bool false := hd { on := 20, ground := .guard } (by simp) rfl
                  refine .inl ⟨(by simp only [Region.wanted]; rw [yielded_of (d := 85) (by rfl) g85]; rfl), ?_⟩
                  clear g85
                  go_simp
                  exact ⟨Below.refl _ _, rfl⟩
                · have t85 : a.tmps.getD 85 undef = .bool false := hd { on := 20, ground := .data } (by simp) rfl
                  rw [Array.getD_eq_getD_getElem?] at t85
                  have t92 : a.tmps.getD 92 undef = .bool false := hd { on := 27, ground := .data } (by simp) rfl
                  rw [Array.getD_eq_getD_getElem?] at t92
                  refine .inl ⟨rfl, ?_⟩
                  go_simp
                  exact ⟨Below.refl _ _, rfl⟩
              · intro vs W hE hV
                have h28 : vs 28 = .bool false := hV 28 (by decide)
                have HWW : Hid (Below W5.heap.size W5 W) := hE
                have HBf : Hid (Below w.heap.size w W) := HB0.out.trans (hE.mono HB0.out.size)
                clear hV hE
                simp only [putsV, dstsV, List.foldl, h28, Act.put, List.setIfInBounds_toArray, List.set_cons_succ, List.set_cons_zero]
                clear h28
                generalize vs 0 = y0
                generalize vs 1 = y1
                generalize vs 2 = y2
                generalize vs 3 = y3
                generalize vs 4 = y4
                generalize vs 5 = y5
                generalize vs 6 = y6
                generalize vs 7 = y7
                generalize vs 8 = y8
                generalize vs 9 = y9
                generalize vs 10 = y10
                generalize vs 11 = y11
                generalize vs 12 = y12
                generalize vs 13 = y13
                generalize vs 14 = y14
                generalize vs 15 = y15
                generalize vs 16 = y16
                generalize vs 17 = y17
                generalize vs 18 = y18
                generalize vs 19 = y19
                generalize vs 20 = y20
                generalize vs 21 = y21
                generalize vs 22 = y22
                generalize vs 23 = y23
                generalize vs 24 = y24
                generalize vs 25 = y25
                generalize vs 26 = y26
                generalize vs 27 = y27
                refine ‹∀ (a : Act) (w : World), Code.wp Tryd.prog (Code.cond _ _ _) _ a w → _› _ _ ?_
                have HPf : Hid (HasBox W b6 25 (pcells p)) := HP W HWW.out
                have HQf : Hid (HasBox W b17 25 (pcells q)) := HQ W HWW.out
                have HCf : Hid (CellsAt W w.heap.size cs) := HCc.out W HWW.out
                clear HP HQ HCc HWW HWp HWq
                have hN100 : NN ≤ 100 := by have := HNN.out.2; omega
                go_wp2_with (first | (refine wpList_load_bx rfl 25 (.tmp 17) rfl b17 rfl 25 _ _ HQf.out Tryd.underlying25 rfl infoProbing ?_) | (refine wpList_store_row rfl 25 (.tmp 6) (.tmp 98) rfl b6 (pcells q) rfl rfl 25 _ HPf.out infoProbing rfl (pcells_one _) ?_) | fail)
                have HX6 : Hid (HasBox (W.setRow b6 (pcells q)) b6 25 (pcells q)) := HasBox.row HPf.out
                have HC6 : Hid (CellsAt (W.setRow b6 (pcells q)) w.heap.size cs) := HasBox.rowOther HCf.out (by have := HLe.out; omega)
                have HB6 : Hid (Below w.heap.size w (W.setRow b6 (pcells q))) := below_setRow HBf.out (by have := HLe.out; omega) _
                go_roundw
                case rel => exact ⟨k + 1, q, 1, by omega, by go_num, rfl, HR.out, HQi.out, HX6.out, HC6.out, HB6.out⟩
                case measure => simp [intOf]; omega
        · have hend := rising_end HRi.out (by have := HNN.out; omega) HNb.out.1
          obtain ⟨e1, e2, e3, e4⟩ := hend
          have HWp : Hid (∀ W : World, Calls Tryd.prog 10 #[.agg (pcells p)] W fun e w' => e = .returned (.bool (wellP p)) ∧ Below W.heap.size W w') := pwell_any p
          rw [HY0.out] at e3
          generalize wellP p = y at e3 e4 HWp
          have d0 : wr.cell? ⟨b6, 0, none⟩ = some (.bool p.up) := HX.out.cell 0
          have d1 : wr.cell? ⟨b6, 1, none⟩ = some (.int .i64 p.run) := HX.out.cell 1
          rw [e1] at d0
          rw [e2] at d1
          have HE3 : Hid (moves = if y = y0 then 0 else 1) := e3
          have HE4 : Hid (p.forced = 0 → y = true) := e4
          clear e1 e2 e3 e4 hpi HRi
          by_cases hy : y = y0
          · have hmv : moves = 0 := HE3.out.trans (if_pos hy)
            subst hy hmv
            clear HE3
            go_wp2_with (first | (refine wpList_load_bx rfl 25 (.tmp 6) rfl b6 rfl 25 _ _ HX.out Tryd.underlying25 rfl infoProbing ?_) | fail)
            refine (HWp.out _).mono ?_
            rintro e w8 ⟨rfl, hb⟩
            have HX8 : Hid (HasBox w8 b6 25 (pcells p)) := HX.out.below hb
            have HB8 : Hid (Below w.heap.size w w8) := HB.out.trans (hb.mono HB.out.size)
            have d2 : w8.cell? ⟨b6, 2, none⟩ = some (.int .i64 p.forced) := HX8.out.cell 2
            clear hb HX HC HB d0 d1
            by_cases hf : p.forced = 0
            · have hyo := HE4.out hf
              rw [hf] at d2
              clear HE4 hf
              go_wp2_with (first | (refine wpList_load_bx rfl 25 (.tmp 6) rfl b6 rfl 25 _ _ HX8.out Tryd.underlying25 rfl infoProbing ?_) | fail)
              refine (HWp.out _).mono ?_
              rintro e w9 ⟨rfl, hb⟩
              have HB9 : Hid (Below w.heap.size w w9) := HB8.out.trans (hb.mono HB8.out.size)
              clear hb
              go_wp2_with fail
              refine (awake10_any _ (HT.out.below HB9.out)).mono ?_
              rintro e w10 ⟨rfl, hb⟩
              have HBa : Hid (Below w.heap.size w w10) := HB9.out.trans (hb.mono HB9.out.size)
              clear hb
              go_wp2
              go_ret
              exact ⟨rfl, HBa.out⟩
            · have hf2 : (p.forced == 0) = false := beq_eq_false_iff_ne.2 hf
              generalize p.forced = fo at *
              clear HE4
              go_wp2_with fail
              refine (awake10_any _ (HT.out.below HB8.out)).mono ?_
              rintro e w10 ⟨rfl, hb⟩
              have HBa : Hid (Below w.heap.size w w10) := HB8.out.trans (hb.mono HB8.out.size)
              clear hb
              go_wp2
              go_ret
              exact ⟨rfl, HBa.out⟩
          · have hmv : moves = 1 := HE3.out.trans (if_neg hy)
            have hy' : y = !y0 := by cases y <;> cases y0 <;> simp_all
            subst hmv hy'
            clear HE3 hy
            go_wp2_with (first | (refine wpList_load_bx rfl 25 (.tmp 6) rfl b6 rfl 25 _ _ HX.out Tryd.underlying25 rfl infoProbing ?_) | fail)
            refine (HWp.out _).mono ?_
            rintro e w8 ⟨rfl, hb⟩
            have HX8 : Hid (HasBox w8 b6 25 (pcells p)) := HX.out.below hb
            have HB8 : Hid (Below w.heap.size w w8) := HB.out.trans (hb.mono HB.out.size)
            have d2 : w8.cell? ⟨b6, 2, none⟩ = some (.int .i64 p.forced) := HX8.out.cell 2
            clear hb HX HC HB d0 d1
            by_cases hf : p.forced = 0
            · have hyo := HE4.out hf
              rw [hf] at d2
              clear HE4 hf
              go_wp2_with (first | (refine wpList_load_bx rfl 25 (.tmp 6) rfl b6 rfl 25 _ _ HX8.out Tryd.underlying25 rfl infoProbing ?_) | fail)
              refine (HWp.out _).mono ?_
              rintro e w9 ⟨rfl, hb⟩
              have HB9 : Hid (Below w.heap.size w w9) := HB8.out.trans (hb.mono HB8.out.size)
              clear hb
              go_wp2_with fail
              refine (awake10_any _ (HT.out.below HB9.out)).mono ?_
              rintro e w10 ⟨rfl, hb⟩
              have HBa : Hid (Below w.heap.size w w10) := HB9.out.trans (hb.mono HB9.out.size)
              clear hb
              go_wp2
              go_ret
              exact ⟨rfl, HBa.out⟩
            · have hf2 : (p.forced == 0) = false := beq_eq_false_iff_ne.2 hf
              generalize p.forced = fo at *
              clear HE4
              go_wp2_with fail
              refine (awake10_any _ (HT.out.below HB8.out)).mono ?_
              rintro e w10 ⟨rfl, hb⟩
              have HBa : Hid (Below w.heap.size w w10) := HB8.out.trans (hb.mono HB8.out.size)
              clear hb
              go_wp2
              go_ret
              exact ⟨rfl, HBa.out⟩

set_option maxRecDepth 100000 in
set_option maxHeartbeats 16000000 in
theorem walk_Rises_false (c : Cfg) (hz : c.zone.size ≤ 9223372036854775807) (hm : mayC c = true) (p0 : ProbeT) (hp0 : inP p0) (l : List Bool) (ao : Option Addr) (cap : Nat) (hlen : l.length ≤ 100) (more : Int) (w : World) (htab : Tabs w) (hl : IsBools w (.slice ao l.length cap) l) :
    Calls Tryd.prog 3 #[.agg c.arr, pval p0, .slice ao l.length cap, .bool false, .int .i64 more] w fun e w' => e = .returned (.bool true) ∧ Below w.heap.size w w' := by
  have HT : Hid (Tabs w) := htab
  have HL : Hid (IsBools w (.slice ao l.length cap) l) := hl
  clear htab hl
  have HMay : Hid (∀ W : World, Calls Tryd.prog 7 #[.agg c.arr] W fun e w' => e = .returned (.bool (mayC c)) ∧ Below W.heap.size W w') := fun W => rMay_any c W hz
  have HI : Hid ((Tryd.prog.info? 23).map (·.size) = some c.arr.size) := arr_inf c
  have hl1 : ¬ (100 : Int) < (l.length : Int) := by omega
  rw [hm] at HMay
  have HEnd : Hid (∀ (p q : ProbeT) (x : Bool) (m : Int), inP p → endP c.f3 c.f4 p x = (q, m) → ∀ W : World, Tabs W → Calls Tryd.prog 9 #[.agg c.arr, .agg (pcells p), .bool x] W fun e w' => e = .returned (.tuple #[.agg (pcells q), .int .i64 m]) ∧ Below W.heap.size W w') := fun p q x m hp he W h => pend_lit3 hm hz hp he W h
  have HNb : Hid (1 ≤ c.f4 ∧ c.f4 ≤ 10) := may_num4 hm
  have HNe : Hid (c.f4 = if false then c.f3 else c.f4) := rfl
  have c3 : c.arr[3]? = some (.int .i64 c.f3) := rfl
  have c4 : c.arr[4]? = some (.int .i64 c.f4) := rfl
  have HC3 : Hid _ := c3
  have HC4 : Hid _ := c4
  clear hm hlen c3 c4
  generalize c.f3 = n3 at HEnd HC3 HNb HNe
  generalize c.f4 = n4 at HEnd HC4 HNb HNe
  generalize c.arr = cs at HMay HI HEnd HC3 HC4 ⊢
  obtain ⟨F, hF, hF20⟩ := u_mod20 more
  obtain ⟨NN, hNN⟩ : ∃ NN : Nat, n4 + (F : Int) = NN := ⟨(n4 + (F : Int)).toNat, by have := HNb.out; omega⟩
  have HF2 : Hid (IntKind.i64.wrap (F : Int) = F) := wrap_in (by omega) (by omega)
  have HF3 : Hid (IntKind.i64.wrap (n4 + (F : Int)) = NN) := (wrap_in (by have := HNb.out; omega) (by have := HNb.out; omega)).trans hNN
  have HF4 : Hid (wrap64 (n4 + (F : Int)) = NN) := by show _ = _; rw [← hNN]; unfold wrap64; have := HNb.out; omega
  have HNN : Hid (n4 ≤ (NN : Int) ∧ NN ≤ 100) := by show _ ∧ _; have := HNb.out; omega
  have HF1 : Hid ((IntKind.u64.wrap more).tmod 20 = (F : Int)) := hF
  clear hF hF20 hNN
  unfold pval
  go_enter Tryd.func3, Tryd.ntmps3
  go_upto_region 1 with fail
  generalize hW0 : (w.alloc _).alloc _ = W0
  have HC : Hid (CellsAt W0 w.heap.size cs) := by show CellsAt _ _ _; rw [← hW0]; exact heap_alloc2_old w _ _
  have HX : Hid (HasBox W0 (w.heap.size + 1) 25 (pcells p0)) := by show HasBox _ _ _ _; rw [← hW0]; exact hasBox_new' _ _ _ _ (by simp)
  have HB : Hid (Below w.heap.size w W0) := by show Below _ _ _; rw [← hW0]; exact ((Below.refl _ _).alloc (Nat.le_refl _) _).alloc (by simp) _
  clear hW0
  obtain ⟨b6, hb6⟩ : ∃ b6, w.heap.size + 1 = b6 := ⟨_, rfl⟩
  rw [hb6] at HX ⊢
  have HLe : Hid (w.heap.size < b6) := by show _ < _; omega
  clear hb6
  go_wp2_with (first | (refine wpList_load_bx rfl 23 (.tmp 5) rfl w.heap.size rfl 23 _ _ HC.out Tryd.underlying23 rfl HI.out ?_) | fail)
  refine (HMay.out _).mono ?_
  rintro e w1 ⟨rfl, hb⟩
  have HC1 : Hid (CellsAt w1 w.heap.size cs) := HC.out.below hb
  have HX1 : Hid (HasBox w1 b6 25 (pcells p0)) := HX.out.below hb
  have HB1 : Hid (Below w.heap.size w w1) := HB.out.trans (hb.mono HB.out.size)
  clear hb HC HX HB HMay
  go_wp2
  go_loopw [30] (fun i wr => ∃ (k : Nat) (p : ProbeT), k ≤ l.length ∧ i = .int .i64 k ∧ inP p ∧ HasBox wr b6 25 (pcells p) ∧ CellsAt wr w.heap.size cs ∧ Below w.heap.size w wr) (fun i _ => l.length - (intOf i).toNat)
  case atStart => exact ⟨0, p0, Nat.zero_le _, rfl, hp0, HX1.out, HC1.out, HB1.out⟩
  case round =>
    obtain ⟨k, p, hk, rfl, hpi, hx, hc, hb⟩ := hrel
    have HX : Hid (HasBox wr b6 25 (pcells p)) := hx
    have HC : Hid (CellsAt wr w.heap.size cs) := hc
    have HB : Hid (Below w.heap.size w wr) := hb
    clear hx hc hb HX1 HC1 HB1 hp0
    by_cases hlt : k < l.length
    · obtain ⟨bl, ol, rfl, hbl, gx⟩ := (HL.out.below HB.out).at k hlt
      obtain ⟨x, hxk⟩ : ∃ x, l.getD k false = x := ⟨_, rfl⟩
      rw [hxk] at gx
      obtain ⟨q, m, he⟩ : ∃ q m, endP n3 n4 p x = (q, m) := ⟨_, _, rfl⟩
      have HQi : Hid (inP q) := by show inP q; have := endP_in (rise := n3) (fall := n4) (ok := x) hpi; rw [he] at this; exact this
      have HE : Hid _ := HEnd.out p q x m hpi he
      clear he hxk hpi
      go_wp2_with (first | (refine wpList_load_bx rfl 23 (.tmp 5) rfl w.heap.size rfl 23 _ _ HC.out Tryd.underlying23 rfl HI.out ?_) | (refine wpList_load_bx rfl 25 (.tmp 6) rfl b6 rfl 25 _ _ HX.out Tryd.underlying25 rfl infoProbing ?_) | fail)
      refine (HE.out _ (HT.out.below HB.out)).mono ?_
      rintro e w4 ⟨rfl, hb⟩
      have HX4 : Hid (HasBox w4 b6 25 (pcells p)) := HX.out.below hb
      have HC4' : Hid (CellsAt w4 w.heap.size cs) := HC.out.below hb
      have HB4 : Hid (Below w.heap.size w w4) := HB.out.trans (hb.mono HB.out.size)
      clear hb HX HC HB HE gx hbl
      go_wp2_with (first | (refine wpList_store_row rfl 25 (.tmp 6) (.tmp 39) rfl b6 (pcells q) rfl rfl 25 _ HX4.out infoProbing rfl (pcells_one _) ?_) | fail)
      have HX5 : Hid (HasBox (w4.setRow b6 (pcells q)) b6 25 (pcells q)) := HasBox.row HX4.out
      have HC5 : Hid (CellsAt (w4.setRow b6 (pcells q)) w.heap.size cs) := HasBox.rowOther HC4'.out (by have := HLe.out; omega)
      have HB5 : Hid (Below w.heap.size w (w4.setRow b6 (pcells q))) := below_setRow HB4.out (by have := HLe.out; omega) _
      go_roundw
      case rel => exact ⟨k + 1, q, by omega, by go_num, HQi.out, HX5.out, HC5.out, HB5.out⟩
      case measure => simp [intOf]; omega
    · have g3 : wr.cell? ⟨w.heap.size, 3, none⟩ = some (.int .i64 n3) := HC.out.cell.trans HC3.out
      have g4 : wr.cell? ⟨w.heap.size, 4, none⟩ = some (.int .i64 n4) := HC.out.cell.trans HC4.out
      have HWp0 : Hid (∀ W : World, Calls Tryd.prog 10 #[.agg (pcells p)] W fun e w' => e = .returned (.bool (wellP p)) ∧ Below W.heap.size W w') := pwell_any p
      have HSt : Hid (Rising n4 false p p 0 0) := rising_start false p HNb.out.1
      have HPi : Hid (inP p) := hpi
      clear hpi
      generalize p = ps at HSt HX HPi HWp0
      obtain ⟨y0, hy0⟩ : ∃ y0, wellP ps = y0 := ⟨_, rfl⟩
      rw [hy0] at HWp0
      have HY0 : Hid (wellP ps = y0) := hy0
      clear hy0
      go_wp2_with (first | (refine wpList_load_bx rfl 25 (.tmp 6) rfl b6 rfl 25 _ _ HX.out Tryd.underlying25 rfl infoProbing ?_) | fail)
      refine (HWp0.out _).mono ?_
      rintro e w7 ⟨rfl, hb⟩
      have HX7 : Hid (HasBox w7 b6 25 (pcells ps)) := HX.out.below hb
      have HC7 : Hid (CellsAt w7 w.heap.size cs) := HC.out.below hb
      have HB7 : Hid (Below w.heap.size w w7) := HB.out.trans (hb.mono HB.out.size)
      have hf1 := HF1.out
      have hf2 := HF2.out
      have hf3 := HF3.out
      have hf4 := HF4.out
      clear hb HX HC HB HWp0 g3 g4 HF1 HF2 HF3 HF4
      go_wp2
      clear hf1 hf2 hf3 hf4
      go_loopw [15, 55] (fun mv i wr => ∃ (k : Nat) (p : ProbeT) (moves : Int), k ≤ NN ∧ i = .int .i64 k ∧ mv = .int .i64 moves ∧ Rising n4 false ps p k moves ∧ inP p ∧ HasBox wr b6 25 (pcells p) ∧ CellsAt wr w.heap.size cs ∧ Below w.heap.size w wr) (fun _ i _ => NN - (intOf i).toNat)
      case atStart => exact ⟨0, ps, 0, Nat.zero_le _, rfl, rfl, HSt.out, HPi.out, HX7.out, HC7.out, HB7.out⟩
      case round =>
        obtain ⟨k, p, moves, hk, rfl, rfl, hri, hpi, hx, hc, hb⟩ := hrel
        have HX : Hid (HasBox wr b6 25 (pcells p)) := hx
        have HC : Hid (CellsAt wr w.heap.size cs) := hc
        have HB : Hid (Below w.heap.size w wr) := hb
        have HRi : Hid (Rising n4 false ps p k moves) := hri
        clear hx hc hb HX7 HC7 HB7 hri HSt HPi
        by_cases hlt : k < NN
        · obtain ⟨q, m, he⟩ : ∃ q m, endP n3 n4 p false = (q, m) := ⟨_, _, rfl⟩
          have HQi : Hid (inP q) := by show inP q; have := endP_in (rise := n3) (fall := n4) (ok := false) hpi; rw [he] at this; exact this
          have HE : Hid _ := HEnd.out p q false m hpi he
          have htold := rising_told HNe.out HNb.out.2 he HRi.out
          have HTold : Hid _ := htold
          have HWp' : Hid (∀ W : World, Calls Tryd.prog 10 #[.agg (pcells p)] W fun e w' => e = .returned (.bool (wellP p)) ∧ Below W.heap.size W w') := pwell_any p
          have HWq' : Hid (∀ W : World, Calls Tryd.prog 10 #[.agg (pcells q)] W fun e w' => e = .returned (.bool (wellP q)) ∧ Below W.heap.size W w') := pwell_any q
          clear he htold hpi HRi
          generalize wellP p = y at HTold HWp'
          go_wp2_with (first | (refine wpList_load_bx rfl 23 (.tmp 5) rfl w.heap.size rfl 23 _ _ HC.out Tryd.underlying23 rfl HI.out ?_) | (refine wpList_load_bx rfl 25 (.tmp 6) rfl b6 rfl 25 _ _ HX.out Tryd.underlying25 rfl infoProbing ?_) | fail)
          refine (HE.out _ (HT.out.below HB.out)).mono ?_
          rintro e w4 ⟨rfl, hb⟩
          have HX4 : Hid (HasBox w4 b6 25 (pcells p)) := HX.out.below hb
          have HC4' : Hid (CellsAt w4 w.heap.size cs) := HC.out.below hb
          have HB4 : Hid (Below w.heap.size w w4) := HB.out.trans (hb.mono HB.out.size)
          clear hb HX HC HB HE
          go_upto_region 17 with (first | (refine wpList_store_row rfl 25 (.tmp 17) (.tmp 63) rfl w4.heap.size (pcells q) rfl rfl 25 _ (heap_alloc_new w4 _) infoProbing rfl (pcells_one _) ?_; generalize hW5 : World.setRow _ _ _ = W5) | fail)
          have HX5 : Hid (HasBox W5 b6 25 (pcells p)) := by show HasBox _ _ _ _; rw [← hW5]; exact (HX4.out.alloc _).rowOther (by have := HX4.out.lt; omega)
          have HC5 : Hid (CellsAt W5 w.heap.size cs) := by show CellsAt _ _ _; rw [← hW5]; exact HasBox.rowOther (HasBox.alloc HC4'.out _) (by have := HC4'.out.lt; omega)
          have HZ5 : Hid (HasBox W5 w4.heap.size 25 (pcells q)) := by show HasBox _ _ _ _; rw [← hW5]; exact (hasBox_new w4 _ _).row
          have HB0 : Hid (Below w.heap.size w W5) := by show Below _ _ _; rw [← hW5]; exact below_setRow (HB4.out.alloc HB4.out.size _) HB4.out.size _
          clear hW5 HX4 HC4' HB4
          generalize w4.heap.size = b17 at HZ5 ⊢
          have HP : ∀ W, Below W5.heap.size W5 W → HasBox W b6 25 (pcells p) := fun W h => HX5.out.below h
          have HQ : ∀ W, Below W5.heap.size W5 W → HasBox W b17 25 (pcells q) := fun W h => HZ5.out.below h
          have HCc : Hid (∀ W, Below W5.heap.size W5 W → CellsAt W w.heap.size cs) := fun W h => HC5.out.below h
          have HWp := HWp'.out
          have HWq := HWq'.out
          clear HX5 HC5 HZ5 HWp' HWq'
          rcases HTold.out with ⟨rfl, hw, hr⟩ | ⟨hm12, hw, hkn, rfl, hr⟩
          · rw [hw] at HWq
            have HR : Hid (Rising n4 false ps q (k + 1) moves) := hr
            clear hw hr HTold
            by_cases hkn : n4 ≤ (k : Int)
            · have HK : Hid (n4 ≤ (k : Int)) := hkn
              clear hkn
              refine wp_region_mp ([eqP (.int .i64 0), eqP (.bool false), eqP (.agg (pcells q)), eqP (.bool y), eqP (.agg (pcells p)), eqP (.bool y), eqP (.bool false), eqP (.bool false), eqP (.bool false), eqP (.int .i64 0), eqP (.bool false), eqP (.bool false), eqP (undef), eqP (undef), eqP (.bool false), eqP (.bool false), eqP (undef), eqP (undef), eqP (.bool false), eqP (.bool false), eqP (.bool false), eqP (.int .i64 k), eqP (.int .i64 n4), eqP (.bool true), eqP (.bool true), eqP (.int .i64 0), eqP (.bool false), eqP (.bool false), eqP (.bool false)]) (by kernel_rfl) (by kernel_rfl) ?_ ?_
              · simp only [stepsAll3]
                refine ⟨fun a W hF hE hd => ?_, fun a W hF hE hd => ?_, fun a W hF hE hd => ?_, fun a W hF hE hd => ?_, fun a W hF hE hd => ?_, fun a W hF hE hd => ?_, fun a W hF hE hd => ?_, fun a W hF hE hd => ?_, fun a W hF hE hd => ?_, fun a W hF hE hd => ?_, fun a W hF hE hd => ?_, fun a W hF hE hd => ?_, fun a W hF hE hd => ?_, fun a W hF hE hd => ?_, fun a W hF hE hd => ?_, fun a W hF hE hd => ?_, fun a W hF hE hd => ?_, fun a W hF hE hd => ?_, fun a W hF hE hd => ?_, fun a W hF hE hd => ?_, fun a W hF hE hd => ?_, fun a W hF hE hd => ?_, fun a W hF hE hd => ?_, fun a W hF hE hd => ?_, fun a W hF hE hd => ?_, fun a W hF hE hd => ?_, fun a W hF hE hd => ?_, fun a W hF hE hd => ?_, fun a W hF hE hd => ?_, trivial⟩
                all_goals unfold StepAt
                · have t18 : a.tmps.getD 18 undef = .int .i64 0 := hF.at 18 (by kernel_rfl)
                  rw [Array.getD_eq_getD_getElem?] at t18
                  refine .inl ⟨rfl, ?_⟩
                  go_simp
                  exact ⟨Below.refl _ _, rfl⟩
                · have t65 : a.tmps.getD 65 undef = .int .i64 0 := hd { on := 0, ground := .data } (by simp) rfl
                  rw [Array.getD_eq_getD_getElem?] at t65
                  refine .inl ⟨rfl, ?_⟩
                  go_simp
                  exact ⟨Below.refl _ _, rfl⟩
                · have t17 : a.tmps.getD 17 undef = .pointer (some ⟨b17, 0, none⟩) := hF.at 17 (by kernel_rfl)
                  rw [Array.getD_eq_getD_getElem?] at t17
                  refine .inl ⟨rfl, ?_⟩
                  rw [run_oload _ _ 25 (.tmp 17) rfl (b17) (by simpa [Act.eval] using t17) 25 (pcells q) (0, 0) _ (HQ W hE) Tryd.underlying25 rfl infoProbing]
                  exact ⟨Below.refl _ _, rfl⟩
                · have t67 : a.tmps.getD 67 undef = .agg (pcells q) := hd { on := 2, ground := .data } (by simp) rfl
                  rw [Array.getD_eq_getD_getElem?] at t67
                  refine .inl ⟨rfl, ?_⟩
                  go_simp
                  exact (HWq W).mono fun e w2 h => ⟨_, h.1, h.2, rfl⟩
                · have t6 : a.tmps.getD 6 undef = .pointer (some ⟨b6, 0, none⟩) := hF.at 6 (by kernel_rfl)
                  rw [Array.getD_eq_getD_getElem?] at t6
                  refine .inl ⟨rfl, ?_⟩
                  rw [run_oload _ _ 25 (.tmp 6) rfl (b6) (by simpa [Act.eval] using t6) 25 (pcells p) (0, 0) _ (HP W hE) Tryd.underlying25 rfl infoProbing]
                  exact ⟨Below.refl _ _, rfl⟩
                · have t69 : a.tmps.getD 69 undef = .agg (pcells p) := hd { on := 4, ground := .data } (by simp) rfl
                  rw [Array.getD_eq_getD_getElem?] at t69
                  refine .inl ⟨rfl, ?_⟩
                  go_simp
                  exact (HWp W).mono fun e w2 h => ⟨_, h.1, h.2, rfl⟩
                · have t68 : a.tmps.getD 68 undef = .bool y := hd { on := 3, ground := .data } (by simp) rfl
                  rw [Array.getD_eq_getD_getElem?] at t68
                  have t70 : a.tmps.getD 70 undef = .bool y := hd { on := 5, ground := .data } (by simp) rfl
                  rw [Array.getD_eq_getD_getElem?] at t70
                  refine .inl ⟨rfl, ?_⟩
                  go_simp
                  exact ⟨Below.refl _ _, rfl⟩
                · have t66 : a.tmps.getD 66 undef = .bool false := hd { on := 1, ground := .data } (by simp) rfl
                  rw [Array.getD_eq_getD_getElem?] at t66
                  have t71 : a.tmps.getD 71 undef = .bool false := hd { on := 6, ground := .data } (by simp) rfl
                  rw [Array.getD_eq_getD_getElem?] at t71
                  refine .inl ⟨rfl, ?_⟩
                  go_simp
                  exact ⟨Below.refl _ _, rfl⟩
                · have t72 : a.tmps.getD 72 undef = .bool false := hd { on := 7, ground := .data } (by simp) rfl
                  rw [Array.getD_eq_getD_getElem?] at t72
                  refine .inl ⟨rfl, ?_⟩
                  go_simp
                  exact ⟨Below.refl _ _, rfl⟩
                · have t18 : a.tmps.getD 18 undef = .int .i64 0 := hF.at 18 (by kernel_rfl)
                  rw [Array.getD_eq_getD_getElem?] at t18
                  have g73 : a.eval (.tmp 73) = .bool false := hd { on := 8, ground := .guard } (by simp) rfl
                  refine .inl ⟨(by simp only [Region.wanted]; rw [yielded_of (d := 73) (by rfl) g73]; rfl), ?_⟩
                  clear g73
                  go_simp
                  exact ⟨Below.refl _ _, rfl⟩
                · have t74 : a.tmps.getD 74 undef = .int .i64 0 := hd { on := 9, ground := .data } (by simp) rfl
                  rw [Array.getD_eq_getD_getElem?] at t74
                  have g73 : a.eval (.tmp 73) = .bool false := hd { on := 8, ground := .guard } (by simp) rfl
                  refine .inl ⟨(by simp only [Region.wanted]; rw [yielded_of (d := 73) (by rfl) g73]; rfl), ?_⟩
                  clear g73
                  go_simp
                  exact ⟨Below.refl _ _, rfl⟩
                · have t75 : a.tmps.getD 75 undef = .bool false := hd { on := 10, ground := .data } (by simp) rfl
                  rw [Array.getD_eq_getD_getElem?] at t75
                  have g73 : a.eval (.tmp 73) = .bool false := hd { on := 8, ground := .guard } (by simp) rfl
                  refine .inl ⟨(by simp only [Region.wanted]; rw [yielded_of (d := 73) (by rfl) g73]; rfl), ?_⟩
                  clear g73
                  go_simp
                  exact ⟨Below.refl _ _, rfl⟩
                · have g76 : a.eval (.tmp 76) = .bool false := hd { on := 11, ground := .guard } (by simp) rfl
                  exact .inr ⟨(by simp only [Region.wanted]; rw [yielded_of (d := 76) (by rfl) g76]; rfl), rfl⟩
                · have g76 : a.eval (.tmp 76) = .bool false := hd { on := 11, ground := .guard } (by simp) rfl
                  exact .inr ⟨(by simp only [Region.wanted]; rw [yielded_of (d := 76) (by rfl) g76]; rfl), rfl⟩
                · have t76 : a.tmps.getD 76 undef = .bool false := hd { on := 11, ground := .data } (by simp) rfl
                  rw [Array.getD_eq_getD_getElem?] at t76
                  have g73 : a.eval (.tmp 73) = .bool false := hd { on := 8, ground := .guard } (by simp) rfl
                  refine .inl ⟨(by simp only [Region.wanted]; rw [yielded_of (d := 73) (by rfl) g73]; rfl), ?_⟩
                  clear g73
                  go_simp
                  exact ⟨Below.refl _ _, rfl⟩
                · have t79 : a.tmps.getD 79 undef = .bool false := hd { on := 14, ground := .data } (by simp) rfl
                  rw [Array.getD_eq_getD_getElem?] at t79
                  have g73 : a.eval (.tmp 73) = .bool false := hd { on := 8, ground := .guard } (by simp) rfl
                  refine .inl ⟨(by simp only [Region.wanted]; rw [yielded_of (d := 73) (by rfl) g73]; rfl), ?_⟩
                  clear g73
                  go_simp
                  exact ⟨Below.refl _ _, rfl⟩
                · have g80 : a.eval (.tmp 80) = .bool false := hd { on := 15, ground := .guard } (by simp) rfl
                  exact .inr ⟨(by simp only [Region.wanted]; rw [yielded_of (d := 80) (by rfl) g80]; rfl), rfl⟩
                · have g80 : a.eval (.tmp 80) = .bool false := hd { on := 15, ground := .guard } (by simp) rfl
                  exact .inr ⟨(by simp only [Region.wanted]; rw [yielded_of (d := 80) (by rfl) g80]; rfl), rfl⟩
                · have t80 : a.tmps.getD 80 undef = .bool false := hd { on := 15, ground := .data } (by simp) rfl
                  rw [Array.getD_eq_getD_getElem?] at t80
                  have g73 : a.eval (.tmp 73) = .bool false := hd { on := 8, ground := .guard } (by simp) rfl
                  refine .inl ⟨(by simp only [Region.wanted]; rw [yielded_of (d := 73) (by rfl) g73]; rfl), ?_⟩
                  clear g73
                  go_simp
                  exact ⟨Below.refl _ _, rfl⟩
                · have t73 : a.tmps.getD 73 undef = .bool false := hd { on := 8, ground := .data } (by simp) rfl
                  rw [Array.getD_eq_getD_getElem?] at t73
                  have t83 : a.tmps.getD 83 undef = .bool false := hd { on := 18, ground := .data } (by simp) rfl
                  rw [Array.getD_eq_getD_getElem?] at t83
                  refine .inl ⟨rfl, ?_⟩
                  go_simp
                  exact ⟨Below.refl _ _, rfl⟩
                · have t84 : a.tmps.getD 84 undef = .bool false := hd { on := 19, ground := .data } (by simp) rfl
                  rw [Array.getD_eq_getD_getElem?] at t84
                  refine .inl ⟨rfl, ?_⟩
                  go_simp
                  exact ⟨Below.refl _ _, rfl⟩
                · have t16 : a.tmps.getD 16 undef = .int .i64 k := hF.at 16 (by kernel_rfl)
                  rw [Array.getD_eq_getD_getElem?] at t16
                  have g85 : a.eval (.tmp 85) = .bool false := hd { on := 20, ground := .guard } (by simp) rfl
                  refine .inl ⟨(by simp only [Region.wanted]; rw [yielded_of (d := 85) (by rfl) g85]; rfl), ?_⟩
                  clear g85
                  go_simp
                  exact ⟨Below.refl _ _, rfl⟩
                · have t13 : a.tmps.getD 13 undef = .int .i64 n4 := hF.at 13 (by kernel_rfl)
                  rw [Array.getD_eq_getD_getElem?] at t13
                  have g85 : a.eval (.tmp 85) = .bool false := hd { on := 20, ground := .guard } (by simp) rfl
                  refine .inl ⟨(by simp only [Region.wanted]; rw [yielded_of (d := 85) (by rfl) g85]; rfl), ?_⟩
                  clear g85
                  go_simp
                  exact ⟨Below.refl _ _, rfl⟩
                · have t86 : a.tmps.getD 86 undef = .int .i64 k := hd { on := 21, ground := .data } (by simp) rfl
                  rw [Array.getD_eq_getD_getElem?] at t86
                  have t87 : a.tmps.getD 87 undef = .int .i64 n4 := hd { on := 22, ground := .data } (by simp) rfl
                  rw [Array.getD_eq_getD_getElem?] at t87
                  have g85 : a.eval (.tmp 85) = .bool false := hd { on := 20, ground := .guard } (by simp) rfl
                  refine .inl ⟨(by simp only [Region.wanted]; rw [yielded_of (d := 85) (by rfl) g85]; rfl), ?_⟩
                  clear g85
                  have q1 : n4 ≤ (k : Int) := HK.out
                  go_simp
                  exact ⟨Below.refl _ _, rfl⟩
                · have t88 : a.tmps.getD 88 undef = .bool true := hd { on := 23, ground := .data } (by simp) rfl
                  rw [Array.getD_eq_getD_getElem?] at t88
                  have g85 : a.eval (.tmp 85) = .bool false := hd { on := 20, ground := .guard } (by simp) rfl
                  refine .inl ⟨(by simp only [Region.wanted]; rw [yielded_of (d := 85) (by rfl) g85]; rfl), ?_⟩
                  clear g85
                  go_simp
                  exact ⟨Below.refl _ _, rfl⟩
                · have t18 : a.tmps.getD 18 undef = .int .i64 0 := hF.at 18 (by kernel_rfl)
                  rw [Array.getD_eq_getD_getElem?] at t18
                  have g89 : a.eval (.tmp 89) = .bool true := hd { on := 24, ground := .guard } (by simp) rfl
                  refine .inl ⟨(by simp only [Region.wanted]; rw [yielded_of (d := 89) (by rfl) g89]; rfl), ?_⟩
                  clear g89
                  go_simp
                  exact ⟨Below.refl _ _, rfl⟩
                · have t90 : a.tmps.getD 90 undef = .int .i64 0 := hd { on := 25, ground := .data } (by simp) rfl
                  rw [Array.getD_eq_getD_getElem?] at t90
                  have g89 : a.eval (.tmp 89) = .bool true := hd { on := 24, ground := .guard } (by simp) rfl
                  refine .inl ⟨(by simp only [Region.wanted]; rw [yielded_of (d := 89) (by rfl) g89]; rfl), ?_⟩
                  clear g89
                  go_simp
                  exact ⟨Below.refl _ _, rfl⟩
                · have t89 : a.tmps.getD 89 undef = .bool true := hd { on := 24, ground := .data } (by simp) rfl
                  rw [Array.getD_eq_getD_getElem?] at t89
                  have t91 : a.tmps.getD 91 undef = .bool false := hd { on := 26, ground := .data } (by simp) rfl
                  rw [Array.getD_eq_getD_getElem?] at t91
                  have g85 : a.eval (.tmp 85) = .bool false := hd { on := 20, ground := .guard } (by simp) rfl
                  refine .inl ⟨(by simp only [Region.wanted]; rw [yielded_of (d := 85) (by rfl) g85]; rfl), ?_⟩
                  clear g85
                  go_simp
                  exact ⟨Below.refl _ _, rfl⟩
                · have t85 : a.tmps.getD 85 undef = .bool false := hd { on := 20, ground := .data } (by simp) rfl
                  rw [Array.getD_eq_getD_getElem?] at t85
                  have t92 : a.tmps.getD 92 undef = .bool false := hd { on := 27, ground := .data } (by simp) rfl
                  rw [Array.getD_eq_getD_getElem?] at t92
                  refine .inl ⟨rfl, ?_⟩
                  go_simp
                  exact ⟨Below.refl _ _, rfl⟩
              · intro vs W hE hV
                have h28 : vs 28 = .bool false := hV 28 (by decide)
                have HWW : Hid (Below W5.heap.size W5 W) := hE
                have HBf : Hid (Below w.heap.size w W) := HB0.out.trans (hE.mono HB0.out.size)
                clear hV hE
                simp only [putsV, dstsV, List.foldl, h28, Act.put, List.setIfInBounds_toArray, List.set_cons_succ, List.set_cons_zero]
                clear h28
                generalize vs 0 = y0
                generalize vs 1 = y1
                generalize vs 2 = y2
                generalize vs 3 = y3
                generalize vs 4 = y4
                generalize vs 5 = y5
                generalize vs 6 = y6
                generalize vs 7 = y7
                generalize vs 8 = y8
                generalize vs 9 = y9
                generalize vs 10 = y10
                generalize vs 11 = y11
                generalize vs 12 = y12
                generalize vs 13 = y13
                generalize vs 14 = y14
                generalize vs 15 = y15
                generalize vs 16 = y16
                generalize vs 17 = y17
                generalize vs 18 = y18
                generalize vs 19 = y19
                generalize vs 20 = y20
                generalize vs 21 = y21
                generalize vs 22 = y22
                generalize vs 23 = y23
                generalize vs 24 = y24
                generalize vs 25 = y25
                generalize vs 26 = y26
                generalize vs 27 = y27
                refine ‹∀ (a : Act) (w : World), Code.wp Tryd.prog (Code.cond _ _ _) _ a w → _› _ _ ?_
                have HPf : Hid (HasBox W b6 25 (pcells p)) := HP W HWW.out
                have HQf : Hid (HasBox W b17 25 (pcells q)) := HQ W HWW.out
                have HCf : Hid (CellsAt W w.heap.size cs) := HCc.out W HWW.out
                clear HP HQ HCc HWW HWp HWq
                have hN100 : NN ≤ 100 := by have := HNN.out.2; omega
                go_wp2_with (first | (refine wpList_load_bx rfl 25 (.tmp 17) rfl b17 rfl 25 _ _ HQf.out Tryd.underlying25 rfl infoProbing ?_) | (refine wpList_store_row rfl 25 (.tmp 6) (.tmp 98) rfl b6 (pcells q) rfl rfl 25 _ HPf.out infoProbing rfl (pcells_one _) ?_) | fail)
                have HX6 : Hid (HasBox (W.setRow b6 (pcells q)) b6 25 (pcells q)) := HasBox.row HPf.out
                have HC6 : Hid (CellsAt (W.setRow b6 (pcells q)) w.heap.size cs) := HasBox.rowOther HCf.out (by have := HLe.out; omega)
                have HB6 : Hid (Below w.heap.size w (W.setRow b6 (pcells q))) := below_setRow HBf.out (by have := HLe.out; omega) _
                go_roundw
                case rel => exact ⟨k + 1, q, moves, by omega, by go_num, rfl, HR.out, HQi.out, HX6.out, HC6.out, HB6.out⟩
                case measure => simp [intOf]; omega
            · have HK : Hid (¬ n4 ≤ (k : Int)) := hkn
              clear hkn
              refine wp_region_mp ([eqP (.int .i64 0), eqP (.bool false), eqP (.agg (pcells q)), eqP (.bool y), eqP (.agg (pcells p)), eqP (.bool y), eqP (.bool false), eqP (.bool false), eqP (.bool false), eqP (.int .i64 0), eqP (.bool false), eqP (.bool false), eqP (undef), eqP (undef), eqP (.bool false), eqP (.bool false), eqP (undef), eqP (undef), eqP (.bool false), eqP (.bool false), eqP (.bool false), eqP (.int .i64 k), eqP (.int .i64 n4), eqP (.bool false), eqP (.bool false), eqP (undef), eqP (undef), eqP (.bool false), eqP (.bool false)]) (by kernel_rfl) (by kernel_rfl) ?_ ?_
              · simp only [stepsAll3]
                refine ⟨fun a W hF hE hd => ?_, fun a W hF hE hd => ?_, fun a W hF hE hd => ?_, fun a W hF hE hd => ?_, fun a W hF hE hd => ?_, fun a W hF hE hd => ?_, fun a W hF hE hd => ?_, fun a W hF hE hd => ?_, fun a W hF hE hd => ?_, fun a W hF hE hd => ?_, fun a W hF hE hd => ?_, fun a W hF hE hd => ?_, fun a W hF hE hd => ?_, fun a W hF hE hd => ?_, fun a W hF hE hd => ?_, fun a W hF hE hd => ?_, fun a W hF hE hd => ?_, fun a W hF hE hd => ?_, fun a W hF hE hd => ?_, fun a W hF hE hd => ?_, fun a W hF hE hd => ?_, fun a W hF hE hd => ?_, fun a W hF hE hd => ?_, fun a W hF hE hd => ?_, fun a W hF hE hd => ?_, fun a W hF hE hd => ?_, fun a W hF hE hd => ?_, fun a W hF hE hd => ?_, fun a W hF hE hd => ?_, trivial⟩
                all_goals unfold StepAt
                · have t18 : a.tmps.getD 18 undef = .int .i64 0 := hF.at 18 (by kernel_rfl)
                  rw [Array.getD_eq_getD_getElem?] at t18
                  refine .inl ⟨rfl, ?_⟩
                  go_simp
                  exact ⟨Below.refl _ _, rfl⟩
                · have t65 : a.tmps.getD 65 undef = .int .i64 0 := hd { on := 0, ground := .data } (by simp) rfl
                  rw [Array.getD_eq_getD_getElem?] at t65
                  refine .inl ⟨rfl, ?_⟩
                  go_simp
                  exact ⟨Below.refl _ _, rfl⟩
                · have t17 : a.tmps.getD 17 undef = .pointer (some ⟨b17, 0, none⟩) := hF.at 17 (by kernel_rfl)
                  rw [Array.getD_eq_getD_getElem?] at t17
                  refine .inl ⟨rfl, ?_⟩
                  rw [run_oload _ _ 25 (.tmp 17) rfl (b17) (by simpa [Act.eval] using t17) 25 (pcells q) (0, 0) _ (HQ W hE) Tryd.underlying25 rfl infoProbing]
                  exact ⟨Below.refl _ _, rfl⟩
                · have t67 : a.tmps.getD 67 undef = .agg (pcells q) := hd { on := 2, ground := .data } (by simp) rfl
                  rw [Array.getD_eq_getD_getElem?] at t67
                  refine .inl ⟨rfl, ?_⟩
                  go_simp
                  exact (HWq W).mono fun e w2 h => ⟨_, h.1, h.2, rfl⟩
                · have t6 : a.tmps.getD 6 undef = .pointer (some ⟨b6, 0, none⟩) := hF.at 6 (by kernel_rfl)
                  rw [Array.getD_eq_getD_getElem?] at t6
                  refine .inl ⟨rfl, ?_⟩
                  rw [run_oload _ _ 25 (.tmp 6) rfl (b6) (by simpa [Act.eval] using t6) 25 (pcells p) (0, 0) _ (HP W hE) Tryd.underlying25 rfl infoProbing]
                  exact ⟨Below.refl _ _, rfl⟩
                · have t69 : a.tmps.getD 69 undef = .agg (pcells p) := hd { on := 4, ground := .data } (by simp) rfl
                  rw [Array.getD_eq_getD_getElem?] at t69
                  refine .inl ⟨rfl, ?_⟩
                  go_simp
                  exact (HWp W).mono fun e w2 h => ⟨_, h.1, h.2, rfl⟩
                · have t68 : a.tmps.getD 68 undef = .bool y := hd { on := 3, ground := .data } (by simp) rfl
                  rw [Array.getD_eq_getD_getElem?] at t68
                  have t70 : a.tmps.getD 70 undef = .bool y := hd { on := 5, ground := .data } (by simp) rfl
                  rw [Array.getD_eq_getD_getElem?] at t70
                  refine .inl ⟨rfl, ?_⟩
                  go_simp
                  exact ⟨Below.refl _ _, rfl⟩
                · have t66 : a.tmps.getD 66 undef = .bool false := hd { on := 1, ground := .data } (by simp) rfl
                  rw [Array.getD_eq_getD_getElem?] at t66
                  have t71 : a.tmps.getD 71 undef = .bool false := hd { on := 6, ground := .data } (by simp) rfl
                  rw [Array.getD_eq_getD_getElem?] at t71
                  refine .inl ⟨rfl, ?_⟩
                  go_simp
                  exact ⟨Below.refl _ _, rfl⟩
                · have t72 : a.tmps.getD 72 undef = .bool false := hd { on := 7, ground := .data } (by simp) rfl
                  rw [Array.getD_eq_getD_getElem?] at t72
                  refine .inl ⟨rfl, ?_⟩
                  go_simp
                  exact ⟨Below.refl _ _, rfl⟩
                · have t18 : a.tmps.getD 18 undef = .int .i64 0 := hF.at 18 (by kernel_rfl)
                  rw [Array.getD_eq_getD_getElem?] at t18
                  have g73 : a.eval (.tmp 73) = .bool false := hd { on := 8, ground := .guard } (by simp) rfl
                  refine .inl ⟨(by simp only [Region.wanted]; rw [yielded_of (d := 73) (by rfl) g73]; rfl), ?_⟩
                  clear g73
                  go_simp
                  exact ⟨Below.refl _ _, rfl⟩
                · have t74 : a.tmps.getD 74 undef = .int .i64 0 := hd { on := 9, ground := .data } (by simp) rfl
                  rw [Array.getD_eq_getD_getElem?] at t74
                  have g73 : a.eval (.tmp 73) = .bool false := hd { on := 8, ground := .guard } (by simp) rfl
                  refine .inl ⟨(by simp only [Region.wanted]; rw [yielded_of (d := 73) (by rfl) g73]; rfl), ?_⟩
                  clear g73
                  go_simp
                  exact ⟨Below.refl _ _, rfl⟩
                · have t75 : a.tmps.getD 75 undef = .bool false := hd { on := 10, ground := .data } (by simp) rfl
                  rw [Array.getD_eq_getD_getElem?] at t75
                  have g73 : a.eval (.tmp 73) = .bool false := hd { on := 8, ground := .guard } (by simp) rfl
                  refine .inl ⟨(by simp only [Region.wanted]; rw [yielded_of (d := 73) (by rfl) g73]; rfl), ?_⟩
                  clear g73
                  go_simp
                  exact ⟨Below.refl _ _, rfl⟩
                · have g76 : a.eval (.tmp 76) = .bool false := hd { on := 11, ground := .guard } (by simp) rfl
                  exact .inr ⟨(by simp only [Region.wanted]; rw [yielded_of (d := 76) (by rfl) g76]; rfl), rfl⟩
                · have g76 : a.eval (.tmp 76) = .bool false := hd { on := 11, ground := .guard } (by simp) rfl
                  exact .inr ⟨(by simp only [Region.wanted]; rw [yielded_of (d := 76) (by rfl) g76]; rfl), rfl⟩
                · have t76 : a.tmps.getD 76 undef = .bool false := hd { on := 11, ground := .data } (by simp) rfl
                  rw [Array.getD_eq_getD_getElem?] at t76
                  have g73 : a.eval (.tmp 73) = .bool false := hd { on := 8, ground := .guard } (by simp) rfl
                  refine .inl ⟨(by simp only [Region.wanted]; rw [yielded_of (d := 73) (by rfl) g73]; rfl), ?_⟩
                  clear g73
                  go_simp
                  exact ⟨Below.refl _ _, rfl⟩
                · have t79 : a.tmps.getD 79 undef = .bool false := hd { on := 14, ground := .data } (by simp) rfl
                  rw [Array.getD_eq_getD_getElem?] at t79
                  have g73 : a.eval (.tmp 73) = .bool false := hd { on := 8, ground := .guard } (by simp) rfl
                  refine .inl ⟨(by simp only [Region.wanted]; rw [yielded_of (d := 73) (by rfl) g73]; rfl), ?_⟩
                  clear g73
                  go_simp
                  exact ⟨Below.refl _ _, rfl⟩
                · have g80 : a.eval (.tmp 80) = .bool false := hd { on := 15, ground := .guard } (by simp) rfl
                  exact .inr ⟨(by simp only [Region.wanted]; rw [yielded_of (d := 80) (by rfl) g80]; rfl), rfl⟩
                · have g80 : a.eval (.tmp 80) = .bool false := hd { on := 15, ground := .guard } (by simp) rfl
                  exact .inr ⟨(by simp only [Region.wanted]; rw [yielded_of (d := 80) (by rfl) g80]; rfl), rfl⟩
                · have t80 : a.tmps.getD 80 undef = .bool false := hd { on := 15, ground := .data } (by simp) rfl
                  rw [Array.getD_eq_getD_getElem?] at t80
                  have g73 : a.eval (.tmp 73) = .bool false := hd { on := 8, ground := .guard } (by simp) rfl
                  refine .inl ⟨(by simp only [Region.wanted]; rw [yielded_of (d := 73) (by rfl) g73]; rfl), ?_⟩
                  clear g73
                  go_simp
                  exact ⟨Below.refl _ _, rfl⟩
                · have t73 : a.tmps.getD 73 undef = .bool false := hd { on := 8, ground := .data } (by simp) rfl
                  rw [Array.getD_eq_getD_getElem?] at t73
                  have t83 : a.tmps.getD 83 undef = .bool false := hd { on := 18, ground := .data } (by simp) rfl
                  rw [Array.getD_eq_getD_getElem?] at t83
                  refine .inl ⟨rfl, ?_⟩
                  go_simp
                  exact ⟨Below.refl _ _, rfl⟩
                · have t84 : a.tmps.getD 84 undef = .bool false := hd { on := 19, ground := .data } (by simp) rfl
                  rw [Array.getD_eq_getD_getElem?] at t84
                  refine .inl ⟨rfl, ?_⟩
                  go_simp
                  exact ⟨Below.refl _ _, rfl⟩
                · have t16 : a.tmps.getD 16 undef = .int .i64 k := hF.at 16 (by kernel_rfl)
                  rw [Array.getD_eq_getD_getElem?] at t16
                  have g85 : a.eval (.tmp 85) = .bool false := hd { on := 20, ground := .guard } (by simp) rfl
                  refine .inl ⟨(by simp only [Region.wanted]; rw [yielded_of (d := 85) (by rfl) g85]; rfl), ?_⟩
                  clear g85
                  go_simp
                  exact ⟨Below.refl _ _, rfl⟩
                · have t13 : a.tmps.getD 13 undef = .int .i64 n4 := hF.at 13 (by kernel_rfl)
                  rw [Array.getD_eq_getD_getElem?] at t13
                  have g85 : a.eval (.tmp 85) = .bool false := hd { on := 20, ground := .guard } (by simp) rfl
                  refine .inl ⟨(by simp only [Region.wanted]; rw [yielded_of (d := 85) (by rfl) g85]; rfl), ?_⟩
                  clear g85
                  go_simp
                  exact ⟨Below.refl _ _, rfl⟩
                · have t86 : a.tmps.getD 86 undef = .int .i64 k := hd { on := 21, ground := .data } (by simp) rfl
                  rw [Array.getD_eq_getD_getElem?] at t86
                  have t87 : a.tmps.getD 87 undef = .int .i64 n4 := hd { on := 22, ground := .data } (by simp) rfl
                  rw [Array.getD_eq_getD_getElem?] at t87
                  have g85 : a.eval (.tmp 85) = .bool false := hd { on := 20, ground := .guard } (by simp) rfl
                  refine .inl ⟨(by simp only [Region.wanted]; rw [yielded_of (d := 85) (by rfl) g85]; rfl), ?_⟩
                  clear g85
                  have q1 : ¬ n4 ≤ (k : Int) := HK.out
                  go_simp
                  exact ⟨Below.refl _ _, rfl⟩
                · have t88 : a.tmps.getD 88 undef = .bool false := hd { on := 23, ground := .data } (by simp) rfl
                  rw [Array.getD_eq_getD_getElem?] at t88
                  have g85 : a.eval (.tmp 85) = .bool false := hd { on := 20, ground := .guard } (by simp) rfl
                  refine .inl ⟨(by simp only [Region.wanted]; rw [yielded_of (d := 85) (by rfl) g85]; rfl), ?_⟩
                  clear g85
                  go_simp
                  exact ⟨Below.refl _ _, rfl⟩
                · have g89 : a.eval (.tmp 89) = .bool false := hd { on := 24, ground := .guard } (by simp) rfl
                  exact .inr ⟨(by simp only [Region.wanted]; rw [yielded_of (d := 89) (by rfl) g89]; rfl), rfl⟩
                · have g89 : a.eval (.tmp 89) = .bool false := hd { on := 24, ground := .guard } (by simp) rfl
                  exact .inr ⟨(by simp only [Region.wanted]; rw [yielded_of (d := 89) (by rfl) g89]; rfl), rfl⟩
                · have t89 : a.tmps.getD 89 undef = .bool false := hd { on := 24, ground := .data } (by simp) rfl
                  rw [Array.getD_eq_getD_getElem?] at t89
                  have g85 : a.eval (.tmp 85) = .bool false := hd { on := 20, ground := .guard } (by simp) rfl
                  refine .inl ⟨(by simp only [Region.wanted]; rw [yielded_of (d := 85) (by rfl) g85]; rfl), ?_⟩
                  clear g85
                  go_simp
                  exact ⟨Below.refl _ _, rfl⟩
                · have t85 : a.tmps.getD 85 undef = .bool false := hd { on := 20, ground := .data } (by simp) rfl
                  rw [Array.getD_eq_getD_getElem?] at t85
                  have t92 : a.tmps.getD 92 undef = .bool false := hd { on := 27, ground := .data } (by simp) rfl
                  rw [Array.getD_eq_getD_getElem?] at t92
                  refine .inl ⟨rfl, ?_⟩
                  go_simp
                  exact ⟨Below.refl _ _, rfl⟩
              · intro vs W hE hV
                have h28 : vs 28 = .bool false := hV 28 (by decide)
                have HWW : Hid (Below W5.heap.size W5 W) := hE
                have HBf : Hid (Below w.heap.size w W) := HB0.out.trans (hE.mono HB0.out.size)
                clear hV hE
                simp only [putsV, dstsV, List.foldl, h28, Act.put, List.setIfInBounds_toArray, List.set_cons_succ, List.set_cons_zero]
                clear h28
                generalize vs 0 = y0
                generalize vs 1 = y1
                generalize vs 2 = y2
                generalize vs 3 = y3
                generalize vs 4 = y4
                generalize vs 5 = y5
                generalize vs 6 = y6
                generalize vs 7 = y7
                generalize vs 8 = y8
                generalize vs 9 = y9
                generalize vs 10 = y10
                generalize vs 11 = y11
                generalize vs 12 = y12
                generalize vs 13 = y13
                generalize vs 14 = y14
                generalize vs 15 = y15
                generalize vs 16 = y16
                generalize vs 17 = y17
                generalize vs 18 = y18
                generalize vs 19 = y19
                generalize vs 20 = y20
                generalize vs 21 = y21
                generalize vs 22 = y22
                generalize vs 23 = y23
                generalize vs 24 = y24
                generalize vs 25 = y25
                generalize vs 26 = y26
                generalize vs 27 = y27
                refine ‹∀ (a : Act) (w : World), Code.wp Tryd.prog (Code.cond _ _ _) _ a w → _› _ _ ?_
                have HPf : Hid (HasBox W b6 25 (pcells p)) := HP W HWW.out
                have HQf : Hid (HasBox W b17 25 (pcells q)) := HQ W HWW.out
                have HCf : Hid (CellsAt W w.heap.size cs) := HCc.out W HWW.out
                clear HP HQ HCc HWW HWp HWq
                have hN100 : NN ≤ 100 := by have := HNN.out.2; omega
                go_wp2_with (first | (refine wpList_load_bx rfl 25 (.tmp 17) rfl b17 rfl 25 _ _ HQf.out Tryd.underlying25 rfl infoProbing ?_) | (refine wpList_store_row rfl 25 (.tmp 6) (.tmp 98) rfl b6 (pcells q) rfl rfl 25 _ HPf.out infoProbing rfl (pcells_one _) ?_) | fail)
                have HX6 : Hid (HasBox (W.setRow b6 (pcells q)) b6 25 (pcells q)) := HasBox.row HPf.out
                have HC6 : Hid (CellsAt (W.setRow b6 (pcells q)) w.heap.size cs) := HasBox.rowOther HCf.out (by have := HLe.out; omega)
                have HB6 : Hid (Below w.heap.size w (W.setRow b6 (pcells q))) := below_setRow HBf.out (by have := HLe.out; omega) _
                go_roundw
                case rel => exact ⟨k + 1, q, moves, by omega, by go_num, rfl, HR.out, HQi.out, HX6.out, HC6.out, HB6.out⟩
                case measure => simp [intOf]; omega
          · rw [hw] at HWq
            have HR : Hid (Rising n4 false ps q (k + 1) 1) := hr
            have HK : Hid (¬ n4 ≤ (k : Int)) := by show ¬ _; omega
            clear hw hr HTold hkn
            rcases hm12 with rfl | rfl
            · refine wp_region_mp ([eqP (.int .i64 1), eqP (.bool true), eqP (.agg (pcells q)), eqP (.bool (!y)), eqP (.agg (pcells p)), eqP (.bool y), eqP (.bool true), eqP (.bool false), eqP (.bool false), eqP (.int .i64 1), eqP (.bool true), eqP (.bool true), eqP (.int .i64 1), eqP (.bool false), eqP (.bool false), eqP (.bool false), eqP (undef), eqP (undef), eqP (.bool false), eqP (.bool false), eqP (.bool false), eqP (.int .i64 k), eqP (.int .i64 n4), eqP (.bool false), eqP (.bool false), eqP (undef), eqP (undef), eqP (.bool false), eqP (.bool false)]) (by kernel_rfl) (by kernel_rfl) ?_ ?_
              · simp only [stepsAll3]
                refine ⟨fun a W hF hE hd => ?_, fun a W hF hE hd => ?_, fun a W hF hE hd => ?_, fun a W hF hE hd => ?_, fun a W hF hE hd => ?_, fun a W hF hE hd => ?_, fun a W hF hE hd => ?_, fun a W hF hE hd => ?_, fun a W hF hE hd => ?_, fun a W hF hE hd => ?_, fun a W hF hE hd => ?_, fun a W hF hE hd => ?_, fun a W hF hE hd => ?_, fun a W hF hE hd => ?_, fun a W hF hE hd => ?_, fun a W hF hE hd => ?_, fun a W hF hE hd => ?_, fun a W hF hE hd => ?_, fun a W hF hE hd => ?_, fun a W hF hE hd => ?_, fun a W hF hE hd => ?_, fun a W hF hE hd => ?_, fun a W hF hE hd => ?_, fun a W hF hE hd => ?_, fun a W hF hE hd => ?_, fun a W hF hE hd => ?_, fun a W hF hE hd => ?_, fun a W hF hE hd => ?_, fun a W hF hE hd => ?_, trivial⟩
                all_goals unfold StepAt
                · have t18 : a.tmps.getD 18 undef = .int .i64 1 := hF.at 18 (by kernel_rfl)
                  rw [Array.getD_eq_getD_getElem?] at t18
                  refine .inl ⟨rfl, ?_⟩
                  go_simp
                  exact ⟨Below.refl _ _, rfl⟩
                · have t65 : a.tmps.getD 65 undef = .int .i64 1 := hd { on := 0, ground := .data } (by simp) rfl
                  rw [Array.getD_eq_getD_getElem?] at t65
                  refine .inl ⟨rfl, ?_⟩
                  go_simp
                  exact ⟨Below.refl _ _, rfl⟩
                · have t17 : a.tmps.getD 17 undef = .pointer (some ⟨b17, 0, none⟩) := hF.at 17 (by kernel_rfl)
                  rw [Array.getD_eq_getD_getElem?] at t17
                  refine .inl ⟨rfl, ?_⟩
                  rw [run_oload _ _ 25 (.tmp 17) rfl (b17) (by simpa [Act.eval] using t17) 25 (pcells q) (0, 0) _ (HQ W hE) Tryd.underlying25 rfl infoProbing]
                  exact ⟨Below.refl _ _, rfl⟩
                · have t67 : a.tmps.getD 67 undef = .agg (pcells q) := hd { on := 2, ground := .data } (by simp) rfl
                  rw [Array.getD_eq_getD_getElem?] at t67
                  refine .inl ⟨rfl, ?_⟩
                  go_simp
                  exact (HWq W).mono fun e w2 h => ⟨_, h.1, h.2, rfl⟩
                · have t6 : a.tmps.getD 6 undef = .pointer (some ⟨b6, 0, none⟩) := hF.at 6 (by kernel_rfl)
                  rw [Array.getD_eq_getD_getElem?] at t6
                  refine .inl ⟨rfl, ?_⟩
                  rw [run_oload _ _ 25 (.tmp 6) rfl (b6) (by simpa [Act.eval] using t6) 25 (pcells p) (0, 0) _ (HP W hE) Tryd.underlying25 rfl infoProbing]
                  exact ⟨Below.refl _ _, rfl⟩
                · have t69 : a.tmps.getD 69 undef = .agg (pcells p) := hd { on := 4, ground := .data } (by simp) rfl
                  rw [Array.getD_eq_getD_getElem?] at t69
                  refine .inl ⟨rfl, ?_⟩
                  go_simp
                  exact (HWp W).mono fun e w2 h => ⟨_, h.1, h.2, rfl⟩
                · have t68 : a.tmps.getD 68 undef = .bool (!y) := hd { on := 3, ground := .data } (by simp) rfl
                  rw [Array.getD_eq_getD_getElem?] at t68
                  have t70 : a.tmps.getD 70 undef = .bool y := hd { on := 5, ground := .data } (by simp) rfl
                  rw [Array.getD_eq_getD_getElem?] at t70
                  refine .inl ⟨rfl, ?_⟩
                  go_simp
                  exact ⟨Below.refl _ _, rfl⟩
                · have t66 : a.tmps.getD 66 undef = .bool true := hd { on := 1, ground := .data } (by simp) rfl
                  rw [Array.getD_eq_getD_getElem?] at t66
                  have t71 : a.tmps.getD 71 undef = .bool true := hd { on := 6, ground := .data } (by simp) rfl
                  rw [Array.getD_eq_getD_getElem?] at t71
                  refine .inl ⟨rfl, ?_⟩
                  go_simp
                  exact ⟨Below.refl _ _, rfl⟩
                · have t72 : a.tmps.getD 72 undef = .bool false := hd { on := 7, ground := .data } (by simp) rfl
                  rw [Array.getD_eq_getD_getElem?] at t72
                  refine .inl ⟨rfl, ?_⟩
                  go_simp
                  exact ⟨Below.refl _ _, rfl⟩
                · have t18 : a.tmps.getD 18 undef = .int .i64 1 := hF.at 18 (by kernel_rfl)
                  rw [Array.getD_eq_getD_getElem?] at t18
                  have g73 : a.eval (.tmp 73) = .bool false := hd { on := 8, ground := .guard } (by simp) rfl
                  refine .inl ⟨(by simp only [Region.wanted]; rw [yielded_of (d := 73) (by rfl) g73]; rfl), ?_⟩
                  clear g73
                  go_simp
                  exact ⟨Below.refl _ _, rfl⟩
                · have t74 : a.tmps.getD 74 undef = .int .i64 1 := hd { on := 9, ground := .data } (by simp) rfl
                  rw [Array.getD_eq_getD_getElem?] at t74
                  have g73 : a.eval (.tmp 73) = .bool false := hd { on := 8, ground := .guard } (by simp) rfl
                  refine .inl ⟨(by simp only [Region.wanted]; rw [yielded_of (d := 73) (by rfl) g73]; rfl), ?_⟩
                  clear g73
                  go_simp
                  exact ⟨Below.refl _ _, rfl⟩
                · have t75 : a.tmps.getD 75 undef = .bool true := hd { on := 10, ground := .data } (by simp) rfl
                  rw [Array.getD_eq_getD_getElem?] at t75
                  have g73 : a.eval (.tmp 73) = .bool false := hd { on := 8, ground := .guard } (by simp) rfl
                  refine .inl ⟨(by simp only [Region.wanted]; rw [yielded_of (d := 73) (by rfl) g73]; rfl), ?_⟩
                  clear g73
                  go_simp
                  exact ⟨Below.refl _ _, rfl⟩
                · have t18 : a.tmps.getD 18 undef = .int .i64 1 := hF.at 18 (by kernel_rfl)
                  rw [Array.getD_eq_getD_getElem?] at t18
                  have g76 : a.eval (.tmp 76) = .bool true := hd { on := 11, ground := .guard } (by simp) rfl
                  refine .inl ⟨(by simp only [Region.wanted]; rw [yielded_of (d := 76) (by rfl) g76]; rfl), ?_⟩
                  clear g76
                  go_simp
                  exact ⟨Below.refl _ _, rfl⟩
                · have t77 : a.tmps.getD 77 undef = .int .i64 1 := hd { on := 12, ground := .data } (by simp) rfl
                  rw [Array.getD_eq_getD_getElem?] at t77
                  have g76 : a.eval (.tmp 76) = .bool true := hd { on := 11, ground := .guard } (by simp) rfl
                  refine .inl ⟨(by simp only [Region.wanted]; rw [yielded_of (d := 76) (by rfl) g76]; rfl), ?_⟩
                  clear g76
                  go_simp
                  exact ⟨Below.refl _ _, rfl⟩
                · have t76 : a.tmps.getD 76 undef = .bool true := hd { on := 11, ground := .data } (by simp) rfl
                  rw [Array.getD_eq_getD_getElem?] at t76
                  have t78 : a.tmps.getD 78 undef = .bool false := hd { on := 13, ground := .data } (by simp) rfl
                  rw [Array.getD_eq_getD_getElem?] at t78
                  have g73 : a.eval (.tmp 73) = .bool false := hd { on := 8, ground := .guard } (by simp) rfl
                  refine .inl ⟨(by simp only [Region.wanted]; rw [yielded_of (d := 73) (by rfl) g73]; rfl), ?_⟩
                  clear g73
                  go_simp
                  exact ⟨Below.refl _ _, rfl⟩
                · have t79 : a.tmps.getD 79 undef = .bool false := hd { on := 14, ground := .data } (by simp) rfl
                  rw [Array.getD_eq_getD_getElem?] at t79
                  have g73 : a.eval (.tmp 73) = .bool false := hd { on := 8, ground := .guard } (by simp) rfl
                  refine .inl ⟨(by simp only [Region.wanted]; rw [yielded_of (d := 73) (by rfl) g73]; rfl), ?_⟩
                  clear g73
                  go_simp
                  exact ⟨Below.refl _ _, rfl⟩
                · have g80 : a.eval (.tmp 80) = .bool false := hd { on := 15, ground := .guard } (by simp) rfl
                  exact .inr ⟨(by simp only [Region.wanted]; rw [yielded_of (d := 80) (by rfl) g80]; rfl), rfl⟩
                · have g80 : a.eval (.tmp 80) = .bool false := hd { on := 15, ground := .guard } (by simp) rfl
                  exact .inr ⟨(by simp only [Region.wanted]; rw [yielded_of (d := 80) (by rfl) g80]; rfl), rfl⟩
                · have t80 : a.tmps.getD 80 undef = .bool false := hd { on := 15, ground := .data } (by simp) rfl
                  rw [Array.getD_eq_getD_getElem?] at t80
                  have g73 : a.eval (.tmp 73) = .bool false := hd { on := 8, ground := .guard } (by simp) rfl
                  refine .inl ⟨(by simp only [Region.wanted]; rw [yielded_of (d := 73) (by rfl) g73]; rfl), ?_⟩
                  clear g73
                  go_simp
                  exact ⟨Below.refl _ _, rfl⟩
                · have t73 : a.tmps.getD 73 undef = .bool false := hd { on := 8, ground := .data } (by simp) rfl
                  rw [Array.getD_eq_getD_getElem?] at t73
                  have t83 : a.tmps.getD 83 undef = .bool false := hd { on := 18, ground := .data } (by simp) rfl
                  rw [Array.getD_eq_getD_getElem?] at t83
                  refine .inl ⟨rfl, ?_⟩
                  go_simp
                  exact ⟨Below.refl _ _, rfl⟩
                · have t84 : a.tmps.getD 84 undef = .bool false := hd { on := 19, ground := .data } (by simp) rfl
                  rw [Array.getD_eq_getD_getElem?] at t84
                  refine .inl ⟨rfl, ?_⟩
                  go_simp
                  exact ⟨Below.refl _ _, rfl⟩
                · have t16 : a.tmps.getD 16 undef = .int .i64 k := hF.at 16 (by kernel_rfl)
                  rw [Array.getD_eq_getD_getElem?] at t16
                  have g85 : a.eval (.tmp 85) = .bool false := hd { on := 20, ground := .guard } (by simp) rfl
                  refine .inl ⟨(by simp only [Region.wanted]; rw [yielded_of (d := 85) (by rfl) g85]; rfl), ?_⟩
                  clear g85
                  go_simp
                  exact ⟨Below.refl _ _, rfl⟩
                · have t13 : a.tmps.getD 13 undef = .int .i64 n4 := hF.at 13 (by kernel_rfl)
                  rw [Array.getD_eq_getD_getElem?] at t13
                  have g85 : a.eval (.tmp 85) = .bool false := hd { on := 20, ground := .guard } (by simp) rfl
                  refine .inl ⟨(by simp only [Region.wanted]; rw [yielded_of (d := 85) (by rfl) g85]; rfl), ?_⟩
                  clear g85
                  go_simp
                  exact ⟨Below.refl _ _, rfl⟩
                · have t86 : a.tmps.getD 86 undef = .int .i64 k := hd { on := 21, ground := .data } (by simp) rfl
                  rw [Array.getD_eq_getD_getElem?] at t86
                  have t87 : a.tmps.getD 87 undef = .int .i64 n4 := hd { on := 22, ground := .data } (by simp) rfl
                  rw [Array.getD_eq_getD_getElem?] at t87
                  have g85 : a.eval (.tmp 85) = .bool false := hd { on := 20, ground := .guard } (by simp) rfl
                  refine .inl ⟨(by simp only [Region.wanted]; rw [yielded_of (d := 85) (by rfl) g85]; rfl), ?_⟩
                  clear g85
                  have q1 : ¬ n4 ≤ (k : Int) := HK.out
                  go_simp
                  exact ⟨Below.refl _ _, rfl⟩
                · have t88 : a.tmps.getD 88 undef = .bool false := hd { on := 23, ground := .data } (by simp) rfl
                  rw [Array.getD_eq_getD_getElem?] at t88
                  have g85 : a.eval (.tmp 85) = .bool false := hd { on := 20, ground := .guard } (by simp) rfl
                  refine .inl ⟨(by simp only [Region.wanted]; rw [yielded_of (d := 85) (by rfl) g85]; rfl), ?_⟩
                  clear g85
                  go_simp
                  exact ⟨Below.refl _ _, rfl⟩
                · have g89 : a.eval (.tmp 89) = .bool false := hd { on := 24, ground := .guard } (by simp) rfl
                  exact .inr ⟨(by simp only [Region.wanted]; rw [yielded_of (d := 89) (by rfl) g89]; rfl), rfl⟩
                · have g89 : a.eval (.tmp 89) = .bool false := hd { on := 24, ground := .guard } (by simp) rfl
                  exact .inr ⟨(by simp only [Region.wanted]; rw [yielded_of (d := 89) (by rfl) g89]; rfl), rfl⟩
                · have t89 : a.tmps.getD 89 undef = .bool false := hd { on := 24, ground := .data } (by simp) rfl
                  rw [Array.getD_eq_getD_getElem?] at t89
                  have g85 : a.eval (.tmp 85) = .bool false := hd { on := 20, ground := .guard } (by simp) rfl
                  refine .inl ⟨(by simp only [Region.wanted]; rw [yielded_of (d := 85) (by rfl) g85]; rfl), ?_⟩
                  clear g85
                  go_simp
                  exact ⟨Below.refl _ _, rfl⟩
                · have t85 : a.tmps.getD 85 undef = .bool false := hd { on := 20, ground := .data } (by simp) rfl
                  rw [Array.getD_eq_getD_getElem?] at t85
                  have t92 : a.tmps.getD 92 undef = .bool false := hd { on := 27, ground := .data } (by simp) rfl
                  rw [Array.getD_eq_getD_getElem?] at t92
                  refine .inl ⟨rfl, ?_⟩
                  go_simp
                  exact ⟨Below.refl _ _, rfl⟩
              · intro vs W hE hV
                have h28 : vs 28 = .bool false := hV 28 (by decide)
                have HWW : Hid (Below W5.heap.size W5 W) := hE
                have HBf : Hid (Below w.heap.size w W) := HB0.out.trans (hE.mono HB0.out.size)
                clear hV hE
                simp only [putsV, dstsV, List.foldl, h28, Act.put, List.setIfInBounds_toArray, List.set_cons_succ, List.set_cons_zero]
                clear h28
                generalize vs 0 = y0
                generalize vs 1 = y1
                generalize vs 2 = y2
                generalize vs 3 = y3
                generalize vs 4 = y4
                generalize vs 5 = y5
                generalize vs 6 = y6
                generalize vs 7 = y7
                generalize vs 8 = y8
                generalize vs 9 = y9
                generalize vs 10 = y10
                generalize vs 11 = y11
                generalize vs 12 = y12
                generalize vs 13 = y13
                generalize vs 14 = y14
                generalize vs 15 = y15
                generalize vs 16 = y16
                generalize vs 17 = y17
                generalize vs 18 = y18
                generalize vs 19 = y19
                generalize vs 20 = y20
                generalize vs 21 = y21
                generalize vs 22 = y22
                generalize vs 23 = y23
                generalize vs 24 = y24
                generalize vs 25 = y25
                generalize vs 26 = y26
                generalize vs 27 = y27
                refine ‹∀ (a : Act) (w : World), Code.wp Tryd.prog (Code.cond _ _ _) _ a w → _› _ _ ?_
                have HPf : Hid (HasBox W b6 25 (pcells p)) := HP W HWW.out
                have HQf : Hid (HasBox W b17 25 (pcells q)) := HQ W HWW.out
                have HCf : Hid (CellsAt W w.heap.size cs) := HCc.out W HWW.out
                clear HP HQ HCc HWW HWp HWq
                have hN100 : NN ≤ 100 := by have := HNN.out.2; omega
                go_wp2_with (first | (refine wpList_load_bx rfl 25 (.tmp 17) rfl b17 rfl 25 _ _ HQf.out Tryd.underlying25 rfl infoProbing ?_) | (refine wpList_store_row rfl 25 (.tmp 6) (.tmp 98) rfl b6 (pcells q) rfl rfl 25 _ HPf.out infoProbing rfl (pcells_one _) ?_) | fail)
                have HX6 : Hid (HasBox (W.setRow b6 (pcells q)) b6 25 (pcells q)) := HasBox.row HPf.out
                have HC6 : Hid (CellsAt (W.setRow b6 (pcells q)) w.heap.size cs) := HasBox.rowOther HCf.out (by have := HLe.out; omega)
                have HB6 : Hid (Below w.heap.size w (W.setRow b6 (pcells q))) := below_setRow HBf.out (by have := HLe.out; omega) _
                go_roundw
                case rel => exact ⟨k + 1, q, 1, by omega, by go_num, rfl, HR.out, HQi.out, HX6.out, HC6.out, HB6.out⟩
                case measure => simp [intOf]; omega
            · refine wp_region_mp ([eqP (.int .i64 2), eqP (.bool true), eqP (.agg (pcells q)), eqP (.bool (!y)), eqP (.agg (pcells p)), eqP (.bool y), eqP (.bool true), eqP (.bool false), eqP (.bool false), eqP (.int .i64 2), eqP (.bool true), eqP (.bool true), eqP (.int .i64 2), eqP (.bool true), eqP (.bool true), eqP (.bool true), eqP (.int .i64 2), eqP (.bool false), eqP (.bool false), eqP (.bool false), eqP (.bool false), eqP (.int .i64 k), eqP (.int .i64 n4), eqP (.bool false), eqP (.bool false), eqP (undef), eqP (undef), eqP (.bool false), eqP (.bool false)]) (by kernel_rfl) (by kernel_rfl) ?_ ?_
              · simp only [stepsAll3]
                refine ⟨fun a W hF hE hd => ?_, fun a W hF hE hd => ?_, fun a W hF hE hd => ?_, fun a W hF hE hd => ?_, fun a W hF hE hd => ?_, fun a W hF hE hd => ?_, fun a W hF hE hd => ?_, fun a W hF hE hd => ?_, fun a W hF hE hd => ?_, fun a W hF hE hd => ?_, fun a W hF hE hd => ?_, fun a W hF hE hd => ?_, fun a W hF hE hd => ?_, fun a W hF hE hd => ?_, fun a W hF hE hd => ?_, fun a W hF hE hd => ?_, fun a W hF hE hd => ?_, fun a W hF hE hd => ?_, fun a W hF hE hd => ?_, fun a W hF hE hd => ?_, fun a W hF hE hd => ?_, fun a W hF hE hd => ?_, fun a W hF hE hd => ?_, fun a W hF hE hd => ?_, fun a W hF hE hd => ?_, fun a W hF hE hd => ?_, fun a W hF hE hd => ?_, fun a W hF hE hd => ?_, fun a W hF hE hd => ?_, trivial⟩
                all_goals unfold StepAt
                · have t18 : a.tmps.getD 18 undef = .int .i64 2 := hF.at 18 (by kernel_rfl)
                  rw [Array.getD_eq_getD_getElem?] at t18
                  refine .inl ⟨rfl, ?_⟩
                  go_simp
                  exact ⟨Below.refl _ _, rfl⟩
                · have t65 : a.tmps.getD 65 undef = .int .i64 2 := hd { on := 0, ground := .data } (by simp) rfl
                  rw [Array.getD_eq_getD_getElem?] at t65
                  refine .inl ⟨rfl, ?_⟩
                  go_simp
                  exact ⟨Below.refl _ _, rfl⟩
                · have t17 : a.tmps.getD 17 undef = .pointer (some ⟨b17, 0, none⟩) := hF.at 17 (by kernel_rfl)
                  rw [Array.getD_eq_getD_getElem?] at t17
                  refine .inl ⟨rfl, ?_⟩
                  rw [run_oload _ _ 25 (.tmp 17) rfl (b17) (by simpa [Act.eval] using t17) 25 (pcells q) (0, 0) _ (HQ W hE) Tryd.underlying25 rfl infoProbing]
                  exact ⟨Below.refl _ _, rfl⟩
                · have t67 : a.tmps.getD 67 undef = .agg (pcells q) := hd { on := 2, ground := .data } (by simp) rfl
                  rw [Array.getD_eq_getD_getElem?] at t67
                  refine .inl ⟨rfl, ?_⟩
                  go_simp
                  exact (HWq W).mono fun e w2 h => ⟨_, h.1, h.2, rfl⟩
                · have t6 : a.tmps.getD 6 undef = .pointer (some ⟨b6, 0, none⟩) := hF.at 6 (by kernel_rfl)
                  rw [Array.getD_eq_getD_getElem?] at t6
                  refine .inl ⟨rfl, ?_⟩
                  rw [run_oload _ _ 25 (.tmp 6) rfl (b6) (by simpa [Act.eval] using t6) 25 (pcells p) (0, 0) _ (HP W hE) Tryd.underlying25 rfl infoProbing]
                  exact ⟨Below.refl _ _, rfl⟩
                · have t69 : a.tmps.getD 69 undef = .agg (pcells p) := hd { on := 4, ground := .data } (by simp) rfl
                  rw [Array.getD_eq_getD_getElem?] at t69
                  refine .inl ⟨rfl, ?_⟩
                  go_simp
                  exact (HWp W).mono fun e w2 h => ⟨_, h.1, h.2, rfl⟩
                · have t68 : a.tmps.getD 68 undef = .bool (!y) := hd { on := 3, ground := .data } (by simp) rfl
                  rw [Array.getD_eq_getD_getElem?] at t68
                  have t70 : a.tmps.getD 70 undef = .bool y := hd { on := 5, ground := .data } (by simp) rfl
                  rw [Array.getD_eq_getD_getElem?] at t70
                  refine .inl ⟨rfl, ?_⟩
                  go_simp
                  exact ⟨Below.refl _ _, rfl⟩
                · have t66 : a.tmps.getD 66 undef = .bool true := hd { on := 1, ground := .data } (by simp) rfl
                  rw [Array.getD_eq_getD_getElem?] at t66
                  have t71 : a.tmps.getD 71 undef = .bool true := hd { on := 6, ground := .data } (by simp) rfl
                  rw [Array.getD_eq_getD_getElem?] at t71
                  refine .inl ⟨rfl, ?_⟩
                  go_simp
                  exact ⟨Below.refl _ _, rfl⟩
                · have t72 : a.tmps.getD 72 undef = .bool false := hd { on := 7, ground := .data } (by simp) rfl
                  rw [Array.getD_eq_getD_getElem?] at t72
                  refine .inl ⟨rfl, ?_⟩
                  go_simp
                  exact ⟨Below.refl _ _, rfl⟩
                · have t18 : a.tmps.getD 18 undef = .int .i64 2 := hF.at 18 (by kernel_rfl)
                  rw [Array.getD_eq_getD_getElem?] at t18
                  have g73 : a.eval (.tmp 73) = .bool false := hd { on := 8, ground := .guard } (by simp) rfl
                  refine .inl ⟨(by simp only [Region.wanted]; rw [yielded_of (d := 73) (by rfl) g73]; rfl), ?_⟩
                  clear g73
                  go_simp
                  exact ⟨Below.refl _ _, rfl⟩
                · have t74 : a.tmps.getD 74 undef = .int .i64 2 := hd { on := 9, ground := .data } (by simp) rfl
                  rw [Array.getD_eq_getD_getElem?] at t74
                  have g73 : a.eval (.tmp 73) = .bool false := hd { on := 8, ground := .guard } (by simp) rfl
                  refine .inl ⟨(by simp only [Region.wanted]; rw [yielded_of (d := 73) (by rfl) g73]; rfl), ?_⟩
                  clear g73
                  go_simp
                  exact ⟨Below.refl _ _, rfl⟩
                · have t75 : a.tmps.getD 75 undef = .bool true := hd { on := 10, ground := .data } (by simp) rfl
                  rw [Array.getD_eq_getD_getElem?] at t75
                  have g73 : a.eval (.tmp 73) = .bool false := hd { on := 8, ground := .guard } (by simp) rfl
                  refine .inl ⟨(by simp only [Region.wanted]; rw [yielded_of (d := 73) (by rfl) g73]; rfl), ?_⟩
                  clear g73
                  go_simp
                  exact ⟨Below.refl _ _, rfl⟩
                · have t18 : a.tmps.getD 18 undef = .int .i64 2 := hF.at 18 (by kernel_rfl)
                  rw [Array.getD_eq_getD_getElem?] at t18
                  have g76 : a.eval (.tmp 76) = .bool true := hd { on := 11, ground := .guard } (by simp) rfl
                  refine .inl ⟨(by simp only [Region.wanted]; rw [yielded_of (d := 76) (by rfl) g76]; rfl), ?_⟩
                  clear g76
                  go_simp
                  exact ⟨Below.refl _ _, rfl⟩
                · have t77 : a.tmps.getD 77 undef = .int .i64 2 := hd { on := 12, ground := .data } (by simp) rfl
                  rw [Array.getD_eq_getD_getElem?] at t77
                  have g76 : a.eval (.tmp 76) = .bool true := hd { on := 11, ground := .guard } (by simp) rfl
                  refine .inl ⟨(by simp only [Region.wanted]; rw [yielded_of (d := 76) (by rfl) g76]; rfl), ?_⟩
                  clear g76
                  go_simp
                  exact ⟨Below.refl _ _, rfl⟩
                · have t76 : a.tmps.getD 76 undef = .bool true := hd { on := 11, ground := .data } (by simp) rfl
                  rw [Array.getD_eq_getD_getElem?] at t76
                  have t78 : a.tmps.getD 78 undef = .bool true := hd { on := 13, ground := .data } (by simp) rfl
                  rw [Array.getD_eq_getD_getElem?] at t78
                  have g73 : a.eval (.tmp 73) = .bool false := hd { on := 8, ground := .guard } (by simp) rfl
                  refine .inl ⟨(by simp only [Region.wanted]; rw [yielded_of (d := 73) (by rfl) g73]; rfl), ?_⟩
                  clear g73
                  go_simp
                  exact ⟨Below.refl _ _, rfl⟩
                · have t79 : a.tmps.getD 79 undef = .bool true := hd { on := 14, ground := .data } (by simp) rfl
                  rw [Array.getD_eq_getD_getElem?] at t79
                  have g73 : a.eval (.tmp 73) = .bool false := hd { on := 8, ground := .guard } (by simp) rfl
                  refine .inl ⟨(by simp only [Region.wanted]; rw [yielded_of (d := 73) (by rfl) g73]; rfl), ?_⟩
                  clear g73
                  go_simp
                  exact ⟨Below.refl _ _, rfl⟩
                · have t18 : a.tmps.getD 18 undef = .int .i64 2 := hF.at 18 (by kernel_rfl)
                  rw [Array.getD_eq_getD_getElem?] at t18
                  have g80 : a.eval (.tmp 80) = .bool true := hd { on := 15, ground := .guard } (by simp) rfl
                  refine .inl ⟨(by simp only [Region.wanted]; rw [yielded_of (d := 80) (by rfl) g80]; rfl), ?_⟩
                  clear g80
                  go_simp
                  exact ⟨Below.refl _ _, rfl⟩
                · have t81 : a.tmps.getD 81 undef = .int .i64 2 := hd { on := 16, ground := .data } (by simp) rfl
                  rw [Array.getD_eq_getD_getElem?] at t81
                  have g80 : a.eval (.tmp 80) = .bool true := hd { on := 15, ground := .guard } (by simp) rfl
                  refine .inl ⟨(by simp only [Region.wanted]; rw [yielded_of (d := 80) (by rfl) g80]; rfl), ?_⟩
                  clear g80
                  go_simp
                  exact ⟨Below.refl _ _, rfl⟩
                · have t80 : a.tmps.getD 80 undef = .bool true := hd { on := 15, ground := .data } (by simp) rfl
                  rw [Array.getD_eq_getD_getElem?] at t80
                  have t82 : a.tmps.getD 82 undef = .bool false := hd { on := 17, ground := .data } (by simp) rfl
                  rw [Array.getD_eq_getD_getElem?] at t82
                  have g73 : a.eval (.tmp 73) = .bool false := hd { on := 8, ground := .guard } (by simp) rfl
                  refine .inl ⟨(by simp only [Region.wanted]; rw [yielded_of (d := 73) (by rfl) g73]; rfl), ?_⟩
                  clear g73
                  go_simp
                  exact ⟨Below.refl _ _, rfl⟩
                · have t73 : a.tmps.getD 73 undef = .bool false := hd { on := 8, ground := .data } (by simp) rfl
                  rw [Array.getD_eq_getD_getElem?] at t73
                  have t83 : a.tmps.getD 83 undef = .bool false := hd { on := 18, ground := .data } (by simp) rfl
                  rw [Array.getD_eq_getD_getElem?] at t83
                  refine .inl ⟨rfl, ?_⟩
                  go_simp
                  exact ⟨Below.refl _ _, rfl⟩
                · have t84 : a.tmps.getD 84 undef = .bool false := hd { on := 19, ground := .data } (by simp) rfl
                  rw [Array.getD_eq_getD_getElem?] at t84
                  refine .inl ⟨rfl, ?_⟩
                  go_simp
                  exact ⟨Below.refl _ _, rfl⟩
                · have t16 : a.tmps.getD 16 undef = .int .i64 k := hF.at 16 (by kernel_rfl)
                  rw [Array.getD_eq_getD_getElem?] at t16
                  have g85 : a.eval (.tmp 85) = .bool false := hd { on := 20, ground := .guard } (by simp) rfl
                  refine .inl ⟨(by simp only [Region.wanted]; rw [yielded_of (d := 85) (by rfl) g85]; rfl), ?_⟩
                  clear g85
                  go_simp
                  exact ⟨Below.refl _ _, rfl⟩
                · have t13 : a.tmps.getD 13 undef = .int .i64 n4 := hF.at 13 (by kernel_rfl)
                  rw [Array.getD_eq_getD_getElem?] at t13
                  have g85 : a.eval (.tmp 85) = .bool false := hd { on := 20, ground := .guard } (by simp) rfl
                  refine .inl ⟨(by simp only [Region.wanted]; rw [yielded_of (d := 85) (by rfl) g85]; rfl), ?_⟩
                  clear g85
                  go_simp
                  exact ⟨Below.refl _ _, rfl⟩
                · have t86 : a.tmps.getD 86 undef = .int .i64 k := hd { on := 21, ground := .data } (by simp) rfl
                  rw [Array.getD_eq_getD_getElem?] at t86
                  have t87 : a.tmps.getD 87 undef = .int .i64 n4 := hd { on := 22, ground := .data } (by simp) rfl
                  rw [Array.getD_eq_getD_getElem?] at t87
                  have g85 : a.eval (.tmp 85) = .bool false := hd { on := 20, ground := .guard } (by simp) rfl
                  refine .inl ⟨(by simp only [Region.wanted]; rw [yielded_of (d := 85) (by rfl) g85]; rfl), ?_⟩
                  clear g85
                  have q1 : ¬ n4 ≤ (k : Int) := HK.out
                  go_simp
                  exact ⟨Below.refl _ _, rfl⟩
                · have t88 : a.tmps.getD 88 undef = .bool false := hd { on := 23, ground := .data } (by simp) rfl
                  rw [Array.getD_eq_getD_getElem?] at t88
                  have g85 : a.eval (.tmp 85) = .bool false := hd { on := 20, ground := .guard } (by simp) rfl
                  refine .inl ⟨(by simp only [Region.wanted]; rw [yielded_of (d := 85) (by rfl) g85]; rfl), ?_⟩
                  clear g85
                  go_simp
                  exact ⟨Below.refl _ _, rfl⟩
                · have g89 : a.eval (.tmp 89) = .bool false := hd { on := 24, ground := .guard } (by simp) rfl
                  exact .inr ⟨(by simp only [Region.wanted]; rw [yielded_of (d := 89) (by rfl) g89]; rfl), rfl⟩
                · have g89 : a.eval (.tmp 89) = .bool false := hd { on := 24, ground := .guard } (by simp) rfl
                  exact .inr ⟨(by simp only [Region.wanted]; rw [yielded_of (d := 89) (by rfl) g89]; rfl), rfl⟩
                · have t89 : a.tmps.getD 89 undef = .bool false := hd { on := 24, ground := .data } (by simp) rfl
                  rw [Array.getD_eq_getD_getElem?] at t89
                  have g85 : a.eval (.tmp 85) = .bool false := hd { on := 20, ground := .guard } (by simp) rfl
                  refine .inl ⟨(by simp only [Region.wanted]; rw [yielded_of (d := 85) (by rfl) g85]; rfl), ?_⟩
                  clear g85
                  go_simp
                  exact ⟨Below.refl _ _, rfl⟩
                · have t85 : a.tmps.getD 85 undef = .bool false := hd { on := 20, ground := .data } (by simp) rfl
                  rw [Array.getD_eq_getD_getElem?] at t85
                  have t92 : a.tmps.getD 92 undef = .bool false := hd { on := 27, ground := .data } (by simp) rfl
                  rw [Array.getD_eq_getD_getElem?] at t92
                  refine .inl ⟨rfl, ?_⟩
                  go_simp
                  exact ⟨Below.refl _ _, rfl⟩
              · intro vs W hE hV
                have h28 : vs 28 = .bool false := hV 28 (by decide)
                have HWW : Hid (Below W5.heap.size W5 W) := hE
                have HBf : Hid (Below w.heap.size w W) := HB0.out.trans (hE.mono HB0.out.size)
                clear hV hE
                simp only [putsV, dstsV, List.foldl, h28, Act.put, List.setIfInBounds_toArray, List.set_cons_succ, List.set_cons_zero]
                clear h28
                generalize vs 0 = y0
                generalize vs 1 = y1
                generalize vs 2 = y2
                generalize vs 3 = y3
                generalize vs 4 = y4
                generalize vs 5 = y5
                generalize vs 6 = y6
                generalize vs 7 = y7
                generalize vs 8 = y8
                generalize vs 9 = y9
                generalize vs 10 = y10
                generalize vs 11 = y11
                generalize vs 12 = y12
                generalize vs 13 = y13
                generalize vs 14 = y14
                generalize vs 15 = y15
                generalize vs 16 = y16
                generalize vs 17 = y17
                generalize vs 18 = y18
                generalize vs 19 = y19
                generalize vs 20 = y20
                generalize vs 21 = y21
                generalize vs 22 = y22
                generalize vs 23 = y23
                generalize vs 24 = y24
                generalize vs 25 = y25
                generalize vs 26 = y26
                generalize vs 27 = y27
                refine ‹∀ (a : Act) (w : World), Code.wp Tryd.prog (Code.cond _ _ _) _ a w → _› _ _ ?_
                have HPf : Hid (HasBox W b6 25 (pcells p)) := HP W HWW.out
                have HQf : Hid (HasBox W b17 25 (pcells q)) := HQ W HWW.out
                have HCf : Hid (CellsAt W w.heap.size cs) := HCc.out W HWW.out
                clear HP HQ HCc HWW HWp HWq
                have hN100 : NN ≤ 100 := by have := HNN.out.2; omega
                go_wp2_with (first | (refine wpList_load_bx rfl 25 (.tmp 17) rfl b17 rfl 25 _ _ HQf.out Tryd.underlying25 rfl infoProbing ?_) | (refine wpList_store_row rfl 25 (.tmp 6) (.tmp 98) rfl b6 (pcells q) rfl rfl 25 _ HPf.out infoProbing rfl (pcells_one _) ?_) | fail)
                have HX6 : Hid (HasBox (W.setRow b6 (pcells q)) b6 25 (pcells q)) := HasBox.row HPf.out
                have HC6 : Hid (CellsAt (W.setRow b6 (pcells q)) w.heap.size cs) := HasBox.rowOther HCf.out (by have := HLe.out; omega)
                have HB6 : Hid (Below w.heap.size w (W.setRow b6 (pcells q))) := below_setRow HBf.out (by have := HLe.out; omega) _
                go_roundw
                case rel => exact ⟨k + 1, q, 1, by omega, by go_num, rfl, HR.out, HQi.out, HX6.out, HC6.out, HB6.out⟩
                case measure => simp [intOf]; omega
        · have hend := rising_end HRi.out (by have := HNN.out; omega) HNb.out.1
          obtain ⟨e1, e2, e3, e4⟩ := hend
          have HWp : Hid (∀ W : World, Calls Tryd.prog 10 #[.agg (pcells p)] W fun e w' => e = .returned (.bool (wellP p)) ∧ Below W.heap.size W w') := pwell_any p
          rw [HY0.out] at e3
          generalize wellP p = y at e3 e4 HWp
          have d0 : wr.cell? ⟨b6, 0, none⟩ = some (.bool p.up) := HX.out.cell 0
          have d1 : wr.cell? ⟨b6, 1, none⟩ = some (.int .i64 p.run) := HX.out.cell 1
          rw [e1] at d0
          rw [e2] at d1
          have HE3 : Hid (moves = if y = y0 then 0 else 1) := e3
          have HE4 : Hid (p.forced = 0 → y = false) := e4
          clear e1 e2 e3 e4 hpi HRi
          by_cases hy : y = y0
          · have hmv : moves = 0 := HE3.out.trans (if_pos hy)
            subst hy hmv
            clear HE3
            go_wp2_with (first | (refine wpList_load_bx rfl 25 (.tmp 6) rfl b6 rfl 25 _ _ HX.out Tryd.underlying25 rfl infoProbing ?_) | fail)
            refine (HWp.out _).mono ?_
            rintro e w8 ⟨rfl, hb⟩
            have HX8 : Hid (HasBox w8 b6 25 (pcells p)) := HX.out.below hb
            have HB8 : Hid (Below w.heap.size w w8) := HB.out.trans (hb.mono HB.out.size)
            have d2 : w8.cell? ⟨b6, 2, none⟩ = some (.int .i64 p.forced) := HX8.out.cell 2
            clear hb HX HC HB d0 d1
            by_cases hf : p.forced = 0
            · have hyo := HE4.out hf
              rw [hf] at d2
              clear HE4 hf
              go_wp2_with (first | (refine wpList_load_bx rfl 25 (.tmp 6) rfl b6 rfl 25 _ _ HX8.out Tryd.underlying25 rfl infoProbing ?_) | fail)
              refine (HWp.out _).mono ?_
              rintro e w9 ⟨rfl, hb⟩
              have HB9 : Hid (Below w.heap.size w w9) := HB8.out.trans (hb.mono HB8.out.size)
              clear hb
              go_wp2_with fail
              refine (awake10_any _ (HT.out.below HB9.out)).mono ?_
              rintro e w10 ⟨rfl, hb⟩
              have HBa : Hid (Below w.heap.size w w10) := HB9.out.trans (hb.mono HB9.out.size)
              clear hb
              go_wp2
              go_ret
              exact ⟨rfl, HBa.out⟩
            · have hf2 : (p.forced == 0) = false := beq_eq_false_iff_ne.2 hf
              generalize p.forced = fo at *
              clear HE4
              go_wp2_with fail
              refine (awake10_any _ (HT.out.below HB8.out)).mono ?_
              rintro e w10 ⟨rfl, hb⟩
              have HBa : Hid (Below w.heap.size w w10) := HB8.out.trans (hb.mono HB8.out.size)
              clear hb
              go_wp2
              go_ret
              exact ⟨rfl, HBa.out⟩
          · have hmv : moves = 1 := HE3.out.trans (if_neg hy)
            have hy' : y = !y0 := by cases y <;> cases y0 <;> simp_all
            subst hmv hy'
            clear HE3 hy
            go_wp2_with (first | (refine wpList_load_bx rfl 25 (.tmp 6) rfl b6 rfl 25 _ _ HX.out Tryd.underlying25 rfl infoProbing ?_) | fail)
            refine (HWp.out _).mono ?_
            rintro e w8 ⟨rfl, hb⟩
            have HX8 : Hid (HasBox w8 b6 25 (pcells p)) := HX.out.below hb
            have HB8 : Hid (Below w.heap.size w w8) := HB.out.trans (hb.mono HB.out.size)
            have d2 : w8.cell? ⟨b6, 2, none⟩ = some (.int .i64 p.forced) := HX8.out.cell 2
            clear hb HX HC HB d0 d1
            by_cases hf : p.forced = 0
            · have hyo := HE4.out hf
              rw [hf] at d2
              clear HE4 hf
              go_wp2_with (first | (refine wpList_load_bx rfl 25 (.tmp 6) rfl b6 rfl 25 _ _ HX8.out Tryd.underlying25 rfl infoProbing ?_) | fail)
              refine (HWp.out _).mono ?_
              rintro e w9 ⟨rfl, hb⟩
              have HB9 : Hid (Below w.heap.size w w9) := HB8.out.trans (hb.mono HB8.out.size)
              clear hb
              go_wp2_with fail
              refine (awake10_any _ (HT.out.below HB9.out)).mono ?_
              rintro e w10 ⟨rfl, hb⟩
              have HBa : Hid (Below w.heap.size w w10) := HB9.out.trans (hb.mono HB9.out.size)
              clear hb
              go_wp2
              go_ret
              exact ⟨rfl, HBa.out⟩
            · have hf2 : (p.forced == 0) = false := beq_eq_false_iff_ne.2 hf
              generalize p.forced = fo at *
              clear HE4
              go_wp2_with fail
              refine (awake10_any _ (HT.out.below HB8.out)).mono ?_
              rintro e w10 ⟨rfl, hb⟩
              have HBa : Hid (Below w.heap.size w w10) := HB8.out.trans (hb.mono HB8.out.size)
              clear hb
              go_wp2
              go_ret
              exact ⟨rfl, HBa.out⟩

set_option maxRecDepth 100000 in
set_option maxHeartbeats 4000000 in
theorem walk_ProbeRises (c : Cfg) (hz : c.zone.size ≤ 9223372036854775807) (p : ProbeT) (hp : inP p) (l : List Bool) (v : Value) (ok : Bool) (more : Int) (_ : -9223372036854775808 ≤ more ∧ more ≤ 9223372036854775807) (w : World) (htab : Tabs w) (hl : IsBools w v l) :
    Calls Tryd.prog 3 #[.agg c.arr, pval p, v, .bool ok, .int .i64 more] w fun e w' => e = .returned (.bool true) ∧ Below w.heap.size w w' := by
  obtain ⟨ao, cap, rfl⟩ := hl.shaped
  by_cases hlen : l.length ≤ 100
  · have hl1 : ¬ (100 : Int) < (l.length : Int) := by omega
    by_cases hm : mayC c = true
    · cases ok
      · exact walk_Rises_false c hz hm p hp l ao cap hlen more w htab hl
      · exact walk_Rises_true c hz hm p hp l ao cap hlen more w htab hl
    · have HT : Hid (Tabs w) := htab
      have HMay : Hid (∀ W : World, Calls Tryd.prog 7 #[.agg c.arr] W fun e w' => e = .returned (.bool (mayC c)) ∧ Below W.heap.size W w') := fun W => rMay_any c W hz
      have HI : Hid ((Tryd.prog.info? 23).map (·.size) = some c.arr.size) := arr_inf c
      have hm' : mayC c = false := by simpa using hm
      rw [hm'] at HMay
      clear hm hm' hlen htab hl
      generalize c.arr = cs at HMay HI ⊢
      unfold pval
      generalize pcells p = cp
      go_enter Tryd.func3, Tryd.ntmps3
      go_upto_region 1 with fail
      generalize hW0 : (w.alloc _).alloc _ = W0
      have HC : Hid (CellsAt W0 w.heap.size cs) := by show CellsAt _ _ _; rw [← hW0]; exact heap_alloc2_old w _ _
      have HB : Hid (Below w.heap.size w W0) := by show Below _ _ _; rw [← hW0]; exact ((Below.refl _ _).alloc (Nat.le_refl _) _).alloc (by simp) _
      clear hW0
      go_wp2_with (first | (refine wpList_load_bx rfl 23 (.tmp 5) rfl w.heap.size rfl 23 _ _ HC.out Tryd.underlying23 rfl HI.out ?_) | fail)
      refine (HMay.out _).mono ?_
      rintro e w1 ⟨rfl, hb⟩
      have HB1 : Hid (Below w.heap.size w w1) := HB.out.trans (hb.mono HB.out.size)
      clear hb HC HB HMay
      go_wp2_with fail
      refine (awake10_any _ (HT.out.below HB1.out)).mono ?_
      rintro e w2 ⟨rfl, hb⟩
      have HB2 : Hid (Below w.heap.size w w2) := HB1.out.trans (hb.mono HB1.out.size)
      clear hb HB1
      go_wp2
      go_ret
      exact ⟨rfl, HB2.out⟩
  · have hl1 : (100 : Int) < (l.length : Int) := by omega
    have HT : Hid (Tabs w) := htab
    clear hlen htab hl
    generalize c.arr = cs
    unfold pval
    generalize pcells p = cp
    go_enter Tryd.func3, Tryd.ntmps3
    go_upto_region 1 with fail
    generalize hW0 : (w.alloc _).alloc _ = W0
    have HB : Hid (Below w.heap.size w W0) := by show Below _ _ _; rw [← hW0]; exact ((Below.refl _ _).alloc (Nat.le_refl _) _).alloc (by simp) _
    clear hW0
    go_wp2_with fail
    refine (awake10_any _ (HT.out.below HB.out)).mono ?_
    rintro e w2 ⟨rfl, hb⟩
    have HB2 : Hid (Below w.heap.size w w2) := HB.out.trans (hb.mono HB.out.size)
    clear hb HB
    go_wp2
    go_ret
    exact ⟨rfl, HB2.out⟩

theorem reads_ProbeRises (os : Os) {H : Type} (enc : TypeId × Value → H) : ∃ places, DataW.whole enc Tryd.prog ((laidWorld os).forCall (fun _ _ => 0) ⟨#[], #[.agg #[.int .i64 0, .int .i64 0, .int .i64 0, .int .i64 0, .int .i64 0, .int .i64 0, .int .i64 0, .int .i64 0, .int .i64 0, .int .i64 0, .int .i64 0, .int .i64 0, .int .i64 0, .int .i64 0, .int .i64 0, .bool false, .int .i64 0, .int .i64 0, .int .i64 0, .int .i64 0, .int .i64 0, .string ByteArray.empty, .bool false], .agg #[.bool false, .int .i64 0, .int .i64 0, .int .i64 0], .slice none 0 0, .bool false, .int .i64 0], []⟩).memory Tryd.f3.params.toList Rows.probeRisesSpec.vars false (#[.agg #[.int .i64 0, .int .i64 0, .int .i64 0, .int .i64 0, .int .i64 0, .int .i64 0, .int .i64 0, .int .i64 0, .int .i64 0, .int .i64 0, .int .i64 0, .int .i64 0, .int .i64 0, .int .i64 0, .int .i64 0, .bool false, .int .i64 0, .int .i64 0, .int .i64 0, .int .i64 0, .int .i64 0, .string ByteArray.empty, .bool false], .agg #[.bool false, .int .i64 0, .int .i64 0, .int .i64 0], .slice none 0 0, .bool false, .int .i64 0] : Array Value).toList 8 = some ([.agg [.lit (.int .i64 0), .lit (.int .i64 0), .lit (.int .i64 0), .lit (.int .i64 0), .lit (.int .i64 0), .lit (.int .i64 0), .lit (.int .i64 0), .lit (.int .i64 0), .lit (.int .i64 0), .lit (.int .i64 0), .lit (.int .i64 0), .lit (.int .i64 0), .lit (.int .i64 0), .lit (.int .i64 0), .lit (.int .i64 0), .lit (.bool false), .lit (.int .i64 0), .lit (.int .i64 0), .lit (.int .i64 0), .lit (.int .i64 0), .lit (.int .i64 0), .lit (.string []), .lit (.bool false)], .agg [.lit (.bool false), .lit (.int .i64 0), .lit (.int .i64 0), .lit (.int .i64 0)], .nil, .lit (.bool false), .lit (.int .i64 0)], [], places) :=
  ⟨[], by kernel_rfl⟩

set_option maxRecDepth 100000 in
theorem lifted_ProbeRises (os : Os) (started : os.Started) (H : Type) (enc : TypeId × Value → H) (F : Stop.Interp) :
    ReturnsInHanded {} Tryd.checked os 3 .any ((OpenSpec.ofChange Rows.probeRisesSpec).preRow enc Tryd.prog Tryd.f3 Rows.probeRisesRow.domain false Rows.probeRisesRow.laid) (((OpenSpec.ofChange Rows.probeRisesSpec).at F).post enc Tryd.prog Tryd.f3 false true false false) := by
  obtain ⟨places, hx⟩ := reads_ProbeRises os enc
  refine returnsInHanded_of_row (C := Tryd.checked) (s := OpenSpec.ofChange Rows.probeRisesSpec) own started (by kernel_rfl) Tryd.func3
    (witness_row_at (enc := enc) (C := Tryd.checked) false (laidWorld os) #[.agg #[.int .i64 0, .int .i64 0, .int .i64 0, .int .i64 0, .int .i64 0, .int .i64 0, .int .i64 0, .int .i64 0, .int .i64 0, .int .i64 0, .int .i64 0, .int .i64 0, .int .i64 0, .int .i64 0, .int .i64 0, .bool false, .int .i64 0, .int .i64 0, .int .i64 0, .int .i64 0, .int .i64 0, .string ByteArray.empty, .bool false], .agg #[.bool false, .int .i64 0, .int .i64 0, .int .i64 0], .slice none 0 0, .bool false, .int .i64 0] rfl (by kernel_rfl) (by kernel_rfl) (by kernel_rfl)
      (OpenSpec.preRow_of_cond 8 hx (by kernel_rfl) (fun k hk => by cases hk) (by kernel_rfl) (laid_met os _))) ?_
  intro W base args ds gs before hval0 hW _ _ hsz0 hL _ _
  have htab := table hL
  have hval : ∀ (j : Nat) t v, Tryd.f3.params[j]? = some t → args[j]? = some v → Value.okWide Tryd.prog W .any base t v := hval0
  have hW' := hW
  obtain ⟨p, q, hA0, hV, rfl, hfz, hnd⟩ := hW
  have hA : DataW.TrodAll enc Tryd.prog W 0 (fun _ => true) true Tryd.f3.params.toList args.toList ds p := hA0
  rw [Tryd.params3] at hA hval
  obtain ⟨v0, vs0, d0, ds0, p0, q0, hargs, rfl, rfl, h0, r0⟩ := trodAll_cons hA
  obtain ⟨v1, vs1, d1, ds1, p1, q1, rfl, rfl, rfl, h1, r1⟩ := trodAll_cons r0
  obtain ⟨v2, vs2, d2, ds2, p2, q2, rfl, rfl, rfl, h2, r2⟩ := trodAll_cons r1
  obtain ⟨v3, vs3, d3, ds3, p3, q3, rfl, rfl, rfl, h3, r3⟩ := trodAll_cons r2
  obtain ⟨v4, vs4, d4, ds4, p4, q4, rfl, rfl, rfl, h4, r4⟩ := trodAll_cons r3
  obtain ⟨rfl, rfl, rfl⟩ := trodAll_nil r4
  obtain rfl : args = #[v0, v1, v2, v3, v4] := by cases args; simp_all
  obtain ⟨rfl, rfl⟩ := trodVars_none hV
  have k0 := h0
  have lt0 : ∀ x ∈ p0, x.block < W.heap.size := by obtain ⟨m, hm⟩ := k0; exact DataW.trod_lt m _ _ _ hm
  obtain ⟨z0, rfl, w0⟩ := open_cfg (hval 0 23 v0 rfl rfl) h0
  have k1 := h1
  have lt1 : ∀ x ∈ p1, x.block < W.heap.size := by obtain ⟨m, hm⟩ := k1; exact DataW.trod_lt m _ _ _ hm
  obtain ⟨z1, rfl, w1⟩ := open_probing (hval 1 25 v1 rfl rfl) h1
  have k2 := h2
  have lt2 : ∀ x ∈ p2, x.block < W.heap.size := by obtain ⟨m, hm⟩ := k2; exact DataW.trod_lt m _ _ _ hm
  obtain ⟨z2, w2⟩ := open_bools (hval 2 26 v2 rfl rfl) h2
  obtain ⟨a3, rfl, rfl, rfl⟩ := open_bool Tryd.underlying4 (hval 3 4 v3 rfl rfl) h3
  obtain ⟨a4, rfl, rfl, rfl, w4⟩ := open_int Tryd.underlying3 (hval 4 3 v4 rfl rfl) h4
  clear hA0 hval0
  refine (walk_ProbeRises z0 w0 z1 w1 z2 v2 a3 a4 (bounds_i64 w4) W htab w2).mono fun e W' ⟨he, bel⟩ => ?_
  subst he
  exact ⟨_, rfl, _, _, _, [], _, [], hW', trodAll_mk1 (shut_bool Tryd.underlying4 _), (trodAll_cons_mk (Below.trod laidOut (by kernel_rfl) (of_decide_eq_true (by kernel_rfl)) k0 bel lt0) (trodAll_cons_mk (Below.trod laidOut (by kernel_rfl) (of_decide_eq_true (by kernel_rfl)) k1 bel lt1) (trodAll_cons_mk (Below.trod laidOut (by kernel_rfl) (of_decide_eq_true (by kernel_rfl)) k2 bel lt2) (trodAll_cons_mk (shut_bool Tryd.underlying4 a3) (trodAll_cons_mk (shut_int Tryd.underlying3 w4) trodAll_mk0))))), rfl, bel.frame _, fun h => by cases h⟩

theorem said_ProbeRises : Rows.ProbeRisesSaid :=
  OpenClaim.holds_of_cond 3 Tryd.f3 rfl rfl rfl rfl rfl rfl rfl ⟨rfl, rfl, rfl, rfl, rfl⟩ rfl rfl rfl rfl rfl (by kernel_rfl) Tryd.func3 (by kernel_rfl)
    (of_decide_eq_true (by kernel_rfl)) (by unfold Func.isWrapper; first | (rw [if_pos (by decide +kernel)]; kernel_rfl) | (rw [if_neg (by decide +kernel)]; exact ⟨rfl, rfl⟩))
    (fun os started H enc _ F => by rw [OpenClaim.pre_eq_preRow]; exact lifted_ProbeRises os started H enc F)

theorem plain_ProbeRises (f : FuncId) (fn : Func) (hf : Tryd.pinned.checked.prog.funcNamed Rows.probeRisesRow.func = some f) (hfn : Tryd.pinned.checked.prog.funcs[f]? = some fn) :
    false = Tryd.pinned.checked.prog.looks [] ∧ ∀ (j : Nat) t, fn.params[j]? = some t → Tryd.pinned.checked.prog.wantsStandIn t = false := by
  obtain rfl : f = 3 := Option.some.inj ((show Tryd.prog.funcNamed Rows.probeRisesRow.func = some 3 by kernel_rfl).symm.trans hf) |>.symm
  obtain rfl : fn = Tryd.f3 := (Option.some.inj (Tryd.func3.symm.trans hfn)).symm
  refine ⟨by kernel_rfl, fun j t ht => ?_⟩
  rw [Tryd.params3] at ht
  have hm := Array.mem_of_getElem? ht
  simp only [List.mem_toArray, List.mem_cons, List.not_mem_nil, or_false] at hm
  rcases hm with rfl | rfl | rfl | rfl | rfl
  · exact (show Tryd.prog.wantsStandIn 23 = false by kernel_rfl)
  · exact (show Tryd.prog.wantsStandIn 25 = false by kernel_rfl)
  · exact (show Tryd.prog.wantsStandIn 26 = false by kernel_rfl)
  · exact (show Tryd.prog.wantsStandIn 4 = false by kernel_rfl)
  · exact (show Tryd.prog.wantsStandIn 3 = false by kernel_rfl)

/-- The statement. -/
theorem probeRises_holds : Rows.ProbeRisesCardSaid :=
  Claim7.holds_tied_plain_at .later [] _ _ _ _ said_ProbeRises (fun _ h => by cases h) (by kernel_rfl) (fun _ h => by cases h) probeRises_row_tie rfl ⟨rfl, rfl⟩ (by kernel_rfl) rfl plain_ProbeRises (by kernel_rfl)
#print axioms probeRises_holds

end Go.Proofs.YtejjilnanmomcaaDoor

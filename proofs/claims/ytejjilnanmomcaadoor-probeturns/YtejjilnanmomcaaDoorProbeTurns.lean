/-
  ProbeTurns, for every configuration and row of answers: each move is told once, when it is so; ups and downs are in turn as long as nobody is forced. No condition on the call.
-/
import Derived.Test.YtejjilnanmomcaaDoorProbe4
import Derived.Test.YtejjilnanmomcaaDoorRefMayC
namespace Go.Proofs.YtejjilnanmomcaaDoor
open Go.ChangeShapes Go.WideShapes Go.ChangeAt Go.RowKit
open Go.ChangeMaps (open_string shut_string)

/-- End by its parts: a contract at literal cells. -/
theorem pend_lit {c : Cfg} (hc : mayC c = true) (hz : c.zone.size ≤ 9223372036854775807) {p q : ProbeT} {x : Bool} {m : Int} (hp : inP p) (he : endP c.f3 c.f4 p x = (q, m)) (W : World) (h : Tabs W) :
    Calls Tryd.prog 9 #[.agg c.arr, .agg (pcells p), .bool x] W fun e w' => e = .returned (.tuple #[.agg #[.bool q.up, .int .i64 q.run, .int .i64 q.forced, .int .i64 q.wait], .int .i64 m]) ∧ Below W.heap.size W w' := by
  have := pend_may c hc p x W h.1 hz hp
  rw [he] at this
  exact this

set_option maxRecDepth 100000 in
set_option maxHeartbeats 8000000 in
theorem walk_ProbeTurns (c : Cfg) (hz : c.zone.size ≤ 9223372036854775807) (l : List Bool) (v : Value) (w : World) (htab : Tabs w) (hl : IsBools w v l) :
    Calls Tryd.prog 6 #[.agg c.arr, v] w fun e w' => e = .returned (.bool true) ∧ Below w.heap.size w w' := by
  have HT : Hid (Tabs w) := htab
  clear htab
  obtain ⟨ao, cap, rfl⟩ := hl.shaped
  have HL : Hid (IsBools w (.slice ao l.length cap) l) := hl
  clear hl
  have HMay : Hid (∀ W : World, Calls Tryd.prog 7 #[.agg c.arr] W fun e w' => e = .returned (.bool (mayC c)) ∧ Below W.heap.size W w') := fun W => rMay_any c W hz
  have HI : Hid ((Tryd.prog.info? 23).map (·.size) = some c.arr.size) := arr_inf c
  by_cases hm : mayC c = true
  · by_cases hlen : l.length ≤ 200
    · rw [hm] at HMay
      have h3 := may_num3 hm
      have h4 := may_num4 hm
      have HEnd : Hid (∀ (p q : ProbeT) (x : Bool) (m : Int), inP p → endP c.f3 c.f4 p x = (q, m) → ∀ W : World, Tabs W → Calls Tryd.prog 9 #[.agg c.arr, .agg (pcells p), .bool x] W fun e w' => e = .returned (.tuple #[.agg #[.bool q.up, .int .i64 q.run, .int .i64 q.forced, .int .i64 q.wait], .int .i64 m]) ∧ Below W.heap.size W w') := fun p q x m hp he W h => pend_lit hm hz hp he W h
      have HNx : Hid (∀ (p : ProbeT) (last : Int) (x : Bool) (q : ProbeT) (m : Int), endP c.f3 c.f4 p x = (q, m) → Turning c.f3 c.f4 p last → Turning c.f3 c.f4 q (if m = 0 then last else m) ∧ (m ≠ 0 → m ≠ last ∧ m = if x then 1 else 2) ∧ wellP q = q.up) := fun p last x q m he ht => by
        have := turning_next (rise := c.f3) (fall := c.f4) x ht ⟨h3.1, by unfold topP; omega⟩ ⟨h4.1, by unfold topP; omega⟩
        rw [he] at this
        exact this
      have HIn : Hid (∀ (p : ProbeT) (last : Int), Turning c.f3 c.f4 p last → inP p) := fun p last ht => by
        obtain ⟨t1, t2, _, t4, t5⟩ := ht
        exact ⟨⟨by omega, by omega⟩, by rw [t1]; omega, by rw [t2]; omega⟩
      have HSt : Hid (Turning c.f3 c.f4 ⟨true, 0, 0, 0⟩ 1) := turning_start h3.1
      obtain ⟨A, hA⟩ : ∃ A, (if c.f3 < c.f4 then c.f4 else c.f3) = A := ⟨_, rfl⟩
      have HRun : Hid (∀ (p : ProbeT) (last : Int), Turning c.f3 c.f4 p last → p.forced = 0 ∧ p.wait = 0 ∧ (last = if p.up then 1 else 2) ∧ 0 ≤ p.run ∧ p.run < A) := fun p last ht => by
        obtain ⟨t1, t2, t3, t4, t5⟩ := ht
        refine ⟨t1, t2, t3, t4, ?_⟩
        rw [← hA]
        split <;> omega
      have c3 : c.arr[3]? = some (.int .i64 c.f3) := rfl
      have c4 : c.arr[4]? = some (.int .i64 c.f4) := rfl
      have HC3 : Hid _ := c3
      have HC4 : Hid _ := c4
      have HA : Hid ((if c.f3 < c.f4 then c.f4 else c.f3) = A) := hA
      clear c3 c4 hm h3 h4 hA
      generalize c.f3 = n3 at HEnd HNx HIn HSt HRun HC3 HA
      generalize c.f4 = n4 at HEnd HNx HIn HSt HRun HC4 HA
      generalize c.arr = cs at HMay HI HEnd HC3 HC4 ⊢
      have hl1 : ¬ (200 : Int) < (l.length : Int) := by omega
      go_enter Tryd.func6, Tryd.ntmps6
      go_upto_region 1 with fail
      generalize hW0 : w.alloc _ = W0
      have HC : Hid (CellsAt W0 w.heap.size cs) := by show CellsAt _ _ _; rw [← hW0]; exact heap_alloc_new w _
      have HB : Hid (Below w.heap.size w W0) := by show Below _ _ _; rw [← hW0]; exact (Below.refl _ _).alloc (Nat.le_refl _) _
      clear hW0
      go_wp2_with (first | (refine wpList_load_bx rfl 23 (.tmp 2) rfl w.heap.size rfl 23 _ _ HC.out Tryd.underlying23 rfl HI.out ?_) | fail)
      refine (HMay.out _).mono ?_
      rintro e w1 ⟨rfl, hb⟩
      have HC1 : Hid (CellsAt w1 w.heap.size cs) := HC.out.below hb
      have HB1 : Hid (Below w.heap.size w w1) := HB.out.trans (hb.mono HB.out.size)
      clear hb HC HB HMay
      go_wp2_with fail
      refine (pnew_any _).mono ?_
      rintro e w2 ⟨rfl, hb⟩
      have HC2 : Hid (CellsAt w2 w.heap.size cs) := HC1.out.below hb
      have HB2 : Hid (Below w.heap.size w w2) := HB1.out.trans (hb.mono HB1.out.size)
      clear hb HC1 HB1
      go_upto_region 4 with fail
      generalize hW3 : w2.alloc _ = W3
      have HC3' : Hid (CellsAt W3 w.heap.size cs) := by show CellsAt _ _ _; rw [← hW3]; exact HC2.out.alloc _
      have HX3 : Hid (HasBox W3 w2.heap.size 25 (pcells ⟨true, 0, 0, 0⟩)) := by show HasBox _ _ _ _; rw [← hW3]; exact hasBox_new w2 _ _
      have HB3 : Hid (Below w.heap.size w W3) := by show Below _ _ _; rw [← hW3]; exact HB2.out.alloc HB2.out.size _
      have HLe : Hid (w.heap.size < w2.heap.size) := HC2.out.lt
      clear hW3 HC2 HB2
      generalize w2.heap.size = b5 at HX3 HLe ⊢
      go_wp2
      go_loopw [6, 23] (fun la i wr => ∃ (k : Nat) (p : ProbeT) (last : Int), k ≤ l.length ∧ i = .int .i64 k ∧ la = .int .i64 last ∧ Turning n3 n4 p last ∧ HasBox wr b5 25 (pcells p) ∧ CellsAt wr w.heap.size cs ∧ Below w.heap.size w wr) (fun _ i _ => l.length - (intOf i).toNat)
      case atStart => exact ⟨0, _, 1, Nat.zero_le _, rfl, rfl, HSt.out, HX3.out, HC3'.out, HB3.out⟩
      case round =>
        obtain ⟨k, p, last, hk, rfl, rfl, ht, hx, hc, hb⟩ := hrel
        have HX : Hid (HasBox wr b5 25 (pcells p)) := hx
        have HC : Hid (CellsAt wr w.heap.size cs) := hc
        have HB : Hid (Below w.heap.size w wr) := hb
        have HTu : Hid (Turning n3 n4 p last) := ht
        clear hx hc hb ht HC3' HX3 HB3
        by_cases hlt : k < l.length
        · obtain ⟨bl, ol, rfl, hbl, gx⟩ := (HL.out.below HB.out).at k hlt
          obtain ⟨x, hxk⟩ : ∃ x, l.getD k false = x := ⟨_, rfl⟩
          rw [hxk] at gx
          obtain ⟨q, m, he⟩ : ∃ q m, endP n3 n4 p x = (q, m) := ⟨_, _, rfl⟩
          have HE : Hid _ := HEnd.out p q x m (HIn.out p last HTu.out) he
          obtain ⟨hq1, hq2, hq3⟩ := HNx.out p last x q m he HTu.out
          clear he hxk
          obtain ⟨f1, f2, f3, f4, f5⟩ := HRun.out q _ hq1
          obtain ⟨u, r, f, wt⟩ := q
          simp only at f1 f2 f3 f4 f5 hq3
          subst f1 f2
          have HQ : Hid (Turning n3 n4 ⟨u, r, 0, 0⟩ (if m = 0 then last else m)) := hq1
          have HWl : Hid (∀ W : World, Calls Tryd.prog 10 #[.agg #[.bool u, .int .i64 r, .int .i64 0, .int .i64 0]] W fun e w' => e = .returned (.bool u) ∧ Below W.heap.size W w') := fun W => by
            have := pwell_any ⟨u, r, 0, 0⟩ W
            rwa [hq3] at this
          have HF3 : Hid ((if m = 0 then last else m) = if u then 1 else 2) := f3
          have HF4 : Hid (0 ≤ r) := f4
          have HF5 : Hid (r < A) := f5
          have HM : Hid (m ≠ 0 → m ≠ last ∧ m = if x then 1 else 2) := hq2
          clear hq1 hq2 hq3 f3 f4 f5
          go_wp2_with (first | (refine wpList_load_bx rfl 23 (.tmp 2) rfl w.heap.size rfl 23 _ _ HC.out Tryd.underlying23 rfl HI.out ?_) | (refine wpList_load_bx rfl 25 (.tmp 5) rfl b5 rfl 25 _ _ HX.out Tryd.underlying25 rfl infoProbing ?_) | fail)
          refine (HE.out _ (HT.out.below HB.out)).mono ?_
          rintro e w4 ⟨rfl, hb⟩
          have HX4 : Hid (HasBox w4 b5 25 (pcells p)) := HX.out.below hb
          have HC4' : Hid (CellsAt w4 w.heap.size cs) := HC.out.below hb
          have HB4 : Hid (Below w.heap.size w w4) := HB.out.trans (hb.mono HB.out.size)
          clear hb HX HC HB HE gx hbl
          go_upto_region 9 with fail
          generalize hW5 : w4.alloc _ = W5
          have HX5 : Hid (HasBox W5 b5 25 (pcells p)) := by show HasBox _ _ _ _; rw [← hW5]; exact HX4.out.alloc _
          have HC5 : Hid (CellsAt W5 w.heap.size cs) := by show CellsAt _ _ _; rw [← hW5]; exact HC4'.out.alloc _
          have HY5 : Hid (HasBox W5 w4.heap.size 25 (pcells ⟨u, r, 0, 0⟩)) := by show HasBox _ _ _ _; rw [← hW5]; exact hasBox_new w4 _ _
          have HB5 : Hid (Below w.heap.size w W5) := by show Below _ _ _; rw [← hW5]; exact HB4.out.alloc HB4.out.size _
          clear hW5 HX4 HC4' HB4
          generalize w4.heap.size = b9 at HY5 ⊢
          have HRest : Hid (∀ w6 : World, Below W5.heap.size W5 w6 → HasBox w6 b5 25 (pcells p) ∧ CellsAt w6 w.heap.size cs ∧ HasBox w6 b9 25 (pcells ⟨u, r, 0, 0⟩) ∧ Below w.heap.size w w6) := fun w6 h => ⟨HX5.out.below h, HC5.out.below h, HY5.out.below h, HB5.out.trans (h.mono HB5.out.size)⟩
          by_cases hm0 : m = 0
          · subst hm0
            have e3 : last = if u then 1 else 2 := HF3.out
            clear HF3 HM
            cases u
            · have e : last = 2 := e3
              clear e3
              subst e
              go_wp2_with (first | (refine wpList_load_bx rfl 25 (.tmp 9) rfl b9 rfl 25 _ _ HY5.out Tryd.underlying25 rfl infoProbing ?_) | fail)
              refine (HWl.out _).mono ?_
              rintro e w6 ⟨rfl, hb⟩
              obtain ⟨hx6, hc6, hy6, hb6⟩ := HRest.out w6 hb
              have HX6 : Hid _ := hx6
              have HC6 : Hid _ := hc6
              have HY6 : Hid _ := hy6
              have HB6 : Hid _ := hb6
              have d1 : w6.cell? ⟨b9, 1, none⟩ = some (.int .i64 r) := hy6.cell 1
              have d3 : w6.cell? ⟨b9, 3, none⟩ = some (.int .i64 0) := hy6.cell 3
              have g3 : w6.cell? ⟨w.heap.size, 3, none⟩ = some (.int .i64 n3) := hc6.cell.trans HC3.out
              have g4 : w6.cell? ⟨w.heap.size, 4, none⟩ = some (.int .i64 n4) := hc6.cell.trans HC4.out
              have ha := HA.out
              have q4 : ¬ r < 0 := by have := HF4.out; omega
              have q5 : ¬ A ≤ r := by have := HF5.out; omega
              clear hb hx6 hc6 hy6 hb6 HRest HX5 HC5 HY5 HB5
              go_wp2_with (first | (refine wpList_load_bx rfl 25 (.tmp 9) rfl b9 rfl 25 _ _ HY6.out Tryd.underlying25 rfl infoProbing ?_) | (refine wpList_store_row rfl 25 (.tmp 5) (.tmp 71) rfl b5 (pcells ⟨false, r, 0, 0⟩) rfl rfl 25 _ HX6.out infoProbing rfl (pcells_one _) ?_) | fail)
              have HX8 : Hid _ := HasBox.row (ds := pcells ⟨false, r, 0, 0⟩) HX6.out
              have HC8 : Hid (CellsAt (w6.setRow b5 (pcells ⟨false, r, 0, 0⟩)) w.heap.size cs) := HasBox.rowOther HC6.out (by have := HLe.out; omega)
              have HB8 : Hid (Below w.heap.size w (w6.setRow b5 (pcells ⟨false, r, 0, 0⟩))) := below_setRow HB6.out (by have := HLe.out; omega) _
              go_roundw
              case rel => exact ⟨k + 1, ⟨false, r, 0, 0⟩, 2, by omega, by go_num, rfl, HQ.out, HX8.out, HC8.out, HB8.out⟩
              case measure => simp [intOf]; omega
            · have e : last = 1 := e3
              clear e3
              subst e
              go_wp2_with (first | (refine wpList_load_bx rfl 25 (.tmp 9) rfl b9 rfl 25 _ _ HY5.out Tryd.underlying25 rfl infoProbing ?_) | fail)
              refine (HWl.out _).mono ?_
              rintro e w6 ⟨rfl, hb⟩
              obtain ⟨hx6, hc6, hy6, hb6⟩ := HRest.out w6 hb
              have HX6 : Hid _ := hx6
              have HC6 : Hid _ := hc6
              have HY6 : Hid _ := hy6
              have HB6 : Hid _ := hb6
              have d1 : w6.cell? ⟨b9, 1, none⟩ = some (.int .i64 r) := hy6.cell 1
              have d3 : w6.cell? ⟨b9, 3, none⟩ = some (.int .i64 0) := hy6.cell 3
              have g3 : w6.cell? ⟨w.heap.size, 3, none⟩ = some (.int .i64 n3) := hc6.cell.trans HC3.out
              have g4 : w6.cell? ⟨w.heap.size, 4, none⟩ = some (.int .i64 n4) := hc6.cell.trans HC4.out
              have ha := HA.out
              have q4 : ¬ r < 0 := by have := HF4.out; omega
              have q5 : ¬ A ≤ r := by have := HF5.out; omega
              clear hb hx6 hc6 hy6 hb6 HRest HX5 HC5 HY5 HB5
              go_wp2_with (first | (refine wpList_load_bx rfl 25 (.tmp 9) rfl b9 rfl 25 _ _ HY6.out Tryd.underlying25 rfl infoProbing ?_) | (refine wpList_store_row rfl 25 (.tmp 5) (.tmp 71) rfl b5 (pcells ⟨true, r, 0, 0⟩) rfl rfl 25 _ HX6.out infoProbing rfl (pcells_one _) ?_) | fail)
              have HX8 : Hid _ := HasBox.row (ds := pcells ⟨true, r, 0, 0⟩) HX6.out
              have HC8 : Hid (CellsAt (w6.setRow b5 (pcells ⟨true, r, 0, 0⟩)) w.heap.size cs) := HasBox.rowOther HC6.out (by have := HLe.out; omega)
              have HB8 : Hid (Below w.heap.size w (w6.setRow b5 (pcells ⟨true, r, 0, 0⟩))) := below_setRow HB6.out (by have := HLe.out; omega) _
              go_roundw
              case rel => exact ⟨k + 1, ⟨true, r, 0, 0⟩, 1, by omega, by go_num, rfl, HQ.out, HX8.out, HC8.out, HB8.out⟩
              case measure => simp [intOf]; omega
          · have hml := (HM.out hm0).1
            have hmx := (HM.out hm0).2
            have e3 : m = if u then 1 else 2 := (if_neg hm0).symm.trans HF3.out
            clear HM HF3
            rw [show (if m = 0 then last else m) = m from if_neg hm0] at HQ
            cases u
            · have e : m = 2 := e3
              clear e3
              subst e
              have hx' : x = false := by cases x <;> first | rfl | exact absurd hmx (by decide)
              subst hx'
              clear hmx hm0
              have hml' : ¬ (2 : Int) = last := hml
              clear hml
              go_wp2_with (first | (refine wpList_load_bx rfl 25 (.tmp 9) rfl b9 rfl 25 _ _ HY5.out Tryd.underlying25 rfl infoProbing ?_) | fail)
              refine (HWl.out _).mono ?_
              rintro e w6 ⟨rfl, hb⟩
              obtain ⟨hx6, hc6, hy6, hb6⟩ := HRest.out w6 hb
              have HX6 : Hid _ := hx6
              have HC6 : Hid _ := hc6
              have HY6 : Hid _ := hy6
              have HB6 : Hid _ := hb6
              have d1 : w6.cell? ⟨b9, 1, none⟩ = some (.int .i64 r) := hy6.cell 1
              have d3 : w6.cell? ⟨b9, 3, none⟩ = some (.int .i64 0) := hy6.cell 3
              have g3 : w6.cell? ⟨w.heap.size, 3, none⟩ = some (.int .i64 n3) := hc6.cell.trans HC3.out
              have g4 : w6.cell? ⟨w.heap.size, 4, none⟩ = some (.int .i64 n4) := hc6.cell.trans HC4.out
              have ha := HA.out
              have q4 : ¬ r < 0 := by have := HF4.out; omega
              have q5 : ¬ A ≤ r := by have := HF5.out; omega
              clear hb hx6 hc6 hy6 hb6 HRest HX5 HC5 HY5 HB5
              go_wp2_with (first | (refine wpList_load_bx rfl 25 (.tmp 9) rfl b9 rfl 25 _ _ HY6.out Tryd.underlying25 rfl infoProbing ?_) | (refine wpList_store_row rfl 25 (.tmp 5) (.tmp 71) rfl b5 (pcells ⟨false, r, 0, 0⟩) rfl rfl 25 _ HX6.out infoProbing rfl (pcells_one _) ?_) | fail)
              have HX8 : Hid _ := HasBox.row (ds := pcells ⟨false, r, 0, 0⟩) HX6.out
              have HC8 : Hid (CellsAt (w6.setRow b5 (pcells ⟨false, r, 0, 0⟩)) w.heap.size cs) := HasBox.rowOther HC6.out (by have := HLe.out; omega)
              have HB8 : Hid (Below w.heap.size w (w6.setRow b5 (pcells ⟨false, r, 0, 0⟩))) := below_setRow HB6.out (by have := HLe.out; omega) _
              go_roundw
              case rel => exact ⟨k + 1, ⟨false, r, 0, 0⟩, 2, by omega, by go_num, rfl, HQ.out, HX8.out, HC8.out, HB8.out⟩
              case measure => simp [intOf]; omega
            · have e : m = 1 := e3
              clear e3
              subst e
              have hx' : x = true := by cases x <;> first | rfl | exact absurd hmx (by decide)
              subst hx'
              clear hmx hm0
              have hml' : ¬ (1 : Int) = last := hml
              clear hml
              go_wp2_with (first | (refine wpList_load_bx rfl 25 (.tmp 9) rfl b9 rfl 25 _ _ HY5.out Tryd.underlying25 rfl infoProbing ?_) | fail)
              refine (HWl.out _).mono ?_
              rintro e w6 ⟨rfl, hb⟩
              obtain ⟨hx6, hc6, hy6, hb6⟩ := HRest.out w6 hb
              have HX6 : Hid _ := hx6
              have HC6 : Hid _ := hc6
              have HY6 : Hid _ := hy6
              have HB6 : Hid _ := hb6
              have d1 : w6.cell? ⟨b9, 1, none⟩ = some (.int .i64 r) := hy6.cell 1
              have d3 : w6.cell? ⟨b9, 3, none⟩ = some (.int .i64 0) := hy6.cell 3
              have g3 : w6.cell? ⟨w.heap.size, 3, none⟩ = some (.int .i64 n3) := hc6.cell.trans HC3.out
              have g4 : w6.cell? ⟨w.heap.size, 4, none⟩ = some (.int .i64 n4) := hc6.cell.trans HC4.out
              have ha := HA.out
              have q4 : ¬ r < 0 := by have := HF4.out; omega
              have q5 : ¬ A ≤ r := by have := HF5.out; omega
              clear hb hx6 hc6 hy6 hb6 HRest HX5 HC5 HY5 HB5
              go_wp2_with (first | (refine wpList_load_bx rfl 25 (.tmp 9) rfl b9 rfl 25 _ _ HY6.out Tryd.underlying25 rfl infoProbing ?_) | (refine wpList_store_row rfl 25 (.tmp 5) (.tmp 71) rfl b5 (pcells ⟨true, r, 0, 0⟩) rfl rfl 25 _ HX6.out infoProbing rfl (pcells_one _) ?_) | fail)
              have HX8 : Hid _ := HasBox.row (ds := pcells ⟨true, r, 0, 0⟩) HX6.out
              have HC8 : Hid (CellsAt (w6.setRow b5 (pcells ⟨true, r, 0, 0⟩)) w.heap.size cs) := HasBox.rowOther HC6.out (by have := HLe.out; omega)
              have HB8 : Hid (Below w.heap.size w (w6.setRow b5 (pcells ⟨true, r, 0, 0⟩))) := below_setRow HB6.out (by have := HLe.out; omega) _
              go_roundw
              case rel => exact ⟨k + 1, ⟨true, r, 0, 0⟩, 1, by omega, by go_num, rfl, HQ.out, HX8.out, HC8.out, HB8.out⟩
              case measure => simp [intOf]; omega
        · go_wp2_with fail
          refine (awake10_any _ (HT.out.below HB.out)).mono ?_
          rintro e w7 ⟨rfl, hb⟩
          have HB7 : Hid (Below w.heap.size w w7) := HB.out.trans (hb.mono HB.out.size)
          clear hb
          go_wp2
          go_ret
          exact ⟨rfl, HB7.out⟩
    · rw [hm] at HMay
      clear hm
      generalize c.arr = cs at HMay HI ⊢
      have hl1 : (200 : Int) < (l.length : Int) := by omega
      clear hlen
      go_enter Tryd.func6, Tryd.ntmps6
      go_upto_region 1 with fail
      generalize hW0 : w.alloc _ = W0
      have HC : Hid (CellsAt W0 w.heap.size cs) := by show CellsAt _ _ _; rw [← hW0]; exact heap_alloc_new w _
      have HB : Hid (Below w.heap.size w W0) := by show Below _ _ _; rw [← hW0]; exact (Below.refl _ _).alloc (Nat.le_refl _) _
      clear hW0
      go_wp2_with (first | (refine wpList_load_bx rfl 23 (.tmp 2) rfl w.heap.size rfl 23 _ _ HC.out Tryd.underlying23 rfl HI.out ?_) | fail)
      refine (HMay.out _).mono ?_
      rintro e w1 ⟨rfl, hb⟩
      have HB1 : Hid (Below w.heap.size w w1) := HB.out.trans (hb.mono HB.out.size)
      clear hb HC HB HMay
      go_wp2_with fail
      refine (awake10_any _ (HT.out.below HB1.out)).mono ?_
      rintro e w2 ⟨rfl, hb⟩
      have HB2 : Hid (Below w.heap.size w w2) := HB1.out.trans (hb.mono HB1.out.size)
      clear hb HB1
      go_wp2
      go_ret
      exact ⟨rfl, HB2.out⟩
  · have hm' : mayC c = false := by simpa using hm
    rw [hm'] at HMay
    clear hm hm'
    generalize c.arr = cs at HMay HI ⊢
    go_enter Tryd.func6, Tryd.ntmps6
    go_upto_region 1 with fail
    generalize hW0 : w.alloc _ = W0
    have HC : Hid (CellsAt W0 w.heap.size cs) := by show CellsAt _ _ _; rw [← hW0]; exact heap_alloc_new w _
    have HB : Hid (Below w.heap.size w W0) := by show Below _ _ _; rw [← hW0]; exact (Below.refl _ _).alloc (Nat.le_refl _) _
    clear hW0
    go_wp2_with (first | (refine wpList_load_bx rfl 23 (.tmp 2) rfl w.heap.size rfl 23 _ _ HC.out Tryd.underlying23 rfl HI.out ?_) | fail)
    refine (HMay.out _).mono ?_
    rintro e w1 ⟨rfl, hb⟩
    have HB1 : Hid (Below w.heap.size w w1) := HB.out.trans (hb.mono HB.out.size)
    clear hb HC HB HMay
    go_wp2_with fail
    refine (awake10_any _ (HT.out.below HB1.out)).mono ?_
    rintro e w2 ⟨rfl, hb⟩
    have HB2 : Hid (Below w.heap.size w w2) := HB1.out.trans (hb.mono HB1.out.size)
    clear hb HB1
    go_wp2
    go_ret
    exact ⟨rfl, HB2.out⟩

theorem reads_ProbeTurns (os : Os) {H : Type} (enc : TypeId × Value → H) : ∃ places, DataW.whole enc Tryd.prog ((laidWorld os).forCall (fun _ _ => 0) ⟨#[], #[.agg #[.int .i64 0, .int .i64 0, .int .i64 0, .int .i64 0, .int .i64 0, .int .i64 0, .int .i64 0, .int .i64 0, .int .i64 0, .int .i64 0, .int .i64 0, .int .i64 0, .int .i64 0, .int .i64 0, .int .i64 0, .bool false, .int .i64 0, .int .i64 0, .int .i64 0, .int .i64 0, .int .i64 0, .string ByteArray.empty, .bool false], .slice none 0 0], []⟩).memory Tryd.f6.params.toList Rows.probeTurnsSpec.vars false (#[.agg #[.int .i64 0, .int .i64 0, .int .i64 0, .int .i64 0, .int .i64 0, .int .i64 0, .int .i64 0, .int .i64 0, .int .i64 0, .int .i64 0, .int .i64 0, .int .i64 0, .int .i64 0, .int .i64 0, .int .i64 0, .bool false, .int .i64 0, .int .i64 0, .int .i64 0, .int .i64 0, .int .i64 0, .string ByteArray.empty, .bool false], .slice none 0 0] : Array Value).toList 8 = some ([.agg [.lit (.int .i64 0), .lit (.int .i64 0), .lit (.int .i64 0), .lit (.int .i64 0), .lit (.int .i64 0), .lit (.int .i64 0), .lit (.int .i64 0), .lit (.int .i64 0), .lit (.int .i64 0), .lit (.int .i64 0), .lit (.int .i64 0), .lit (.int .i64 0), .lit (.int .i64 0), .lit (.int .i64 0), .lit (.int .i64 0), .lit (.bool false), .lit (.int .i64 0), .lit (.int .i64 0), .lit (.int .i64 0), .lit (.int .i64 0), .lit (.int .i64 0), .lit (.string []), .lit (.bool false)], .nil], [], places) :=
  ⟨[], by kernel_rfl⟩

set_option maxRecDepth 100000 in
theorem lifted_ProbeTurns (os : Os) (started : os.Started) (H : Type) (enc : TypeId × Value → H) (F : Stop.Interp) :
    ReturnsInHanded {} Tryd.checked os 6 .any ((OpenSpec.ofChange Rows.probeTurnsSpec).preRow enc Tryd.prog Tryd.f6 Rows.probeTurnsRow.domain false Rows.probeTurnsRow.laid) (((OpenSpec.ofChange Rows.probeTurnsSpec).at F).post enc Tryd.prog Tryd.f6 false true false false) := by
  obtain ⟨places, hx⟩ := reads_ProbeTurns os enc
  refine returnsInHanded_of_row (C := Tryd.checked) (s := OpenSpec.ofChange Rows.probeTurnsSpec) own started (by kernel_rfl) Tryd.func6
    (witness_row_at (enc := enc) (C := Tryd.checked) false (laidWorld os) #[.agg #[.int .i64 0, .int .i64 0, .int .i64 0, .int .i64 0, .int .i64 0, .int .i64 0, .int .i64 0, .int .i64 0, .int .i64 0, .int .i64 0, .int .i64 0, .int .i64 0, .int .i64 0, .int .i64 0, .int .i64 0, .bool false, .int .i64 0, .int .i64 0, .int .i64 0, .int .i64 0, .int .i64 0, .string ByteArray.empty, .bool false], .slice none 0 0] rfl (by kernel_rfl) (by kernel_rfl) (by kernel_rfl)
      (OpenSpec.preRow_of_cond 8 hx (by kernel_rfl) (fun k hk => by cases hk) (by kernel_rfl) (laid_met os _))) ?_
  intro W base args ds gs before hval0 hW _ _ hsz0 hL _ _
  have htab := table hL
  have hval : ∀ (j : Nat) t v, Tryd.f6.params[j]? = some t → args[j]? = some v → Value.okWide Tryd.prog W .any base t v := hval0
  have hW' := hW
  obtain ⟨p, q, hA0, hV, rfl, hfz, hnd⟩ := hW
  have hA : DataW.TrodAll enc Tryd.prog W 0 (fun _ => true) true Tryd.f6.params.toList args.toList ds p := hA0
  rw [Tryd.params6] at hA hval
  obtain ⟨v0, vs0, d0, ds0, p0, q0, hargs, rfl, rfl, h0, r0⟩ := trodAll_cons hA
  obtain ⟨v1, vs1, d1, ds1, p1, q1, rfl, rfl, rfl, h1, r1⟩ := trodAll_cons r0
  obtain ⟨rfl, rfl, rfl⟩ := trodAll_nil r1
  obtain rfl : args = #[v0, v1] := by cases args; simp_all
  obtain ⟨rfl, rfl⟩ := trodVars_none hV
  have k0 := h0
  have lt0 : ∀ x ∈ p0, x.block < W.heap.size := by obtain ⟨m, hm⟩ := k0; exact DataW.trod_lt m _ _ _ hm
  obtain ⟨z0, rfl, w0⟩ := open_cfg (hval 0 23 v0 rfl rfl) h0
  have k1 := h1
  have lt1 : ∀ x ∈ p1, x.block < W.heap.size := by obtain ⟨m, hm⟩ := k1; exact DataW.trod_lt m _ _ _ hm
  obtain ⟨z1, w1⟩ := open_bools (hval 1 26 v1 rfl rfl) h1
  clear hA0 hval0
  refine (walk_ProbeTurns z0 w0 z1 v1 W htab w1).mono fun e W' ⟨he, bel⟩ => ?_
  subst he
  exact ⟨_, rfl, _, _, _, [], _, [], hW', trodAll_mk1 (shut_bool Tryd.underlying4 _), (trodAll_cons_mk (Below.trod laidOut (by kernel_rfl) (of_decide_eq_true (by kernel_rfl)) k0 bel lt0) (trodAll_cons_mk (Below.trod laidOut (by kernel_rfl) (of_decide_eq_true (by kernel_rfl)) k1 bel lt1) trodAll_mk0)), rfl, bel.frame _, fun h => by cases h⟩

theorem said_ProbeTurns : Rows.ProbeTurnsSaid :=
  OpenClaim.holds_of_cond 6 Tryd.f6 rfl rfl rfl rfl rfl rfl rfl ⟨rfl, rfl, rfl, rfl, rfl⟩ rfl rfl rfl rfl rfl (by kernel_rfl) Tryd.func6 (by kernel_rfl)
    (of_decide_eq_true (by kernel_rfl)) (by unfold Func.isWrapper; first | (rw [if_pos (by decide +kernel)]; kernel_rfl) | (rw [if_neg (by decide +kernel)]; exact ⟨rfl, rfl⟩))
    (fun os started H enc _ F => by rw [OpenClaim.pre_eq_preRow]; exact lifted_ProbeTurns os started H enc F)

theorem plain_ProbeTurns (f : FuncId) (fn : Func) (hf : Tryd.pinned.checked.prog.funcNamed Rows.probeTurnsRow.func = some f) (hfn : Tryd.pinned.checked.prog.funcs[f]? = some fn) :
    false = Tryd.pinned.checked.prog.looks [] ∧ ∀ (j : Nat) t, fn.params[j]? = some t → Tryd.pinned.checked.prog.wantsStandIn t = false := by
  obtain rfl : f = 6 := Option.some.inj ((show Tryd.prog.funcNamed Rows.probeTurnsRow.func = some 6 by kernel_rfl).symm.trans hf) |>.symm
  obtain rfl : fn = Tryd.f6 := (Option.some.inj (Tryd.func6.symm.trans hfn)).symm
  refine ⟨by kernel_rfl, fun j t ht => ?_⟩
  rw [Tryd.params6] at ht
  have hm := Array.mem_of_getElem? ht
  simp only [List.mem_toArray, List.mem_cons, List.not_mem_nil, or_false] at hm
  rcases hm with rfl | rfl
  · exact (show Tryd.prog.wantsStandIn 23 = false by kernel_rfl)
  · exact (show Tryd.prog.wantsStandIn 26 = false by kernel_rfl)

/-- The statement. -/
theorem probeTurns_holds : Rows.ProbeTurnsCardSaid :=
  Claim7.holds_tied_plain_at .later [] _ _ _ _ said_ProbeTurns (fun _ h => by cases h) (by kernel_rfl) (fun _ h => by cases h) probeTurns_row_tie rfl ⟨rfl, rfl⟩ (by kernel_rfl) rfl plain_ProbeTurns (by kernel_rfl)
#print axioms probeTurns_holds

end Go.Proofs.YtejjilnanmomcaaDoor

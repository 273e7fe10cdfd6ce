/-
  ProbeForced, for every configuration, row of answers and way: who is forced is what it is forced to, whatever it answers; let loose it is what its answers made of it. No condition on the call.
-/
import Derived.Test.YtejjilnanmomcaaDoorProbe4
import Derived.Test.YtejjilnanmomcaaDoorRefMayC
import Derived.Test.YtejjilnanmomcaaDoorConfEq
namespace Go.Proofs.YtejjilnanmomcaaDoor
open Go.ChangeShapes Go.WideShapes Go.ChangeAt Go.RowKit
open Go.ChangeMaps (open_string shut_string)

theorem run_sameP (p : ProbeT) (w : World) : (binOp .eql 25 (.agg (pcells p)) (.agg (pcells p))).run Tryd.prog w = .ok (.bool true) w := by
  rw [run_eql_struct]
  have h : (Op.equalIn (9999 + 1) 25 (.agg (pcells p)) (.agg (pcells p))).run Tryd.prog w = .ok ((p.up == p.up) && ((p.run == p.run) && ((p.forced == p.forced) && ((p.wait == p.wait) && true)))) w := by
    rw [run_equalIn_struct w 9999 25 _ _ (by kernel_rfl) (by kernel_rfl)]
    have hf : Tryd.prog.fieldsOf 25 = (match Tryd.prog.underlying 25 with | some (.struct fs) => fs | _ => #[]) := rfl
    rw [hf, Tryd.underlying25]
    simp only
    refine eqFields_step (by decide) (part_plain Tryd.underlying4 rfl rfl) (part_plain Tryd.underlying4 rfl rfl) (run_equalIn_bool' w 9998 _ _ _ Tryd.underlying4) ?_
    refine eqFields_step (by decide) (part_plain Tryd.underlying3 rfl rfl) (part_plain Tryd.underlying3 rfl rfl) (run_equalIn_int w 9998 _ .i64 .i64 _ _ Tryd.underlying3) ?_
    refine eqFields_step (by decide) (part_plain Tryd.underlying3 rfl rfl) (part_plain Tryd.underlying3 rfl rfl) (run_equalIn_int w 9998 _ .i64 .i64 _ _ Tryd.underlying3) ?_
    refine eqFields_step (by decide) (part_plain Tryd.underlying3 rfl rfl) (part_plain Tryd.underlying3 rfl rfl) (run_equalIn_int w 9998 _ .i64 .i64 _ _ Tryd.underlying3) ?_
    rfl
  rw [show (10000 : Nat) = 9999 + 1 from rfl, h]
  simp [go_sem]

theorem guard_probing : Tryd.prog.eqGuardType Tryd.prog.depth 25 = false := by kernel_rfl
/-- End by its parts. -/
theorem pend_lit2 {c : Cfg} (hc : mayC c = true) (hz : c.zone.size ≤ 9223372036854775807) {p q : ProbeT} {x : Bool} {m : Int} (hp : inP p) (he : endP c.f3 c.f4 p x = (q, m)) (W : World) (h : Tabs W) :
    Calls Tryd.prog 9 #[.agg c.arr, .agg (pcells p), .bool x] W fun e w' => e = .returned (.tuple #[.agg (pcells q), .int .i64 m]) ∧ Below W.heap.size W w' := by
  have := pend_may c hc p x W h.1 hz hp
  rw [he] at this
  exact this
theorem force_loose (q : ProbeT) (H : Int) (h0 : q.forced = 0) (W : World) : Calls Tryd.prog 12 #[.agg (pcells { q with forced := H }), .int .i64 0] W fun e w' => (∃ m : Int, e = .returned (.tuple #[.agg (pcells q), .int .i64 m])) ∧ Below W.heap.size W w' := by
  refine (pforce_any { q with forced := H } 0 W).mono ?_
  rintro e w' ⟨rfl, hb⟩
  have : (forceP { q with forced := H } 0).1 = q := by
    unfold forceP
    rw [if_neg (by omega)]
    obtain ⟨a, b, c, d⟩ := q
    simp only at h0
    subst h0
    rfl
  rw [this]
  exact ⟨⟨_, rfl⟩, hb⟩
theorem u_mod2 (a : Int) : (IntKind.u64.wrap a).tmod 2 = 0 ∨ (IntKind.u64.wrap a).tmod 2 = 1 := by
  rw [IntKind.wrap_u64]
  have h1 := Int.emod_nonneg a (show (18446744073709551616 : Int) ≠ 0 by omega)
  rw [Int.tmod_eq_emod_of_nonneg h1]
  omega

set_option maxRecDepth 100000 in
set_option maxHeartbeats 8000000 in
theorem walk_ProbeForced (c : Cfg) (hz : c.zone.size ≤ 9223372036854775807) (l : List Bool) (v : Value) (how : Int) (_ : -9223372036854775808 ≤ how ∧ how ≤ 9223372036854775807) (w : World) (htab : Tabs w) (hl : IsBools w v l) :
    Calls Tryd.prog 4 #[.agg c.arr, v, .int .i64 how] w fun e w' => e = .returned (.bool true) ∧ Below w.heap.size w w' := by
  have HT : Hid (Tabs w) := htab
  clear htab
  obtain ⟨ao, cap, rfl⟩ := hl.shaped
  have HL : Hid (IsBools w (.slice ao l.length cap) l) := hl
  clear hl
  have HMay : Hid (∀ W : World, Calls Tryd.prog 7 #[.agg c.arr] W fun e w' => e = .returned (.bool (mayC c)) ∧ Below W.heap.size W w') := fun W => rMay_any c W hz
  have HI : Hid ((Tryd.prog.info? 23).map (·.size) = some c.arr.size) := arr_inf c
  by_cases hlen : l.length ≤ 100
  · have hl1 : ¬ (100 : Int) < (l.length : Int) := by omega
    by_cases hm : mayC c = true
    · rw [hm] at HMay
      have HEnd : Hid (∀ (p q : ProbeT) (x : Bool) (m : Int), inP p → endP c.f3 c.f4 p x = (q, m) → ∀ W : World, Tabs W → Calls Tryd.prog 9 #[.agg c.arr, .agg (pcells p), .bool x] W fun e w' => e = .returned (.tuple #[.agg (pcells q), .int .i64 m]) ∧ Below W.heap.size W w') := fun p q x m hp he W h => pend_lit2 hm hz hp he W h
      clear hm hlen
      generalize c.f3 = n3 at HEnd
      generalize c.f4 = n4 at HEnd
      generalize c.arr = cs at HMay HI HEnd ⊢
      rcases u_mod2 how with hF | hF
      · have HFo : Hid (∀ W : World, Calls Tryd.prog 12 #[.agg (pcells ⟨true, 0, 0, 0⟩), .int .i64 1] W fun e w' => e = .returned (.tuple #[.agg (pcells ⟨true, 0, 1, 0⟩), .int .i64 2]) ∧ Below W.heap.size W w') := pforce_any ⟨true, 0, 0, 0⟩ 1
        have HNw : Hid (∀ W : World, Calls Tryd.prog 11 #[] W fun e w' => e = .returned (.agg #[.bool true, .int .i64 0, .int .i64 0, .int .i64 0]) ∧ Below W.heap.size W w') := pnew_any
        go_enter Tryd.func4, Tryd.ntmps4
        go_upto_region 1 with fail
        generalize hW0 : w.alloc _ = W0
        have HC : Hid (CellsAt W0 w.heap.size cs) := by show CellsAt _ _ _; rw [← hW0]; exact heap_alloc_new w _
        have HB : Hid (Below w.heap.size w W0) := by show Below _ _ _; rw [← hW0]; exact (Below.refl _ _).alloc (Nat.le_refl _) _
        clear hW0
        go_wp2_with (first | (refine wpList_load_bx rfl 23 (.tmp 3) rfl w.heap.size rfl 23 _ _ HC.out Tryd.underlying23 rfl HI.out ?_) | fail)
        refine (HMay.out _).mono ?_
        rintro e w1 ⟨rfl, hb⟩
        have HC1 : Hid (CellsAt w1 w.heap.size cs) := HC.out.below hb
        have HB1 : Hid (Below w.heap.size w w1) := HB.out.trans (hb.mono HB.out.size)
        clear hb HC HB HMay
        go_wp2_with fail
        refine (HNw.out _).mono ?_
        rintro e w2 ⟨rfl, hb⟩
        have HC2 : Hid (CellsAt w2 w.heap.size cs) := HC1.out.below hb
        have HB2 : Hid (Below w.heap.size w w2) := HB1.out.trans (hb.mono HB1.out.size)
        clear hb HC1 HB1
        go_wp2_with fail
        refine (HNw.out _).mono ?_
        rintro e w3 ⟨rfl, hb⟩
        have HC3 : Hid (CellsAt w3 w.heap.size cs) := HC2.out.below hb
        have HB3 : Hid (Below w.heap.size w w3) := HB2.out.trans (hb.mono HB2.out.size)
        clear hb HC2 HB2 HNw
        go_upto_region 5 with fail
        generalize hW4 : (w3.alloc _).alloc _ = W4
        have HX4 : Hid (HasBox W4 w3.heap.size 25 (pcells ⟨true, 0, 0, 0⟩)) := by show HasBox _ _ _ _; rw [← hW4]; exact (hasBox_new w3 _ _).alloc _
        have HY4 : Hid (HasBox W4 (w3.heap.size + 1) 25 (pcells ⟨true, 0, 0, 0⟩)) := by show HasBox _ _ _ _; rw [← hW4]; exact hasBox_new' _ _ _ _ (by simp)
        have HC4 : Hid (CellsAt W4 w.heap.size cs) := by show CellsAt _ _ _; rw [← hW4]; exact (HC3.out.alloc _).alloc _
        have HB4 : Hid (Below w.heap.size w W4) := by show Below _ _ _; rw [← hW4]; exact (HB3.out.alloc HB3.out.size _).alloc (by have := HB3.out.size; simp; omega) _
        have HLe : Hid (w.heap.size < w3.heap.size) := HC3.out.lt
        clear hW4 HC3 HB3
        generalize hb7 : w3.heap.size = b7 at HX4 HY4 HLe ⊢
        obtain ⟨b8, hb8⟩ : ∃ b8, b7 + 1 = b8 := ⟨_, rfl⟩
        rw [hb8] at HY4 ⊢
        have HNe : Hid (b7 < b8) := by show _ < _; omega
        clear hb7 hb8
        go_wp2_with (first | (refine wpList_load_bx rfl 25 (.tmp 7) rfl b7 rfl 25 _ _ HX4.out Tryd.underlying25 rfl infoProbing ?_) | fail)
        refine (HFo.out _).mono ?_
        rintro e w5 ⟨rfl, hb⟩
        have HX5 : Hid (HasBox w5 b7 25 _) := HX4.out.below hb
        have HY5 : Hid (HasBox w5 b8 25 _) := HY4.out.below hb
        have HC5 : Hid (CellsAt w5 w.heap.size cs) := HC4.out.below hb
        have HB5 : Hid (Below w.heap.size w w5) := HB4.out.trans (hb.mono HB4.out.size)
        clear hb HX4 HY4 HC4 HB4 HFo
        go_wp2_with (first | (refine wpList_store_row rfl 25 (.tmp 7) (.tmp 34) rfl b7 (pcells ⟨true, 0, 1, 0⟩) rfl rfl 25 _ HX5.out infoProbing rfl (pcells_one _) ?_; generalize hW6 : World.setRow _ _ _ = W6; have HX6 : Hid (HasBox W6 b7 25 (pcells ⟨true, 0, 1, 0⟩)) := (by show HasBox _ _ _ _; rw [← hW6]; exact HasBox.row HX5.out); have HY6 : Hid (HasBox W6 b8 25 (pcells ⟨true, 0, 0, 0⟩)) := (by show HasBox _ _ _ _; rw [← hW6]; exact HasBox.rowOther HY5.out (by have := HNe.out; omega)); have HC6 : Hid (CellsAt W6 w.heap.size cs) := (by show CellsAt _ _ _; rw [← hW6]; exact HasBox.rowOther HC5.out (by have := HLe.out; omega)); have HB6 : Hid (Below w.heap.size w W6) := (by show Below _ _ _; rw [← hW6]; exact below_setRow HB5.out (by have := HLe.out; omega) _); clear hW6) | fail)
        go_loopw [47] (fun i wr => ∃ (k : Nat) (q : ProbeT), k ≤ l.length ∧ i = .int .i64 k ∧ q.forced = 0 ∧ inP q ∧ HasBox wr b7 25 (pcells { q with forced := 1 }) ∧ HasBox wr b8 25 (pcells q) ∧ CellsAt wr w.heap.size cs ∧ Below w.heap.size w wr) (fun i _ => l.length - (intOf i).toNat)
        case atStart => exact ⟨0, ⟨true, 0, 0, 0⟩, Nat.zero_le _, rfl, rfl, ⟨⟨by decide, by decide⟩, ⟨by decide, by decide⟩, ⟨by decide, by decide⟩⟩, HX6.out, HY6.out, HC6.out, HB6.out⟩
        case round =>
          obtain ⟨k, q, hk, rfl, hq0, hqi, hx, hy, hc, hb⟩ := hrel
          have HX : Hid (HasBox wr b7 25 (pcells { q with forced := 1 })) := hx
          have HY : Hid (HasBox wr b8 25 (pcells q)) := hy
          have HC : Hid (CellsAt wr w.heap.size cs) := hc
          have HB : Hid (Below w.heap.size w wr) := hb
          have HQ0 : Hid (q.forced = 0) := hq0
          clear hx hy hc hb HX6 HY6 HC6 HB6 HX5 HY5 HC5 HB5 hq0
          by_cases hlt : k < l.length
          · obtain ⟨bl, ol, rfl, hbl, gx⟩ := (HL.out.below HB.out).at k hlt
            obtain ⟨x, hxk⟩ : ∃ x, l.getD k false = x := ⟨_, rfl⟩
            rw [hxk] at gx
            obtain ⟨q', m, he⟩ : ∃ q' m, endP n3 n4 q x = (q', m) := ⟨_, _, rfl⟩
            have hq0' : q'.forced = 0 := by have := endP_forced n3 n4 q x; rw [he] at this; exact this.trans HQ0.out
            have hqi' : inP q' := by have := endP_in (rise := n3) (fall := n4) (ok := x) hqi; rw [he] at this; exact this
            have hph : inP { q with forced := 1 } := ⟨hqi.1, ⟨by show (-9223372036854775808 : Int) ≤ 1; omega, by show (1 : Int) ≤ _; omega⟩, hqi.2.2⟩
            have he2 : endP n3 n4 { q with forced := 1 } x = ({ q' with forced := 1 }, 0) := by have := endP_held n3 n4 q x 1 (by omega); rw [he] at this; exact this
            have HE1 : Hid _ := HEnd.out _ _ x 0 hph he2
            have HE2 : Hid _ := HEnd.out q q' x m hqi he
            have HW : Hid (∀ W : World, Calls Tryd.prog 10 #[.agg (pcells { q' with forced := 1 })] W fun e w' => e = .returned (.bool false) ∧ Below W.heap.size W w') := fun W => pwell_any { q' with forced := 1 } W
            clear he he2 hph hxk hqi
            obtain ⟨cq, hcq⟩ : ∃ cq, pcells q = cq := ⟨_, rfl⟩
            obtain ⟨cp, hcp, hsp⟩ : ∃ cp, pcells { q with forced := 1 } = cp ∧ cp.size = 4 := ⟨_, rfl, rfl⟩
            obtain ⟨dq, hdq⟩ : ∃ dq, pcells q' = dq := ⟨_, rfl⟩
            obtain ⟨dp, hdp⟩ : ∃ dp, pcells { q' with forced := 1 } = dp := ⟨_, rfl⟩
            have sq : cq.size = 4 := by rw [← hcq]; rfl
            have sdq : dq.size = 4 := by rw [← hdq]; rfl
            have sdp : dp.size = 4 := by rw [← hdp]; rfl
            have HIq : Hid ((Tryd.prog.info? 25).map (·.size) = some cq.size) := by show _ = _; rw [sq]; exact infoProbing
            have HIp : Hid ((Tryd.prog.info? 25).map (·.size) = some cp.size) := by show _ = _; rw [hsp]; exact infoProbing
            have HIdq : Hid ((Tryd.prog.info? 25).map (·.size) = some dq.size) := by show _ = _; rw [sdq]; exact infoProbing
            have HIdp : Hid ((Tryd.prog.info? 25).map (·.size) = some dp.size) := by show _ = _; rw [sdp]; exact infoProbing
            have HOq : Hid (dq.all (·.oneCell') = true) := by show _ = _; rw [← hdq]; exact pcells_one _
            have HOp : Hid (dp.all (·.oneCell') = true) := by show _ = _; rw [← hdp]; exact pcells_one _
            have HS1 : Hid ((4 : Nat) = dp.size) := sdp.symm
            have HS2 : Hid (cp.size = dp.size) := hsp.trans sdp.symm
            have HS3 : Hid (cq.size = dq.size) := sq.trans sdq.symm
            have HR1 : Hid (pcells q' = dq) := hdq
            have HR2 : Hid (pcells { q' with forced := 1 } = dp) := hdp
            rw [hcp, hdp] at HE1
            rw [hcq, hdq] at HE2
            rw [hdp] at HW
            rw [hcp] at HX
            rw [hcq] at HY
            have HQ1 : Hid (q'.forced = 0) := hq0'
            have HQi : Hid (inP q') := hqi'
            clear hcq hcp hdq hdp hsp sq sdq sdp hq0' hqi' HQ0
            go_wp2_with (first | (refine wpList_load_bx rfl 23 (.tmp 3) rfl w.heap.size rfl 23 _ _ HC.out Tryd.underlying23 rfl HI.out ?_) | (refine wpList_load_bx rfl 25 (.tmp 7) rfl b7 rfl 25 _ _ HX.out Tryd.underlying25 rfl HIp.out ?_) | fail)
            refine (HE1.out _ (HT.out.below HB.out)).mono ?_
            rintro e w7 ⟨rfl, hb⟩
            have HX7 : Hid (HasBox w7 b7 25 cp) := HX.out.below hb
            have HY7 : Hid (HasBox w7 b8 25 cq) := HY.out.below hb
            have HC7 : Hid (CellsAt w7 w.heap.size cs) := HC.out.below hb
            have HB7 : Hid (Below w.heap.size w w7) := HB.out.trans (hb.mono HB.out.size)
            clear hb HX HY HC HB HE1 gx hbl
            go_upto_region 12 with (first | (refine wpList_store_row rfl 25 (.tmp 12) (.tmp 56) rfl w7.heap.size dp rfl rfl 25 _ (heap_alloc_new w7 _) HIdp.out HS1.out HOp.out ?_; generalize hW8 : World.setRow _ _ _ = W8) | fail)
            have HX8 : Hid (HasBox W8 b7 25 cp) := by show HasBox _ _ _ _; rw [← hW8]; exact (HX7.out.alloc _).rowOther (by have := HX7.out.lt; omega)
            have HY8 : Hid (HasBox W8 b8 25 cq) := by show HasBox _ _ _ _; rw [← hW8]; exact (HY7.out.alloc _).rowOther (by have := HY7.out.lt; omega)
            have HC8 : Hid (CellsAt W8 w.heap.size cs) := by show CellsAt _ _ _; rw [← hW8]; exact HasBox.rowOther (HasBox.alloc HC7.out _) (by have := HC7.out.lt; omega)
            have HZ8 : Hid (HasBox W8 w7.heap.size 25 dp) := by show HasBox _ _ _ _; rw [← hW8]; exact (hasBox_new w7 _ _).row
            have HB8 : Hid (Below w.heap.size w W8) := by show Below _ _ _; rw [← hW8]; exact below_setRow (HB7.out.alloc HB7.out.size _) HB7.out.size _
            have HN12 : Hid (b7 < w7.heap.size) := HX7.out.lt
            clear hW8 HX7 HY7 HC7 HB7 HS1
            generalize w7.heap.size = b12 at HZ8 HN12 ⊢
            go_wp2_with (first | (refine wpList_load_bx rfl 25 (.tmp 12) rfl b12 rfl 25 _ _ HZ8.out Tryd.underlying25 rfl HIdp.out ?_) | fail)
            refine (HW.out _).mono ?_
            rintro e w9 ⟨rfl, hb⟩
            have HX9 : Hid (HasBox w9 b7 25 cp) := HX8.out.below hb
            have HY9 : Hid (HasBox w9 b8 25 cq) := HY8.out.below hb
            have HC9 : Hid (CellsAt w9 w.heap.size cs) := HC8.out.below hb
            have HZ9 : Hid (HasBox w9 b12 25 dp) := HZ8.out.below hb
            have HB9 : Hid (Below w.heap.size w w9) := HB8.out.trans (hb.mono HB8.out.size)
            clear hb HX8 HY8 HC8 HZ8 HB8 HW
            go_wp2_with (first | (refine wpList_load_bx rfl 25 (.tmp 12) rfl b12 rfl 25 _ _ HZ9.out Tryd.underlying25 rfl HIdp.out ?_) | (refine wpList_store_row rfl 25 (.tmp 7) (.tmp 67) rfl b7 dp rfl rfl 25 _ HX9.out HIdp.out HS2.out HOp.out ?_; generalize hWa : World.setRow _ _ _ = Wa; have HXa : Hid (HasBox Wa b7 25 dp) := (by show HasBox _ _ _ _; rw [← hWa]; exact HasBox.row HX9.out); have HYa : Hid (HasBox Wa b8 25 cq) := (by show HasBox _ _ _ _; rw [← hWa]; exact HasBox.rowOther HY9.out (by have := HNe.out; omega)); have HCa : Hid (CellsAt Wa w.heap.size cs) := (by show CellsAt _ _ _; rw [← hWa]; exact HasBox.rowOther HC9.out (by have := HLe.out; omega)); have HBa : Hid (Below w.heap.size w Wa) := (by show Below _ _ _; rw [← hWa]; exact below_setRow HB9.out (by have := HLe.out; omega) _); clear hWa) | (refine wpList_load_bx rfl 23 (.tmp 3) rfl w.heap.size rfl 23 _ _ HCa.out Tryd.underlying23 rfl HI.out ?_) | (refine wpList_load_bx rfl 25 (.tmp 8) rfl b8 rfl 25 _ _ HYa.out Tryd.underlying25 rfl HIq.out ?_) | fail)
            refine (HE2.out _ (HT.out.below HBa.out)).mono ?_
            rintro e wb ⟨rfl, hb⟩
            have HXb : Hid (HasBox wb b7 25 dp) := HXa.out.below hb
            have HYb : Hid (HasBox wb b8 25 cq) := HYa.out.below hb
            have HCb : Hid (CellsAt wb w.heap.size cs) := HCa.out.below hb
            have HBb : Hid (Below w.heap.size w wb) := HBa.out.trans (hb.mono HBa.out.size)
            clear hb HXa HYa HCa HBa HE2 HX9 HY9 HC9 HZ9 HB9
            go_wp2_with (first | (refine wpList_store_row rfl 25 (.tmp 8) (.tmp 73) rfl b8 dq rfl rfl 25 _ HYb.out HIdq.out HS3.out HOq.out ?_) | fail)
            have HXc : Hid (HasBox (wb.setRow b8 dq) b7 25 (pcells { q' with forced := 1 })) := by rw [HR2.out]; exact HasBox.rowOther HXb.out (by have := HNe.out; omega)
            have HYc : Hid (HasBox (wb.setRow b8 dq) b8 25 (pcells q')) := by rw [HR1.out]; exact HasBox.row HYb.out
            have HCc : Hid (CellsAt (wb.setRow b8 dq) w.heap.size cs) := HasBox.rowOther HCb.out (by have h1 := HLe.out; have h2 := HNe.out; omega)
            have HBc : Hid (Below w.heap.size w (wb.setRow b8 dq)) := below_setRow HBb.out (by have h1 := HLe.out; have h2 := HNe.out; omega) _
            go_roundw
            case rel => exact ⟨k + 1, q', by omega, by go_num, HQ1.out, HQi.out, HXc.out, HYc.out, HCc.out, HBc.out⟩
            case measure => simp [intOf]; omega
          · have HFl : Hid (∀ W : World, Calls Tryd.prog 12 #[.agg (pcells { q with forced := 1 }), .int .i64 0] W fun e w' => (∃ m : Int, e = .returned (.tuple #[.agg (pcells q), .int .i64 m])) ∧ Below W.heap.size W w') := fun W => force_loose q 1 HQ0.out W
            have HEq : Hid (∀ W : World, (binOp .eql 25 (.agg (pcells q)) (.agg (pcells q))).run Tryd.prog W = .ok (.bool true) W) := run_sameP q
            obtain ⟨cq, hcq, sq⟩ : ∃ cq, pcells q = cq ∧ cq.size = 4 := ⟨_, rfl, rfl⟩
            obtain ⟨cp, hcp, sp⟩ : ∃ cp, pcells { q with forced := 1 } = cp ∧ cp.size = 4 := ⟨_, rfl, rfl⟩
            have HIq : Hid ((Tryd.prog.info? 25).map (·.size) = some cq.size) := by show _ = _; rw [sq]; exact infoProbing
            have HIp : Hid ((Tryd.prog.info? 25).map (·.size) = some cp.size) := by show _ = _; rw [sp]; exact infoProbing
            have HOq : Hid (cq.all (·.oneCell') = true) := by show _ = _; rw [← hcq]; exact pcells_one _
            have HS2 : Hid (cp.size = cq.size) := sp.trans sq.symm
            rw [hcp, hcq] at HFl
            rw [hcq] at HEq HY
            rw [hcp] at HX
            clear hcq hcp sq sp hqi
            go_wp2_with (first | (refine wpList_load_bx rfl 25 (.tmp 7) rfl b7 rfl 25 _ _ HX.out Tryd.underlying25 rfl HIp.out ?_) | fail)
            refine (HFl.out _).mono ?_
            rintro e w7 ⟨⟨m7, rfl⟩, hb⟩
            have HX7 : Hid (HasBox w7 b7 25 cp) := HX.out.below hb
            have HY7 : Hid (HasBox w7 b8 25 cq) := HY.out.below hb
            have HB7 : Hid (Below w.heap.size w w7) := HB.out.trans (hb.mono HB.out.size)
            clear hb HX HY HC HB HFl
            go_upto_region 18 with (first | (refine wpList_store_row rfl 25 (.tmp 7) (.tmp 79) rfl b7 cq rfl rfl 25 _ HX7.out HIq.out HS2.out HOq.out ?_; generalize hW8 : World.setRow _ _ _ = W8) | fail)
            have HX8 : Hid (HasBox W8 b7 25 cq) := by show HasBox _ _ _ _; rw [← hW8]; exact HasBox.row HX7.out
            have HY8 : Hid (HasBox W8 b8 25 cq) := by show HasBox _ _ _ _; rw [← hW8]; exact HasBox.rowOther HY7.out (by have := HNe.out; omega)
            have HB8 : Hid (Below w.heap.size w W8) := by show Below _ _ _; rw [← hW8]; exact below_setRow HB7.out (by have := HLe.out; omega) _
            have heq := HEq.out
            have hgd := guard_probing
            clear hW8 HX7 HY7 HB7
            go_wp2_with (first | (refine wpList_load_bx rfl 25 (.tmp 7) rfl b7 rfl 25 _ _ HX8.out Tryd.underlying25 rfl HIq.out ?_) | (refine wpList_load_bx rfl 25 (.tmp 8) rfl b8 rfl 25 _ _ HY8.out Tryd.underlying25 rfl HIq.out ?_) | fail)
            refine (awake10_any _ (HT.out.below HB8.out)).mono ?_
            rintro e w9 ⟨rfl, hb⟩
            have HB9 : Hid (Below w.heap.size w w9) := HB8.out.trans (hb.mono HB8.out.size)
            clear hb
            go_wp2
            go_ret
            exact ⟨rfl, HB9.out⟩
      · have HFo : Hid (∀ W : World, Calls Tryd.prog 12 #[.agg (pcells ⟨true, 0, 0, 0⟩), .int .i64 2] W fun e w' => e = .returned (.tuple #[.agg (pcells ⟨true, 0, 2, 0⟩), .int .i64 0]) ∧ Below W.heap.size W w') := pforce_any ⟨true, 0, 0, 0⟩ 2
        have HNw : Hid (∀ W : World, Calls Tryd.prog 11 #[] W fun e w' => e = .returned (.agg #[.bool true, .int .i64 0, .int .i64 0, .int .i64 0]) ∧ Below W.heap.size W w') := pnew_any
        go_enter Tryd.func4, Tryd.ntmps4
        go_upto_region 1 with fail
        generalize hW0 : w.alloc _ = W0
        have HC : Hid (CellsAt W0 w.heap.size cs) := by show CellsAt _ _ _; rw [← hW0]; exact heap_alloc_new w _
        have HB : Hid (Below w.heap.size w W0) := by show Below _ _ _; rw [← hW0]; exact (Below.refl _ _).alloc (Nat.le_refl _) _
        clear hW0
        go_wp2_with (first | (refine wpList_load_bx rfl 23 (.tmp 3) rfl w.heap.size rfl 23 _ _ HC.out Tryd.underlying23 rfl HI.out ?_) | fail)
        refine (HMay.out _).mono ?_
        rintro e w1 ⟨rfl, hb⟩
        have HC1 : Hid (CellsAt w1 w.heap.size cs) := HC.out.below hb
        have HB1 : Hid (Below w.heap.size w w1) := HB.out.trans (hb.mono HB.out.size)
        clear hb HC HB HMay
        go_wp2_with fail
        refine (HNw.out _).mono ?_
        rintro e w2 ⟨rfl, hb⟩
        have HC2 : Hid (CellsAt w2 w.heap.size cs) := HC1.out.below hb
        have HB2 : Hid (Below w.heap.size w w2) := HB1.out.trans (hb.mono HB1.out.size)
        clear hb HC1 HB1
        go_wp2_with fail
        refine (HNw.out _).mono ?_
        rintro e w3 ⟨rfl, hb⟩
        have HC3 : Hid (CellsAt w3 w.heap.size cs) := HC2.out.below hb
        have HB3 : Hid (Below w.heap.size w w3) := HB2.out.trans (hb.mono HB2.out.size)
        clear hb HC2 HB2 HNw
        go_upto_region 5 with fail
        generalize hW4 : (w3.alloc _).alloc _ = W4
        have HX4 : Hid (HasBox W4 w3.heap.size 25 (pcells ⟨true, 0, 0, 0⟩)) := by show HasBox _ _ _ _; rw [← hW4]; exact (hasBox_new w3 _ _).alloc _
        have HY4 : Hid (HasBox W4 (w3.heap.size + 1) 25 (pcells ⟨true, 0, 0, 0⟩)) := by show HasBox _ _ _ _; rw [← hW4]; exact hasBox_new' _ _ _ _ (by simp)
        have HC4 : Hid (CellsAt W4 w.heap.size cs) := by show CellsAt _ _ _; rw [← hW4]; exact (HC3.out.alloc _).alloc _
        have HB4 : Hid (Below w.heap.size w W4) := by show Below _ _ _; rw [← hW4]; exact (HB3.out.alloc HB3.out.size _).alloc (by have := HB3.out.size; simp; omega) _
        have HLe : Hid (w.heap.size < w3.heap.size) := HC3.out.lt
        clear hW4 HC3 HB3
        generalize hb7 : w3.heap.size = b7 at HX4 HY4 HLe ⊢
        obtain ⟨b8, hb8⟩ : ∃ b8, b7 + 1 = b8 := ⟨_, rfl⟩
        rw [hb8] at HY4 ⊢
        have HNe : Hid (b7 < b8) := by show _ < _; omega
        clear hb7 hb8
        go_wp2_with (first | (refine wpList_load_bx rfl 25 (.tmp 7) rfl b7 rfl 25 _ _ HX4.out Tryd.underlying25 rfl infoProbing ?_) | fail)
        refine (HFo.out _).mono ?_
        rintro e w5 ⟨rfl, hb⟩
        have HX5 : Hid (HasBox w5 b7 25 _) := HX4.out.below hb
        have HY5 : Hid (HasBox w5 b8 25 _) := HY4.out.below hb
        have HC5 : Hid (CellsAt w5 w.heap.size cs) := HC4.out.below hb
        have HB5 : Hid (Below w.heap.size w w5) := HB4.out.trans (hb.mono HB4.out.size)
        clear hb HX4 HY4 HC4 HB4 HFo
        go_wp2_with (first | (refine wpList_store_row rfl 25 (.tmp 7) (.tmp 34) rfl b7 (pcells ⟨true, 0, 2, 0⟩) rfl rfl 25 _ HX5.out infoProbing rfl (pcells_one _) ?_; generalize hW6 : World.setRow _ _ _ = W6; have HX6 : Hid (HasBox W6 b7 25 (pcells ⟨true, 0, 2, 0⟩)) := (by show HasBox _ _ _ _; rw [← hW6]; exact HasBox.row HX5.out); have HY6 : Hid (HasBox W6 b8 25 (pcells ⟨true, 0, 0, 0⟩)) := (by show HasBox _ _ _ _; rw [← hW6]; exact HasBox.rowOther HY5.out (by have := HNe.out; omega)); have HC6 : Hid (CellsAt W6 w.heap.size cs) := (by show CellsAt _ _ _; rw [← hW6]; exact HasBox.rowOther HC5.out (by have := HLe.out; omega)); have HB6 : Hid (Below w.heap.size w W6) := (by show Below _ _ _; rw [← hW6]; exact below_setRow HB5.out (by have := HLe.out; omega) _); clear hW6) | fail)
        go_loopw [47] (fun i wr => ∃ (k : Nat) (q : ProbeT), k ≤ l.length ∧ i = .int .i64 k ∧ q.forced = 0 ∧ inP q ∧ HasBox wr b7 25 (pcells { q with forced := 2 }) ∧ HasBox wr b8 25 (pcells q) ∧ CellsAt wr w.heap.size cs ∧ Below w.heap.size w wr) (fun i _ => l.length - (intOf i).toNat)
        case atStart => exact ⟨0, ⟨true, 0, 0, 0⟩, Nat.zero_le _, rfl, rfl, ⟨⟨by decide, by decide⟩, ⟨by decide, by decide⟩, ⟨by decide, by decide⟩⟩, HX6.out, HY6.out, HC6.out, HB6.out⟩
        case round =>
          obtain ⟨k, q, hk, rfl, hq0, hqi, hx, hy, hc, hb⟩ := hrel
          have HX : Hid (HasBox wr b7 25 (pcells { q with forced := 2 })) := hx
          have HY : Hid (HasBox wr b8 25 (pcells q)) := hy
          have HC : Hid (CellsAt wr w.heap.size cs) := hc
          have HB : Hid (Below w.heap.size w wr) := hb
          have HQ0 : Hid (q.forced = 0) := hq0
          clear hx hy hc hb HX6 HY6 HC6 HB6 HX5 HY5 HC5 HB5 hq0
          by_cases hlt : k < l.length
          · obtain ⟨bl, ol, rfl, hbl, gx⟩ := (HL.out.below HB.out).at k hlt
            obtain ⟨x, hxk⟩ : ∃ x, l.getD k false = x := ⟨_, rfl⟩
            rw [hxk] at gx
            obtain ⟨q', m, he⟩ : ∃ q' m, endP n3 n4 q x = (q', m) := ⟨_, _, rfl⟩
            have hq0' : q'.forced = 0 := by have := endP_forced n3 n4 q x; rw [he] at this; exact this.trans HQ0.out
            have hqi' : inP q' := by have := endP_in (rise := n3) (fall := n4) (ok := x) hqi; rw [he] at this; exact this
            have hph : inP { q with forced := 2 } := ⟨hqi.1, ⟨by show (-9223372036854775808 : Int) ≤ 2; omega, by show (2 : Int) ≤ _; omega⟩, hqi.2.2⟩
            have he2 : endP n3 n4 { q with forced := 2 } x = ({ q' with forced := 2 }, 0) := by have := endP_held n3 n4 q x 2 (by omega); rw [he] at this; exact this
            have HE1 : Hid _ := HEnd.out _ _ x 0 hph he2
            have HE2 : Hid _ := HEnd.out q q' x m hqi he
            have HW : Hid (∀ W : World, Calls Tryd.prog 10 #[.agg (pcells { q' with forced := 2 })] W fun e w' => e = .returned (.bool true) ∧ Below W.heap.size W w') := fun W => pwell_any { q' with forced := 2 } W
            clear he he2 hph hxk hqi
            obtain ⟨cq, hcq⟩ : ∃ cq, pcells q = cq := ⟨_, rfl⟩
            obtain ⟨cp, hcp, hsp⟩ : ∃ cp, pcells { q with forced := 2 } = cp ∧ cp.size = 4 := ⟨_, rfl, rfl⟩
            obtain ⟨dq, hdq⟩ : ∃ dq, pcells q' = dq := ⟨_, rfl⟩
            obtain ⟨dp, hdp⟩ : ∃ dp, pcells { q' with forced := 2 } = dp := ⟨_, rfl⟩
            have sq : cq.size = 4 := by rw [← hcq]; rfl
            have sdq : dq.size = 4 := by rw [← hdq]; rfl
            have sdp : dp.size = 4 := by rw [← hdp]; rfl
            have HIq : Hid ((Tryd.prog.info? 25).map (·.size) = some cq.size) := by show _ = _; rw [sq]; exact infoProbing
            have HIp : Hid ((Tryd.prog.info? 25).map (·.size) = some cp.size) := by show _ = _; rw [hsp]; exact infoProbing
            have HIdq : Hid ((Tryd.prog.info? 25).map (·.size) = some dq.size) := by show _ = _; rw [sdq]; exact infoProbing
            have HIdp : Hid ((Tryd.prog.info? 25).map (·.size) = some dp.size) := by show _ = _; rw [sdp]; exact infoProbing
            have HOq : Hid (dq.all (·.oneCell') = true) := by show _ = _; rw [← hdq]; exact pcells_one _
            have HOp : Hid (dp.all (·.oneCell') = true) := by show _ = _; rw [← hdp]; exact pcells_one _
            have HS1 : Hid ((4 : Nat) = dp.size) := sdp.symm
            have HS2 : Hid (cp.size = dp.size) := hsp.trans sdp.symm
            have HS3 : Hid (cq.size = dq.size) := sq.trans sdq.symm
            have HR1 : Hid (pcells q' = dq) := hdq
            have HR2 : Hid (pcells { q' with forced := 2 } = dp) := hdp
            rw [hcp, hdp] at HE1
            rw [hcq, hdq] at HE2
            rw [hdp] at HW
            rw [hcp] at HX
            rw [hcq] at HY
            have HQ1 : Hid (q'.forced = 0) := hq0'
            have HQi : Hid (inP q') := hqi'
            clear hcq hcp hdq hdp hsp sq sdq sdp hq0' hqi' HQ0
            go_wp2_with (first | (refine wpList_load_bx rfl 23 (.tmp 3) rfl w.heap.size rfl 23 _ _ HC.out Tryd.underlying23 rfl HI.out ?_) | (refine wpList_load_bx rfl 25 (.tmp 7) rfl b7 rfl 25 _ _ HX.out Tryd.underlying25 rfl HIp.out ?_) | fail)
            refine (HE1.out _ (HT.out.below HB.out)).mono ?_
            rintro e w7 ⟨rfl, hb⟩
            have HX7 : Hid (HasBox w7 b7 25 cp) := HX.out.below hb
            have HY7 : Hid (HasBox w7 b8 25 cq) := HY.out.below hb
            have HC7 : Hid (CellsAt w7 w.heap.size cs) := HC.out.below hb
            have HB7 : Hid (Below w.heap.size w w7) := HB.out.trans (hb.mono HB.out.size)
            clear hb HX HY HC HB HE1 gx hbl
            go_upto_region 12 with (first | (refine wpList_store_row rfl 25 (.tmp 12) (.tmp 56) rfl w7.heap.size dp rfl rfl 25 _ (heap_alloc_new w7 _) HIdp.out HS1.out HOp.out ?_; generalize hW8 : World.setRow _ _ _ = W8) | fail)
            have HX8 : Hid (HasBox W8 b7 25 cp) := by show HasBox _ _ _ _; rw [← hW8]; exact (HX7.out.alloc _).rowOther (by have := HX7.out.lt; omega)
            have HY8 : Hid (HasBox W8 b8 25 cq) := by show HasBox _ _ _ _; rw [← hW8]; exact (HY7.out.alloc _).rowOther (by have := HY7.out.lt; omega)
            have HC8 : Hid (CellsAt W8 w.heap.size cs) := by show CellsAt _ _ _; rw [← hW8]; exact HasBox.rowOther (HasBox.alloc HC7.out _) (by have := HC7.out.lt; omega)
            have HZ8 : Hid (HasBox W8 w7.heap.size 25 dp) := by show HasBox _ _ _ _; rw [← hW8]; exact (hasBox_new w7 _ _).row
            have HB8 : Hid (Below w.heap.size w W8) := by show Below _ _ _; rw [← hW8]; exact below_setRow (HB7.out.alloc HB7.out.size _) HB7.out.size _
            have HN12 : Hid (b7 < w7.heap.size) := HX7.out.lt
            clear hW8 HX7 HY7 HC7 HB7 HS1
            generalize w7.heap.size = b12 at HZ8 HN12 ⊢
            go_wp2_with (first | (refine wpList_load_bx rfl 25 (.tmp 12) rfl b12 rfl 25 _ _ HZ8.out Tryd.underlying25 rfl HIdp.out ?_) | fail)
            refine (HW.out _).mono ?_
            rintro e w9 ⟨rfl, hb⟩
            have HX9 : Hid (HasBox w9 b7 25 cp) := HX8.out.below hb
            have HY9 : Hid (HasBox w9 b8 25 cq) := HY8.out.below hb
            have HC9 : Hid (CellsAt w9 w.heap.size cs) := HC8.out.below hb
            have HZ9 : Hid (HasBox w9 b12 25 dp) := HZ8.out.below hb
            have HB9 : Hid (Below w.heap.size w w9) := HB8.out.trans (hb.mono HB8.out.size)
            clear hb HX8 HY8 HC8 HZ8 HB8 HW
            go_wp2_with (first | (refine wpList_load_bx rfl 25 (.tmp 12) rfl b12 rfl 25 _ _ HZ9.out Tryd.underlying25 rfl HIdp.out ?_) | (refine wpList_store_row rfl 25 (.tmp 7) (.tmp 67) rfl b7 dp rfl rfl 25 _ HX9.out HIdp.out HS2.out HOp.out ?_; generalize hWa : World.setRow _ _ _ = Wa; have HXa : Hid (HasBox Wa b7 25 dp) := (by show HasBox _ _ _ _; rw [← hWa]; exact HasBox.row HX9.out); have HYa : Hid (HasBox Wa b8 25 cq) := (by show HasBox _ _ _ _; rw [← hWa]; exact HasBox.rowOther HY9.out (by have := HNe.out; omega)); have HCa : Hid (CellsAt Wa w.heap.size cs) := (by show CellsAt _ _ _; rw [← hWa]; exact HasBox.rowOther HC9.out (by have := HLe.out; omega)); have HBa : Hid (Below w.heap.size w Wa) := (by show Below _ _ _; rw [← hWa]; exact below_setRow HB9.out (by have := HLe.out; omega) _); clear hWa) | (refine wpList_load_bx rfl 23 (.tmp 3) rfl w.heap.size rfl 23 _ _ HCa.out Tryd.underlying23 rfl HI.out ?_) | (refine wpList_load_bx rfl 25 (.tmp 8) rfl b8 rfl 25 _ _ HYa.out Tryd.underlying25 rfl HIq.out ?_) | fail)
            refine (HE2.out _ (HT.out.below HBa.out)).mono ?_
            rintro e wb ⟨rfl, hb⟩
            have HXb : Hid (HasBox wb b7 25 dp) := HXa.out.below hb
            have HYb : Hid (HasBox wb b8 25 cq) := HYa.out.below hb
            have HCb : Hid (CellsAt wb w.heap.size cs) := HCa.out.below hb
            have HBb : Hid (Below w.heap.size w wb) := HBa.out.trans (hb.mono HBa.out.size)
            clear hb HXa HYa HCa HBa HE2 HX9 HY9 HC9 HZ9 HB9
            go_wp2_with (first | (refine wpList_store_row rfl 25 (.tmp 8) (.tmp 73) rfl b8 dq rfl rfl 25 _ HYb.out HIdq.out HS3.out HOq.out ?_) | fail)
            have HXc : Hid (HasBox (wb.setRow b8 dq) b7 25 (pcells { q' with forced := 2 })) := by rw [HR2.out]; exact HasBox.rowOther HXb.out (by have := HNe.out; omega)
            have HYc : Hid (HasBox (wb.setRow b8 dq) b8 25 (pcells q')) := by rw [HR1.out]; exact HasBox.row HYb.out
            have HCc : Hid (CellsAt (wb.setRow b8 dq) w.heap.size cs) := HasBox.rowOther HCb.out (by have h1 := HLe.out; have h2 := HNe.out; omega)
            have HBc : Hid (Below w.heap.size w (wb.setRow b8 dq)) := below_setRow HBb.out (by have h1 := HLe.out; have h2 := HNe.out; omega) _
            go_roundw
            case rel => exact ⟨k + 1, q', by omega, by go_num, HQ1.out, HQi.out, HXc.out, HYc.out, HCc.out, HBc.out⟩
            case measure => simp [intOf]; omega
          · have HFl : Hid (∀ W : World, Calls Tryd.prog 12 #[.agg (pcells { q with forced := 2 }), .int .i64 0] W fun e w' => (∃ m : Int, e = .returned (.tuple #[.agg (pcells q), .int .i64 m])) ∧ Below W.heap.size W w') := fun W => force_loose q 2 HQ0.out W
            have HEq : Hid (∀ W : World, (binOp .eql 25 (.agg (pcells q)) (.agg (pcells q))).run Tryd.prog W = .ok (.bool true) W) := run_sameP q
            obtain ⟨cq, hcq, sq⟩ : ∃ cq, pcells q = cq ∧ cq.size = 4 := ⟨_, rfl, rfl⟩
            obtain ⟨cp, hcp, sp⟩ : ∃ cp, pcells { q with forced := 2 } = cp ∧ cp.size = 4 := ⟨_, rfl, rfl⟩
            have HIq : Hid ((Tryd.prog.info? 25).map (·.size) = some cq.size) := by show _ = _; rw [sq]; exact infoProbing
            have HIp : Hid ((Tryd.prog.info? 25).map (·.size) = some cp.size) := by show _ = _; rw [sp]; exact infoProbing
            have HOq : Hid (cq.all (·.oneCell') = true) := by show _ = _; rw [← hcq]; exact pcells_one _
            have HS2 : Hid (cp.size = cq.size) := sp.trans sq.symm
            rw [hcp, hcq] at HFl
            rw [hcq] at HEq HY
            rw [hcp] at HX
            clear hcq hcp sq sp hqi
            go_wp2_with (first | (refine wpList_load_bx rfl 25 (.tmp 7) rfl b7 rfl 25 _ _ HX.out Tryd.underlying25 rfl HIp.out ?_) | fail)
            refine (HFl.out _).mono ?_
            rintro e w7 ⟨⟨m7, rfl⟩, hb⟩
            have HX7 : Hid (HasBox w7 b7 25 cp) := HX.out.below hb
            have HY7 : Hid (HasBox w7 b8 25 cq) := HY.out.below hb
            have HB7 : Hid (Below w.heap.size w w7) := HB.out.trans (hb.mono HB.out.size)
            clear hb HX HY HC HB HFl
            go_upto_region 18 with (first | (refine wpList_store_row rfl 25 (.tmp 7) (.tmp 79) rfl b7 cq rfl rfl 25 _ HX7.out HIq.out HS2.out HOq.out ?_; generalize hW8 : World.setRow _ _ _ = W8) | fail)
            have HX8 : Hid (HasBox W8 b7 25 cq) := by show HasBox _ _ _ _; rw [← hW8]; exact HasBox.row HX7.out
            have HY8 : Hid (HasBox W8 b8 25 cq) := by show HasBox _ _ _ _; rw [← hW8]; exact HasBox.rowOther HY7.out (by have := HNe.out; omega)
            have HB8 : Hid (Below w.heap.size w W8) := by show Below _ _ _; rw [← hW8]; exact below_setRow HB7.out (by have := HLe.out; omega) _
            have heq := HEq.out
            have hgd := guard_probing
            clear hW8 HX7 HY7 HB7
            go_wp2_with (first | (refine wpList_load_bx rfl 25 (.tmp 7) rfl b7 rfl 25 _ _ HX8.out Tryd.underlying25 rfl HIq.out ?_) | (refine wpList_load_bx rfl 25 (.tmp 8) rfl b8 rfl 25 _ _ HY8.out Tryd.underlying25 rfl HIq.out ?_) | fail)
            refine (awake10_any _ (HT.out.below HB8.out)).mono ?_
            rintro e w9 ⟨rfl, hb⟩
            have HB9 : Hid (Below w.heap.size w w9) := HB8.out.trans (hb.mono HB8.out.size)
            clear hb
            go_wp2
            go_ret
            exact ⟨rfl, HB9.out⟩
    · have hm' : mayC c = false := by simpa using hm
      rw [hm'] at HMay
      clear hm hm' hlen
      generalize c.arr = cs at HMay HI ⊢
      go_enter Tryd.func4, Tryd.ntmps4
      go_upto_region 1 with fail
      generalize hW0 : w.alloc _ = W0
      have HC : Hid (CellsAt W0 w.heap.size cs) := by show CellsAt _ _ _; rw [← hW0]; exact heap_alloc_new w _
      have HB : Hid (Below w.heap.size w W0) := by show Below _ _ _; rw [← hW0]; exact (Below.refl _ _).alloc (Nat.le_refl _) _
      clear hW0
      go_wp2_with (first | (refine wpList_load_bx rfl 23 (.tmp 3) rfl w.heap.size rfl 23 _ _ HC.out Tryd.underlying23 rfl HI.out ?_) | fail)
      refine (HMay.out _).mono ?_
      rintro e w1 ⟨rfl, hb⟩
      have HB1 : Hid (Below w.heap.size w w1) := HB.out.trans (hb.mono HB.out.size)
      clear hb HC HB HMay
      go_wp2_with fail
      refine (awake10_any _ (HT.out.below HB1.out)).mono ?_
      rintro e w2 ⟨rfl, hb⟩
      have HB2 : Hid (Below w.heap.size w w2) := HB1.out.trans (hb.mono HB1.out.size)
      clear hb HB1
      go_wp2
      go_ret
      exact ⟨rfl, HB2.out⟩
  · have hl1 : (100 : Int) < (l.length : Int) := by omega
    clear hlen HMay
    generalize c.arr = cs at HI ⊢
    go_enter Tryd.func4, Tryd.ntmps4
    go_upto_region 1 with fail
    generalize hW0 : w.alloc _ = W0
    have HB : Hid (Below w.heap.size w W0) := by show Below _ _ _; rw [← hW0]; exact (Below.refl _ _).alloc (Nat.le_refl _) _
    clear hW0
    go_wp2_with fail
    refine (awake10_any _ (HT.out.below HB.out)).mono ?_
    rintro e w2 ⟨rfl, hb⟩
    have HB2 : Hid (Below w.heap.size w w2) := HB.out.trans (hb.mono HB.out.size)
    clear hb HB
    go_wp2
    go_ret
    exact ⟨rfl, HB2.out⟩

theorem reads_ProbeForced (os : Os) {H : Type} (enc : TypeId × Value → H) : ∃ places, DataW.whole enc Tryd.prog ((laidWorld os).forCall (fun _ _ => 0) ⟨#[], #[.agg #[.int .i64 0, .int .i64 0, .int .i64 0, .int .i64 0, .int .i64 0, .int .i64 0, .int .i64 0, .int .i64 0, .int .i64 0, .int .i64 0, .int .i64 0, .int .i64 0, .int .i64 0, .int .i64 0, .int .i64 0, .bool false, .int .i64 0, .int .i64 0, .int .i64 0, .int .i64 0, .int .i64 0, .string ByteArray.empty, .bool false], .slice none 0 0, .int .i64 0], []⟩).memory Tryd.f4.params.toList Rows.probeForcedSpec.vars false (#[.agg #[.int .i64 0, .int .i64 0, .int .i64 0, .int .i64 0, .int .i64 0, .int .i64 0, .int .i64 0, .int .i64 0, .int .i64 0, .int .i64 0, .int .i64 0, .int .i64 0, .int .i64 0, .int .i64 0, .int .i64 0, .bool false, .int .i64 0, .int .i64 0, .int .i64 0, .int .i64 0, .int .i64 0, .string ByteArray.empty, .bool false], .slice none 0 0, .int .i64 0] : Array Value).toList 8 = some ([.agg [.lit (.int .i64 0), .lit (.int .i64 0), .lit (.int .i64 0), .lit (.int .i64 0), .lit (.int .i64 0), .lit (.int .i64 0), .lit (.int .i64 0), .lit (.int .i64 0), .lit (.int .i64 0), .lit (.int .i64 0), .lit (.int .i64 0), .lit (.int .i64 0), .lit (.int .i64 0), .lit (.int .i64 0), .lit (.int .i64 0), .lit (.bool false), .lit (.int .i64 0), .lit (.int .i64 0), .lit (.int .i64 0), .lit (.int .i64 0), .lit (.int .i64 0), .lit (.string []), .lit (.bool false)], .nil, .lit (.int .i64 0)], [], places) :=
  ⟨[], by kernel_rfl⟩

set_option maxRecDepth 100000 in
theorem lifted_ProbeForced (os : Os) (started : os.Started) (H : Type) (enc : TypeId × Value → H) (F : Stop.Interp) :
    ReturnsInHanded {} Tryd.checked os 4 .any ((OpenSpec.ofChange Rows.probeForcedSpec).preRow enc Tryd.prog Tryd.f4 Rows.probeForcedRow.domain false Rows.probeForcedRow.laid) (((OpenSpec.ofChange Rows.probeForcedSpec).at F).post enc Tryd.prog Tryd.f4 false true false false) := by
  obtain ⟨places, hx⟩ := reads_ProbeForced os enc
  refine returnsInHanded_of_row (C := Tryd.checked) (s := OpenSpec.ofChange Rows.probeForcedSpec) own started (by kernel_rfl) Tryd.func4
    (witness_row_at (enc := enc) (C := Tryd.checked) false (laidWorld os) #[.agg #[.int .i64 0, .int .i64 0, .int .i64 0, .int .i64 0, .int .i64 0, .int .i64 0, .int .i64 0, .int .i64 0, .int .i64 0, .int .i64 0, .int .i64 0, .int .i64 0, .int .i64 0, .int .i64 0, .int .i64 0, .bool false, .int .i64 0, .int .i64 0, .int .i64 0, .int .i64 0, .int .i64 0, .string ByteArray.empty, .bool false], .slice none 0 0, .int .i64 0] rfl (by kernel_rfl) (by kernel_rfl) (by kernel_rfl)
      (OpenSpec.preRow_of_cond 8 hx (by kernel_rfl) (fun k hk => by cases hk) (by kernel_rfl) (laid_met os _))) ?_
  intro W base args ds gs before hval0 hW _ _ hsz0 hL _ _
  have htab := table hL
  have hval : ∀ (j : Nat) t v, Tryd.f4.params[j]? = some t → args[j]? = some v → Value.okWide Tryd.prog W .any base t v := hval0
  have hW' := hW
  obtain ⟨p, q, hA0, hV, rfl, hfz, hnd⟩ := hW
  have hA : DataW.TrodAll enc Tryd.prog W 0 (fun _ => true) true Tryd.f4.params.toList args.toList ds p := hA0
  rw [Tryd.params4] at hA hval
  obtain ⟨v0, vs0, d0, ds0, p0, q0, hargs, rfl, rfl, h0, r0⟩ := trodAll_cons hA
  obtain ⟨v1, vs1, d1, ds1, p1, q1, rfl, rfl, rfl, h1, r1⟩ := trodAll_cons r0
  obtain ⟨v2, vs2, d2, ds2, p2, q2, rfl, rfl, rfl, h2, r2⟩ := trodAll_cons r1
  obtain ⟨rfl, rfl, rfl⟩ := trodAll_nil r2
  obtain rfl : args = #[v0, v1, v2] := by cases args; simp_all
  obtain ⟨rfl, rfl⟩ := trodVars_none hV
  have k0 := h0
  have lt0 : ∀ x ∈ p0, x.block < W.heap.size := by obtain ⟨m, hm⟩ := k0; exact DataW.trod_lt m _ _ _ hm
  obtain ⟨z0, rfl, w0⟩ := open_cfg (hval 0 23 v0 rfl rfl) h0
  have k1 := h1
  have lt1 : ∀ x ∈ p1, x.block < W.heap.size := by obtain ⟨m, hm⟩ := k1; exact DataW.trod_lt m _ _ _ hm
  obtain ⟨z1, w1⟩ := open_bools (hval 1 26 v1 rfl rfl) h1
  obtain ⟨a2, rfl, rfl, rfl, w2⟩ := open_int Tryd.underlying3 (hval 2 3 v2 rfl rfl) h2
  clear hA0 hval0
  refine (walk_ProbeForced z0 w0 z1 v1 a2 (bounds_i64 w2) W htab w1).mono fun e W' ⟨he, bel⟩ => ?_
  subst he
  exact ⟨_, rfl, _, _, _, [], _, [], hW', trodAll_mk1 (shut_bool Tryd.underlying4 _), (trodAll_cons_mk (Below.trod laidOut (by kernel_rfl) (of_decide_eq_true (by kernel_rfl)) k0 bel lt0) (trodAll_cons_mk (Below.trod laidOut (by kernel_rfl) (of_decide_eq_true (by kernel_rfl)) k1 bel lt1) (trodAll_cons_mk (shut_int Tryd.underlying3 w2) trodAll_mk0))), rfl, bel.frame _, fun h => by cases h⟩

theorem said_ProbeForced : Rows.ProbeForcedSaid :=
  OpenClaim.holds_of_cond 4 Tryd.f4 rfl rfl rfl rfl rfl rfl rfl ⟨rfl, rfl, rfl, rfl, rfl⟩ rfl rfl rfl rfl rfl (by kernel_rfl) Tryd.func4 (by kernel_rfl)
    (of_decide_eq_true (by kernel_rfl)) (by unfold Func.isWrapper; first | (rw [if_pos (by decide +kernel)]; kernel_rfl) | (rw [if_neg (by decide +kernel)]; exact ⟨rfl, rfl⟩))
    (fun os started H enc _ F => by rw [OpenClaim.pre_eq_preRow]; exact lifted_ProbeForced os started H enc F)

theorem plain_ProbeForced (f : FuncId) (fn : Func) (hf : Tryd.pinned.checked.prog.funcNamed Rows.probeForcedRow.func = some f) (hfn : Tryd.pinned.checked.prog.funcs[f]? = some fn) :
    false = Tryd.pinned.checked.prog.looks [] ∧ ∀ (j : Nat) t, fn.params[j]? = some t → Tryd.pinned.checked.prog.wantsStandIn t = false := by
  obtain rfl : f = 4 := Option.some.inj ((show Tryd.prog.funcNamed Rows.probeForcedRow.func = some 4 by kernel_rfl).symm.trans hf) |>.symm
  obtain rfl : fn = Tryd.f4 := (Option.some.inj (Tryd.func4.symm.trans hfn)).symm
  refine ⟨by kernel_rfl, fun j t ht => ?_⟩
  rw [Tryd.params4] at ht
  have hm := Array.mem_of_getElem? ht
  simp only [List.mem_toArray, List.mem_cons, List.not_mem_nil, or_false] at hm
  rcases hm with rfl | rfl | rfl
  · exact (show Tryd.prog.wantsStandIn 23 = false by kernel_rfl)
  · exact (show Tryd.prog.wantsStandIn 26 = false by kernel_rfl)
  · exact (show Tryd.prog.wantsStandIn 3 = false by kernel_rfl)

/-- The statement. -/
theorem probeForced_holds : Rows.ProbeForcedCardSaid :=
  Claim7.holds_tied_plain_at .later [] _ _ _ _ said_ProbeForced (fun _ h => by cases h) (by kernel_rfl) (fun _ h => by cases h) probeForced_row_tie rfl ⟨rfl, rfl⟩ (by kernel_rfl) rfl plain_ProbeForced (by kernel_rfl)
#print axioms probeForced_holds

end Go.Proofs.YtejjilnanmomcaaDoor

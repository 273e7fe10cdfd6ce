/-
  StreakForms, for every configuration, count, answer and row of answers: Note and All answer as the reference does. No condition on the call.
-/
import Derived.Test.YtjjehjbejldgmaaDoorStreak2
import Derived.Test.YtjjehjbejldgmaaDoorRefStreak
namespace Go.Proofs.YtjjehjbejldgmaaDoor
open Go.ChangeShapes Go.WideShapes Go.ChangeAt Go.RowKit
open Go.ChangeMaps (open_string shut_string)

set_option maxRecDepth 100000 in
set_option maxHeartbeats 8000000 in
theorem walk_StreakForms (c : Cfg) (hz : c.zone.size ≤ 9223372036854775807) (n : Int) (_ : -9223372036854775808 ≤ n ∧ n ≤ 9223372036854775807) (ok : Bool) (l : List Bool) (v : Value) (w : World) (htab : TabC w) (hl : IsBools w v l) :
    Calls Tryd.prog 3 #[.agg c.arr, .int .i64 n, .bool ok, v] w fun e w' => e = .returned (.bool true) ∧ Below w.heap.size w w' := by
  obtain ⟨ao, cap, rfl⟩ := hl.shaped
  have HT : Hid (TabC w) := htab
  have HL : Hid (IsBools w (.slice ao l.length cap) l) := hl
  clear htab hl
  have HI : Hid ((Tryd.prog.info? 23).map (·.size) = some c.arr.size) := arr_inf c
  have HZ21 : Hid (c.arr[21]? = some (.string c.zone)) := rfl
  by_cases hs : 300 < l.length ∨ 100 < c.zone.size
  · clear HL
    by_cases h1 : 300 < l.length
    · have h1' : (300 : Int) < (l.length : Int) := by omega
      clear h1 hs HZ21
      generalize c.arr = cs at HI ⊢
      go_enter Tryd.func3, Tryd.ntmps3
      go_upto_region 1 with fail
      generalize hW0 : w.alloc _ = W0
      have HB0 : Hid (Below w.heap.size w W0) := by show Below _ _ _; rw [← hW0]; exact (Below.refl _ _).alloc (Nat.le_refl _) _
      clear hW0
      go_wp2_with fail
      refine (awake11_any _ (HT.out.below HB0.out)).mono ?_
      rintro e w2 ⟨rfl, hb⟩
      have HB2 : Hid (Below w.heap.size w w2) := HB0.out.trans (hb.mono HB0.out.size)
      clear hb HB0
      go_wp2
      go_ret
      exact ⟨rfl, HB2.out⟩
    · have h1' : ¬ (300 : Int) < (l.length : Int) := by omega
      have h2' : (100 : Int) < (c.zone.size : Int) := by omega
      clear h1 hs hz
      generalize c.zone = zs at HZ21 h2'
      generalize c.arr = cs at HI HZ21 ⊢
      go_enter Tryd.func3, Tryd.ntmps3
      go_upto_region 1 with fail
      generalize hW0 : w.alloc _ = W0
      have g21 : W0.cell? ⟨w.heap.size, 21, none⟩ = some (.string zs) := by rw [← hW0]; exact (HasBox.cell (heap_alloc_new w _) 21).trans HZ21.out
      have HB0 : Hid (Below w.heap.size w W0) := by show Below _ _ _; rw [← hW0]; exact (Below.refl _ _).alloc (Nat.le_refl _) _
      clear hW0
      go_wp2_with fail
      refine (awake11_any _ (HT.out.below HB0.out)).mono ?_
      rintro e w2 ⟨rfl, hb⟩
      have HB2 : Hid (Below w.heap.size w w2) := HB0.out.trans (hb.mono HB0.out.size)
      clear hb HB0 g21
      go_wp2
      go_ret
      exact ⟨rfl, HB2.out⟩
  · have h1' : ¬ (300 : Int) < (l.length : Int) := by omega
    have h2' : ¬ (100 : Int) < (c.zone.size : Int) := by omega
    have HLen : Hid (l.length ≤ 300) := by show _ ≤ _; omega
    have HNt : Hid (∀ W : World, TabC W → Calls Tryd.prog 7 #[.agg c.arr, .int .i64 n, .bool ok] W fun e w' => e = .returned (.tuple #[.int .i64 (nextS (knownC c).f7 (capS n) ok).1, .bool (nextS (knownC c).f7 (capS n) ok).2]) ∧ Below W.heap.size W w') := fun W h => note_any c n ok W h hz
    have HSt : Hid (∀ W : World, Calls Tryd.prog 8 #[.agg c.arr, .int .i64 n, .bool ok] W fun e w' => e = .returned (.tuple #[.int .i64 (nextS (knownC c).f7 (capS n) ok).1, .bool (nextS (knownC c).f7 (capS n) ok).2]) ∧ Below W.heap.size W w') := fun W => rStreak_any c n ok W hz
    have HSk : Hid (∀ (k : Int) (o : Bool) (m : Int) (y : Bool), 0 ≤ k → k ≤ topS → nextS (knownC c).f7 k o = (m, y) → ∀ W : World, Calls Tryd.prog 8 #[.agg c.arr, .int .i64 k, .bool o] W fun e w' => e = .returned (.tuple #[.int .i64 m, .bool y]) ∧ Below W.heap.size W w') := fun k o m y k0 k1 hr W => by
      have := rStreak_any c k o W hz
      rw [capS_self k0 k1, hr] at this
      exact this
    have HAl : Hid (∀ W : World, TabC W → IsBools W (.slice ao l.length cap) l → Calls Tryd.prog 9 #[.agg c.arr, .int .i64 n, .slice ao l.length cap] W fun e w' => e = .returned (.tuple #[.int .i64 (runS (knownC c).f7 (capS n) l).1, .int .i64 (runS (knownC c).f7 (capS n) l).2]) ∧ Below W.heap.size W w') := fun W h hl => all_any c n l _ (by have := HLen.out; omega) W h hz hl
    obtain ⟨M1, hM1⟩ : ∃ M1, (if (4611686018427387904 : Int) < n then (4611686018427387904 : Int) else n) = M1 := ⟨_, rfl⟩
    have hM2 : (if (0 : Int) < M1 then M1 else 0) = capS n := by
      rw [← hM1]; unfold capS topS
      by_cases h : (4611686018427387904 : Int) < n
      · rw [if_pos h, if_pos (by decide), if_neg (by omega)]
      · rw [if_neg h]
        by_cases h' : n < 0
        · rw [if_pos h', if_neg (by omega)]
        · rw [if_neg h']
          split <;> omega
    have HIn : Hid (0 ≤ capS n ∧ capS n ≤ topS) := capS_in n
    clear hs hz
    generalize nextS (knownC c).f7 (capS n) ok = R at HNt HSt
    obtain ⟨A, Y⟩ := R
    simp only at HNt HSt
    generalize (knownC c).f7 = E at HSk HAl
    generalize capS n = m at HAl hM2 HIn
    generalize c.zone = zs at HZ21 h2'
    generalize c.arr = cs at HI HZ21 HNt HSt HSk HAl ⊢
    have HM1 : Hid _ := hM1
    have HM2 : Hid _ := hM2
    clear hM1 hM2
    go_enter Tryd.func3, Tryd.ntmps3
    go_upto_region 1 with fail
    generalize hW0 : w.alloc _ = W0
    have HC0 : Hid (CellsAt W0 w.heap.size cs) := by show CellsAt _ _ _; rw [← hW0]; exact heap_alloc_new w _
    have HB0 : Hid (Below w.heap.size w W0) := by show Below _ _ _; rw [← hW0]; exact (Below.refl _ _).alloc (Nat.le_refl _) _
    have g21 : W0.cell? ⟨w.heap.size, 21, none⟩ = some (.string zs) := (HasBox.cell HC0.out 21).trans HZ21.out
    clear hW0
    go_wp2_with (first | (refine wpList_load_bx rfl 23 (.tmp 4) rfl w.heap.size rfl 23 _ _ HC0.out Tryd.underlying23 rfl HI.out ?_) | fail)
    clear g21 h1' h2' HZ21
    refine (HNt.out _ (HT.out.below HB0.out)).mono ?_
    rintro e w1 ⟨rfl, hb⟩
    have HC1 : Hid (CellsAt w1 w.heap.size cs) := HC0.out.below hb
    have HB1 : Hid (Below w.heap.size w w1) := HB0.out.trans (hb.mono HB0.out.size)
    clear hb HC0 HB0 HNt
    go_wp2_with (first | (refine wpList_load_bx rfl 23 (.tmp 4) rfl w.heap.size rfl 23 _ _ HC1.out Tryd.underlying23 rfl HI.out ?_) | fail)
    refine (HSt.out _).mono ?_
    rintro e w2 ⟨rfl, hb⟩
    have HC2 : Hid (CellsAt w2 w.heap.size cs) := HC1.out.below hb
    have HB2 : Hid (Below w.heap.size w w2) := HB1.out.trans (hb.mono HB1.out.size)
    have hM1 := HM1.out
    have hM2 := HM2.out
    clear hb HC1 HB1 HSt HM1 HM2
    go_wp2
    clear hM1 hM2
    go_loopw [13, 14, 50] (fun a t i wr => ∃ k : Nat, k ≤ l.length ∧ i = .int .i64 k ∧ a = .int .i64 (runS E m (l.take k)).1 ∧ t = .int .i64 (runS E m (l.take k)).2 ∧ CellsAt wr w.heap.size cs ∧ Below w.heap.size w wr) (fun _ _ i _ => l.length - (intOf i).toNat)
    case atStart => exact ⟨0, Nat.zero_le _, rfl, rfl, rfl, HC2.out, HB2.out⟩
    case round =>
      obtain ⟨k, hk, rfl, rfl, rfl, hc, hb⟩ := hrel
      have HC : Hid (CellsAt wr w.heap.size cs) := hc
      have HB : Hid (Below w.heap.size w wr) := hb
      clear hc hb HC2 HB2
      obtain ⟨⟨b0, b1⟩, b2, b3⟩ := runS_upto E m l k hk HIn.out.1 HIn.out.2
      by_cases hlt : k < l.length
      · obtain ⟨bl, ol, rfl, hbl, gx⟩ := (HL.out.below HB.out).at k hlt
        have HS : Hid (runS E m (l.take (k + 1)) = oneS E (runS E m (l.take k)) (l.getD k false)) := runS_next E m l k hlt
        generalize l.getD k false = x at gx HS
        obtain ⟨⟨M, y⟩, hr⟩ : ∃ r, nextS E (runS E m (l.take k)).1 x = r := ⟨_, rfl⟩
        have HCl : Hid _ := HSk.out _ x M y b0 b1 hr
        have HR : Hid (nextS E (runS E m (l.take k)).1 x = (M, y)) := hr
        have hlen := HLen.out
        have HSw : Hid (IntKind.i64.wrap ((runS E m (l.take k)).2 + 1) = (runS E m (l.take k)).2 + 1) := wrap_in (by omega) (by omega)
        have HS2 : Hid (runS E m (l.take k) = ((runS E m (l.take k)).1, (runS E m (l.take k)).2)) := rfl
        clear hr b0 b1 b2 b3
        rw [HS2.out] at HS
        clear HS2
        generalize (runS E m (l.take k)).1 = a at *
        generalize (runS E m (l.take k)).2 = t at *
        go_wp2_with (first | (refine wpList_load_bx rfl 23 (.tmp 4) rfl w.heap.size rfl 23 _ _ HC.out Tryd.underlying23 rfl HI.out ?_) | fail)
        refine (HCl.out _).mono ?_
        rintro e w3 ⟨rfl, hb⟩
        have HC3 : Hid (CellsAt w3 w.heap.size cs) := HC.out.below hb
        have HB3 : Hid (Below w.heap.size w w3) := HB.out.trans (hb.mono HB.out.size)
        clear hb HC HB gx hbl HCl
        cases y with
        | true =>
          have e := HS.out.trans (oneS_yes HR.out)
          have hsw := HSw.out
          clear HSw HS HR
          go_wp2
          go_roundw
          case rel => exact ⟨k + 1, by omega, by go_num, by rw [e], by rw [e], HC3.out, HB3.out⟩
          case measure => simp [intOf]; omega
        | false =>
          have e := HS.out.trans (oneS_no HR.out)
          clear HSw HS HR
          go_wp2
          go_roundw
          case rel => exact ⟨k + 1, by omega, by go_num, by rw [e], by rw [e], HC3.out, HB3.out⟩
          case measure => simp [intOf]; omega
      · have hk2 : l.take k = l := List.take_of_length_le (by omega)
        rw [hk2]
        clear hk2 b0 b1 b2 b3
        have HLr : Hid (IsBools wr (.slice ao l.length cap) l) := HL.out.below HB.out
        generalize (runS E m l).1 = P at *
        generalize (runS E m l).2 = Q at *
        go_wp2_with (first | (refine wpList_load_bx rfl 23 (.tmp 4) rfl w.heap.size rfl 23 _ _ HC.out Tryd.underlying23 rfl HI.out ?_) | fail)
        refine (HAl.out _ (HT.out.below HB.out) HLr.out).mono ?_
        rintro e w4 ⟨rfl, hb⟩
        have HB4 : Hid (Below w.heap.size w w4) := HB.out.trans (hb.mono HB.out.size)
        clear hb HC HB HLr
        go_wp2_with fail
        refine (awake11_any _ (HT.out.below HB4.out)).mono ?_
        rintro e w5 ⟨rfl, hb⟩
        have HB5 : Hid (Below w.heap.size w w5) := HB4.out.trans (hb.mono HB4.out.size)
        clear hb HB4
        go_wp2
        go_ret
        exact ⟨rfl, HB5.out⟩

theorem reads_StreakForms (os : Os) {H : Type} (enc : TypeId × Value → H) : ∃ places, DataW.whole enc Tryd.prog ((laidWorld os).forCall (fun _ _ => 0) ⟨#[], #[.agg #[.int .i64 0, .int .i64 0, .int .i64 0, .int .i64 0, .int .i64 0, .int .i64 0, .int .i64 0, .int .i64 0, .int .i64 0, .int .i64 0, .int .i64 0, .int .i64 0, .int .i64 0, .int .i64 0, .int .i64 0, .bool false, .int .i64 0, .int .i64 0, .int .i64 0, .int .i64 0, .int .i64 0, .string ByteArray.empty, .bool false], .int .i64 0, .bool false, .slice none 0 0], []⟩).memory Tryd.f3.params.toList Rows.streakFormsSpec.vars false (#[.agg #[.int .i64 0, .int .i64 0, .int .i64 0, .int .i64 0, .int .i64 0, .int .i64 0, .int .i64 0, .int .i64 0, .int .i64 0, .int .i64 0, .int .i64 0, .int .i64 0, .int .i64 0, .int .i64 0, .int .i64 0, .bool false, .int .i64 0, .int .i64 0, .int .i64 0, .int .i64 0, .int .i64 0, .string ByteArray.empty, .bool false], .int .i64 0, .bool false, .slice none 0 0] : Array Value).toList 8 = some ([.agg [.lit (.int .i64 0), .lit (.int .i64 0), .lit (.int .i64 0), .lit (.int .i64 0), .lit (.int .i64 0), .lit (.int .i64 0), .lit (.int .i64 0), .lit (.int .i64 0), .lit (.int .i64 0), .lit (.int .i64 0), .lit (.int .i64 0), .lit (.int .i64 0), .lit (.int .i64 0), .lit (.int .i64 0), .lit (.int .i64 0), .lit (.bool false), .lit (.int .i64 0), .lit (.int .i64 0), .lit (.int .i64 0), .lit (.int .i64 0), .lit (.int .i64 0), .lit (.string []), .lit (.bool false)], .lit (.int .i64 0), .lit (.bool false), .nil], [], places) :=
  ⟨[], by kernel_rfl⟩

set_option maxRecDepth 100000 in
theorem lifted_StreakForms (os : Os) (started : os.Started) (H : Type) (enc : TypeId × Value → H) (F : Stop.Interp) :
    ReturnsInHanded {} Tryd.checked os 3 .any ((OpenSpec.ofChange Rows.streakFormsSpec).preRow enc Tryd.prog Tryd.f3 Rows.streakFormsRow.domain false Rows.streakFormsRow.laid) (((OpenSpec.ofChange Rows.streakFormsSpec).at F).post enc Tryd.prog Tryd.f3 false true false false) := by
  obtain ⟨places, hx⟩ := reads_StreakForms os enc
  refine returnsInHanded_of_row (C := Tryd.checked) (s := OpenSpec.ofChange Rows.streakFormsSpec) own started (by kernel_rfl) Tryd.func3
    (witness_row_at (enc := enc) (C := Tryd.checked) false (laidWorld os) #[.agg #[.int .i64 0, .int .i64 0, .int .i64 0, .int .i64 0, .int .i64 0, .int .i64 0, .int .i64 0, .int .i64 0, .int .i64 0, .int .i64 0, .int .i64 0, .int .i64 0, .int .i64 0, .int .i64 0, .int .i64 0, .bool false, .int .i64 0, .int .i64 0, .int .i64 0, .int .i64 0, .int .i64 0, .string ByteArray.empty, .bool false], .int .i64 0, .bool false, .slice none 0 0] rfl (by kernel_rfl) (by kernel_rfl) (by kernel_rfl)
      (OpenSpec.preRow_of_cond 8 hx (by kernel_rfl) (fun k hk => by cases hk) (by kernel_rfl) (laid_met os _))) ?_
  intro W base args ds gs before hval0 hW _ _ hsz0 hL _ _
  have htab := table hL
  have hval : ∀ (j : Nat) t v, Tryd.f3.params[j]? = some t → args[j]? = some v → Value.okWide Tryd.prog W .any base t v := hval0
  have hW' := hW
  obtain ⟨p, q, hA0, hV, rfl, hfz, hnd⟩ := hW
  have hA : DataW.TrodAll enc Tryd.prog W 0 (fun _ => true) true Tryd.f3.params.toList args.toList ds p := hA0
  rw [Tryd.params3] at hA hval
  obtain ⟨v0, vs0, d0, ds0, p0, q0, hargs, rfl, rfl, h0, r0⟩ := trodAll_cons hA
  obtain ⟨v1, vs1, d1, ds1, p1, q1, rfl, rfl, rfl, h1, r1⟩ := trodAll_cons r0
  obtain ⟨v2, vs2, d2, ds2, p2, q2, rfl, rfl, rfl, h2, r2⟩ := trodAll_cons r1
  obtain ⟨v3, vs3, d3, ds3, p3, q3, rfl, rfl, rfl, h3, r3⟩ := trodAll_cons r2
  obtain ⟨rfl, rfl, rfl⟩ := trodAll_nil r3
  obtain rfl : args = #[v0, v1, v2, v3] := by cases args; simp_all
  obtain ⟨rfl, rfl⟩ := trodVars_none hV
  have k0 := h0
  have lt0 : ∀ x ∈ p0, x.block < W.heap.size := by obtain ⟨m, hm⟩ := k0; exact DataW.trod_lt m _ _ _ hm
  obtain ⟨z0, rfl, w0⟩ := open_cfg (hval 0 23 v0 rfl rfl) h0
  obtain ⟨a1, rfl, rfl, rfl, w1⟩ := open_int Tryd.underlying3 (hval 1 3 v1 rfl rfl) h1
  obtain ⟨a2, rfl, rfl, rfl⟩ := open_bool Tryd.underlying4 (hval 2 4 v2 rfl rfl) h2
  have k3 := h3
  have lt3 : ∀ x ∈ p3, x.block < W.heap.size := by obtain ⟨m, hm⟩ := k3; exact DataW.trod_lt m _ _ _ hm
  obtain ⟨z3, w3⟩ := open_bools (hval 3 24 v3 rfl rfl) h3
  clear hA0 hval0
  refine (walk_StreakForms z0 w0 a1 (bounds_i64 w1) a2 z3 v3 W htab w3).mono fun e W' ⟨he, bel⟩ => ?_
  subst he
  exact ⟨_, rfl, _, _, _, [], _, [], hW', trodAll_mk1 (shut_bool Tryd.underlying4 _), (trodAll_cons_mk (Below.trod laidOut (by kernel_rfl) (of_decide_eq_true (by kernel_rfl)) k0 bel lt0) (trodAll_cons_mk (shut_int Tryd.underlying3 w1) (trodAll_cons_mk (shut_bool Tryd.underlying4 a2) (trodAll_cons_mk (Below.trod laidOut (by kernel_rfl) (of_decide_eq_true (by kernel_rfl)) k3 bel lt3) trodAll_mk0)))), rfl, bel.frame _, fun h => by cases h⟩

theorem said_StreakForms : Rows.StreakFormsSaid :=
  OpenClaim.holds_of_cond 3 Tryd.f3 rfl rfl rfl rfl rfl rfl rfl ⟨rfl, rfl, rfl, rfl, rfl⟩ rfl rfl rfl rfl rfl (by kernel_rfl) Tryd.func3 (by kernel_rfl)
    (of_decide_eq_true (by kernel_rfl)) (by unfold Func.isWrapper; first | (rw [if_pos (by decide +kernel)]; kernel_rfl) | (rw [if_neg (by decide +kernel)]; exact ⟨rfl, rfl⟩))
    (fun os started H enc _ F => by rw [OpenClaim.pre_eq_preRow]; exact lifted_StreakForms os started H enc F)

theorem plain_StreakForms (f : FuncId) (fn : Func) (hf : Tryd.pinned.checked.prog.funcNamed Rows.streakFormsRow.func = some f) (hfn : Tryd.pinned.checked.prog.funcs[f]? = some fn) :
    false = Tryd.pinned.checked.prog.looks [] ∧ ∀ (j : Nat) t, fn.params[j]? = some t → Tryd.pinned.checked.prog.wantsStandIn t = false := by
  obtain rfl : f = 3 := Option.some.inj ((show Tryd.prog.funcNamed Rows.streakFormsRow.func = some 3 by kernel_rfl).symm.trans hf) |>.symm
  obtain rfl : fn = Tryd.f3 := (Option.some.inj (Tryd.func3.symm.trans hfn)).symm
  refine ⟨by kernel_rfl, fun j t ht => ?_⟩
  rw [Tryd.params3] at ht
  have hm := Array.mem_of_getElem? ht
  simp only [List.mem_toArray, List.mem_cons, List.not_mem_nil, or_false] at hm
  rcases hm with rfl | rfl | rfl | rfl
  · exact (show Tryd.prog.wantsStandIn 23 = false by kernel_rfl)
  · exact (show Tryd.prog.wantsStandIn 3 = false by kernel_rfl)
  · exact (show Tryd.prog.wantsStandIn 4 = false by kernel_rfl)
  · exact (show Tryd.prog.wantsStandIn 24 = false by kernel_rfl)

/-- The statement. -/
theorem streakForms_holds : Rows.StreakFormsCardSaid :=
  Claim7.holds_tied_plain_at .later [] _ _ _ _ said_StreakForms (fun _ h => by cases h) (by kernel_rfl) (fun _ h => by cases h) streakForms_row_tie rfl ⟨rfl, rfl⟩ (by kernel_rfl) rfl plain_StreakForms (by kernel_rfl)
#print axioms streakForms_holds

end Go.Proofs.YtjjehjbejldgmaaDoor

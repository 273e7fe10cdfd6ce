/-
  Proved: triagelaw4.TurnForms returns true for every four ints, every text and every byte, and changes nothing that was there. No condition.
-/
import Derived.Test.YtcpajkhefhnmeaaTurnFrame
namespace Go.Proofs.Ytcpajkhefhnmeaa
open Go.ChangeShapes Go.WideShapes Go.ChangeAt Go.RowKit
open Go.ChangeMaps (open_string shut_string)

theorem turn_at (n f : Int) (i : Nat) (h : i < (turnV n f).length) : (turnV n f).getD i 0 = (drawV f n + (i : Int)) % n := by
  rw [turnV_length] at h
  unfold turnV; simp [h]

/-- The first 300 times. -/
theorem times_spec (f st to : Int) (h1 : 1 ≤ st) (h2 : 0 ≤ f) (h3 : to ≤ 4611686018427387904) (h4 : f ≤ to) :
    0 < ((timesV f st to).take 300).length ∧ ((timesV f st to).take 300).length ≤ 300 ∧ (∀ i, i < ((timesV f st to).take 300).length → 0 ≤ ((timesV f st to).take 300).getD i 0 ∧ ((timesV f st to).take 300).getD i 0 ≤ to) ∧
    ((timesV f st to).take 300).getD 0 0 = f ∧ (∀ i, i + 1 < ((timesV f st to).take 300).length → ((timesV f st to).take 300).getD (i + 1) 0 - ((timesV f st to).take 300).getD i 0 = st) ∧
    (((timesV f st to).take 300).length = 300 ∨ to - ((timesV f st to).take 300).getD (((timesV f st to).take 300).length - 1) 0 < st) := by
  have hR : timesN f st to = ((to - f) / st).toNat + 1 := by unfold timesN; rw [if_neg (by omega)]
  have hq := Int.ediv_nonneg (show (0 : Int) ≤ to - f by omega) (show (0 : Int) ≤ st by omega)
  have hlen : ((timesV f st to).take 300).length = min 300 (timesN f st to) := by rw [List.length_take, timesV_length]
  have hat : ∀ i, i < ((timesV f st to).take 300).length → ((timesV f st to).take 300).getD i 0 = f + (i : Int) * st := fun i hi => by
    rw [hlen] at hi
    rw [List.getD_eq_getElem?_getD, List.getElem?_take, if_pos (by omega)]
    unfold timesV
    rw [List.getElem?_map, List.getElem?_range (by omega)]
    rfl
  refine ⟨by omega, by omega, fun i hi => ?_, ?_, fun i hi => ?_, ?_⟩
  · rw [hat i hi]
    have h5 := timesN_in f st to i (by omega)
    have h6 : 0 ≤ (i : Int) * st := Int.mul_nonneg (by omega) (by omega)
    omega
  · rw [hat 0 (by omega)]; simp
  · rw [hat (i + 1) hi, hat i (by omega)]
    have : ((i + 1 : Nat) : Int) * st = (i : Int) * st + st := by rw [Int.natCast_add, Int.add_mul]; simp
    omega
  · rcases Nat.lt_or_ge (timesN f st to) 300 with h | h
    · right
      rw [hat _ (by omega), hlen, Nat.min_eq_right (by omega), hR]
      have h5 : ((((to - f) / st).toNat + 1 - 1 : Nat) : Int) = (to - f) / st := by omega
      rw [h5]
      have h6 := Int.lt_ediv_add_one_mul_self (to - f) (show (0 : Int) < st by omega)
      rw [Int.add_mul] at h6
      omega
    · left; omega
theorem times_bad (f st to : Int) (h : st < 1 ∨ f < 0 ∨ 4611686018427387904 < to ∨ to < f) : (timesV f st to).take 300 = [] := by unfold timesV timesN; rw [if_pos h]; rfl

set_option maxRecDepth 100000 in
set_option maxHeartbeats 4000000 in
theorem walk_TurnForms (n : Int) (wn : -9223372036854775808 ≤ n ∧ n ≤ 9223372036854775807) (f : Int) (wf : -9223372036854775808 ≤ f ∧ f ≤ 9223372036854775807) (st : Int) (ws : -9223372036854775808 ≤ st ∧ st ≤ 9223372036854775807)
    (to : Int) (wt : -9223372036854775808 ≤ to ∧ to ≤ 9223372036854775807) (s : ByteArray) (hs : s.size ≤ maxLen) (c : Int) (hc : 0 ≤ c ∧ c ≤ 255) (w : World) :
    Calls Try.prog 3 #[.int .i64 n, .int .i64 f, .int .i64 st, .int .i64 to, .string s, .int .u8 c] w fun e w' => e = .returned (.bool true) ∧ Below w.heap.size w w' := by
  unfold maxLen at hs
  by_cases hb0 : (500 : Int) < n ∨ (1000 : Int) < (s.size : Int)
  · by_cases hb1 : (500 : Int) < n
    all_goals
      first | have hb2 : (1000 : Int) < (s.size : Int) := (by omega) | skip
      go_enter Try.func3, Try.ntmps3
      go_wp2_with fail
      refine (awake_any _).mono ?_
      rintro e w9 ⟨rfl, hb9⟩
      have HB : Hid (Below w.heap.size w w9) := hb9
      clear hb9
      go_wp2
      go_ret
      exact ⟨rfl, HB.out⟩
  · have hb1 : ¬ (500 : Int) < n := by omega
    have hb2 : ¬ (1000 : Int) < (s.size : Int) := by omega
    clear hb0
    go_enter Try.func3, Try.ntmps3
    go_wp2_with fail
    refine (turn_any n f _ (by omega) (by omega) (by omega) (by omega)).mono ?_
    rintro e w1 ⟨v1, rfl, hq1, hb1'⟩
    have HQ1 : Hid (IsSeq Try.prog encI w.heap.size w1 v1 (turnV n f)) := hq1
    have HB1 : Hid (Below w.heap.size w w1) := hb1'
    clear hq1 hb1'
    have hTl : (turnV n f).length = n.toNat := turnV_length n f
    go_wp2_with fail
    refine (row_to v1 _ (turnV n f) 600 _ _ HQ1.out (by omega) (turnV_bd _ _ (by omega)) (List.take_of_length_le (by rw [hTl]; show n.toNat ≤ 600; omega))).mono ?_
    rintro e w2 ⟨v2, rfl, hk2, hb2'⟩
    obtain ⟨ao, ac, rfl⟩ := hk2.shape
    have HK2 : Hid (IsInts w2 (.slice ao (turnV n f).length ac) (turnV n f)) := hk2
    have HB2 : Hid (Below w.heap.size w w2) := HB1.out.trans (hb2'.mono HB1.out.size)
    have HAt : Hid (∀ i, i < (turnV n f).length → (turnV n f).getD i 0 = (drawV f n + (i : Int)) % n) := turn_at n f
    clear hk2 hb2' HQ1 HB1
    have hmx : ((turnV n f).length : Int) = max 0 n := by rw [hTl]; omega
    generalize turnV n f = B at HK2 HAt hTl hmx ⊢
    have HTl : Hid (B.length = n.toNat) := hTl
    have HMx : Hid ((B.length : Int) = max 0 n) := hmx
    clear hTl hmx
    have key : (n ≤ 0 ∧ ((B.length : Int) != 0) = false) ∨ (¬ n ≤ 0 ∧ ((B.length : Int) != n) = false) := by
      have h := HTl.out
      simp only [bne_eq_false_iff_eq]
      omega
    have hpar := fun W => parts_any s c W (by omega) hc.1 hc.2
    have hrpar := fun W => rParts_any s c W (by omega)
    have HPl : Hid ((partsV s c).length ≤ 1001) := by show _ ≤ _; have := partsV_length s c; omega
    generalize partsV s c = P at hpar hrpar HPl
    have HPar : Hid _ := hpar
    have HRPar : Hid _ := hrpar
    clear hpar hrpar
    rcases key with ⟨hn, hne⟩ | ⟨hn, hne⟩
    all_goals
      go_wp2
      clear hne
      go_loopw [41] (fun q wr => ∃ i : Nat, i ≤ B.length ∧ q = .int .i64 i ∧ Below w2.heap.size w2 wr) (fun q _ => B.length - (intOf q).toNat)
      case atStart => exact ⟨0, Nat.zero_le _, rfl, Below.refl _ _⟩
      case round =>
        obtain ⟨i, hi, rfl, hb⟩ := hrel
        have HBr : Hid (Below w2.heap.size w2 wr) := hb
        clear hb
        by_cases hlt : i < B.length
        · obtain ⟨b1, o1, rfl, hl1, g1⟩ := (HK2.out.below HBr.out).at i hlt
          have hn1 : 1 ≤ n := by have := HTl.out; omega
          have hx := HAt.out i hlt
          have hd : 0 ≤ drawV f n ∧ drawV f n < n := by
            unfold drawV; rw [if_neg (by omega)]
            exact ⟨Int.emod_nonneg _ (by omega), Int.emod_lt_of_pos _ (by omega)⟩
          have hx2 : (drawV f n + (i : Int)).tmod n = B.getD i 0 := by
            rw [hx, Int.tmod_eq_emod_of_nonneg (by omega)]
          have HX : Hid ((drawV f n + (i : Int)).tmod n = B.getD i 0 ∧ (drawV f n + (i : Int)) % n = B.getD i 0) := ⟨hx2, hx.symm⟩
          have hi5 : B.length ≤ 500 := by have := HTl.out; omega
          have hdr := fun W => rDraw_any f n W (by omega)
          clear hx hx2 hn
          generalize drawV f n = d at hd HX hdr
          generalize B.getD i 0 = x at g1 HX
          go_wp2_with fail
          refine (hdr _).mono ?_
          rintro e wd ⟨rfl, hwd⟩
          subst wd
          obtain ⟨hx3, hx4⟩ := HX.out
          go_wp2
          go_roundw
          case rel => exact ⟨i + 1, by omega, by go_num, HBr.out⟩
          case measure => simp [intOf]; omega
        · clear hn
          have HB3 : Hid (Below w.heap.size w wr) := HB2.out.trans (HBr.out.mono HB2.out.size)
          clear HBr HB2 HK2 HAt
          generalize wr = w3 at HB3 ⊢
          go_wp2_with fail
          refine (HPar.out _).mono ?_
          rintro e w4 ⟨v4, rfl, hk4, hb4⟩
          obtain ⟨po, pc, rfl⟩ := hk4.shape
          have HK4 : Hid (IsRow 1 w4 (.slice po P.length pc) P.length (P.map Value.string)) := hk4
          have HB4 : Hid (Below w.heap.size w w4) := HB3.out.trans (hb4.mono HB3.out.size)
          clear hk4 hb4 HB3
          go_wp2_with fail
          refine (HRPar.out _).mono ?_
          rintro e w5 ⟨v5, rfl, hk5, hb5⟩
          obtain ⟨qo, qc, rfl⟩ := hk5.shape
          have HK5 : Hid (IsRow 1 w5 (.slice qo P.length qc) P.length (P.map Value.string)) := hk5
          have HK4' : Hid (IsRow 1 w5 (.slice po P.length pc) P.length (P.map Value.string)) := HK4.out.below hb5
          have HB5 : Hid (Below w.heap.size w w5) := HB4.out.trans (hb5.mono HB4.out.size)
          clear hk5 hb5 HB4 HK4
          have hpl : P.length ≤ 1001 := HPl.out
          go_wp2
          go_loopw [69] (fun q wr => ∃ i : Nat, i ≤ P.length ∧ q = .int .i64 i ∧ Below w5.heap.size w5 wr) (fun q _ => P.length - (intOf q).toNat)
          case atStart => exact ⟨0, Nat.zero_le _, rfl, Below.refl _ _⟩
          case round =>
            obtain ⟨i2, hi2, rfl, hb⟩ := hrel
            have HBr : Hid (Below w5.heap.size w5 wr) := hb
            clear hb
            by_cases hlt2 : i2 < P.length
            · obtain ⟨b1, o1, rfl, hl1, g1⟩ := (HK4'.out.below HBr.out).strAt i2 hlt2
              obtain ⟨b2, o2, rfl, hl2, g2⟩ := (HK5.out.below HBr.out).strAt i2 hlt2
              generalize P.getD i2 ByteArray.empty = x at g1 g2
              go_wp2
              go_quiet (fail)
              go_wp2
              go_roundw
              case rel => exact ⟨i2 + 1, by omega, by go_num, below_drewN HBr.out _⟩
              case measure => simp [intOf]; omega
            · have HB6 : Hid (Below w.heap.size w wr) := HB5.out.trans (HBr.out.mono HB5.out.size)
              clear HBr HB5 HK4' HK5 HPl HPar HRPar
              generalize wr = w6 at HB6 ⊢
              go_wp2_with fail
              refine (times_any f st to _ wf.1 wf.2 ws.1 ws.2 wt.1 wt.2).mono ?_
              rintro e w7 ⟨v7, rfl, hq7, hb7⟩
              have HQ7 : Hid (IsSeq Try.prog encI w6.heap.size w7 v7 (timesV f st to)) := hq7
              have HB7 : Hid (Below w.heap.size w w7) := HB6.out.trans (hb7.mono HB6.out.size)
              clear hq7 hb7 HB6
              go_wp2_with fail
              refine (row_to v7 _ ((timesV f st to).take 300) 300 _ _ HQ7.out (by omega) (timesV_bd _ _ _) rfl).mono ?_
              rintro e w8 ⟨v8, rfl, hk8, hb8⟩
              obtain ⟨to', tc, rfl⟩ := hk8.shape
              have HK8 : Hid (IsInts w8 (.slice to' ((timesV f st to).take 300).length tc) ((timesV f st to).take 300)) := hk8
              have HB8 : Hid (Below w.heap.size w w8) := HB7.out.trans (hb8.mono HB7.out.size)
              clear hk8 hb8 HB7 HQ7
              have HSp := times_spec f st to
              have HBa := times_bad f st to
              have HSp' : Hid _ := HSp
              have HBa' : Hid _ := HBa
              clear HSp HBa
              generalize (timesV f st to).take 300 = Tm at HK8 HSp' HBa' ⊢
              by_cases bad : st < 1 ∨ f < 0 ∨ 4611686018427387904 < to ∨ to < f
              · have e := HBa'.out bad
                subst e
                clear HK8 HSp' HBa'
                have cases4 : (st < 1) ∨ (¬ st < 1 ∧ f < 0) ∨ (¬ st < 1 ∧ ¬ f < 0 ∧ 4611686018427387904 < to) ∨ (¬ st < 1 ∧ ¬ f < 0 ∧ ¬ 4611686018427387904 < to ∧ to < f) := by omega
                clear bad
                rcases cases4 with z1 | ⟨z1, z2⟩ | ⟨z1, z2, z3⟩ | ⟨z1, z2, z3, z4⟩
                all_goals
                  go_wp2_with fail
                  refine (awake_any _).mono ?_
                  rintro e wz ⟨rfl, hbz⟩
                  have HE : Hid (Below w.heap.size w wz) := HB8.out.trans (hbz.mono HB8.out.size)
                  clear hbz
                  go_wp2
                  go_ret
                  exact ⟨rfl, HE.out⟩
              · obtain ⟨t1, t2, t3, t4, t5, t6⟩ := HSp'.out (by omega) (by omega) (by omega) (by omega)
                have T3 : Hid (∀ i, i < Tm.length → 0 ≤ Tm.getD i 0 ∧ Tm.getD i 0 ≤ to) := t3
                have T4 : Hid (Tm.getD 0 0 = f) := t4
                have T5 : Hid (∀ i, i + 1 < Tm.length → Tm.getD (i + 1) 0 - Tm.getD i 0 = st) := t5
                have T6 : Hid (Tm.length = 300 ∨ to - Tm.getD (Tm.length - 1) 0 < st) := t6
                have z1 : ¬ st < 1 := by omega
                have z2 : ¬ f < 0 := by omega
                have z3 : ¬ 4611686018427387904 < to := by omega
                have z4 : ¬ to < f := by omega
                clear t3 t4 t5 t6 bad HSp' HBa'
                go_wp2
                go_loopw [110] (fun q wr => ∃ i : Nat, i ≤ Tm.length ∧ q = .int .i64 i ∧ Below w8.heap.size w8 wr) (fun q _ => Tm.length - (intOf q).toNat)
                case atStart => exact ⟨0, Nat.zero_le _, rfl, Below.refl _ _⟩
                case round =>
                  obtain ⟨i3, hi3, rfl, hb⟩ := hrel
                  have HBr : Hid (Below w8.heap.size w8 wr) := hb
                  clear hb
                  by_cases hlt3 : i3 < Tm.length
                  · obtain ⟨b1, o1, rfl, hl1, g1⟩ := (HK8.out.below HBr.out).at i3 hlt3
                    obtain ⟨x0, x1⟩ := T3.out i3 hlt3
                    by_cases h0 : i3 = 0
                    · subst h0
                      have hx4 := T4.out
                      rw [hx4] at g1 x0 x1
                      simp only [Nat.add_zero] at g1
                      clear hx4
                      go_wp2
                      go_roundw
                      case rel => exact ⟨1, by omega, by go_num, HBr.out⟩
                      case measure => simp [intOf]; omega
                    · obtain ⟨E, rfl⟩ : ∃ E, i3 = E + 1 := ⟨i3 - 1, by omega⟩
                      obtain ⟨b2, o2, e, hl2, g2⟩ := (HK8.out.below HBr.out).at E (by omega)
                      simp only [Option.some.injEq, Addr.mk.injEq, and_true] at e
                      obtain ⟨rfl, rfl⟩ := e
                      obtain ⟨y0, y1⟩ := T3.out E (by omega)
                      have hd := T5.out E hlt3
                      generalize Tm.getD (E + 1) 0 = x at g1 x0 x1 hd
                      generalize Tm.getD E 0 = y at g2 y0 y1 hd
                      obtain ⟨I, hI⟩ : ∃ I, I = E + 1 := ⟨_, rfl⟩
                      rw [← hI] at g1 hlt3 hi3 ⊢
                      have e1 : (I : Int) - 1 = (E : Int) := by omega
                      have n0 : (0 : Int) < (I : Int) := by omega
                      have n1 : E < Tm.length := by omega
                      have n2 : ¬ (I = 0) := by omega
                      have n3 : ((I : Int) == 0) = false := by simp; omega
                      have HI : Hid (I = E + 1) := hI
                      clear hI h0
                      go_wp2
                      go_roundw
                      case rel => exact ⟨I + 1, by omega, by go_num, HBr.out⟩
                      case measure => simp [intOf]; omega
                  · have HB9 : Hid (Below w.heap.size w wr) := HB8.out.trans (HBr.out.mono HB8.out.size)
                    have n0 : (0 : Int) < (Tm.length : Int) := by omega
                    have key3 : (((Tm.length : Int) == 300) = true) ∨ (((Tm.length : Int) == 300) = false ∧ to - Tm.getD (Tm.length - 1) 0 < st) := by
                      rcases T6.out with h | h
                      · left; rw [h]; rfl
                      · by_cases h3 : Tm.length = 300
                        · left; rw [h3]; rfl
                        · right; exact ⟨by simp; omega, h⟩
                    rcases key3 with h3 | ⟨h3, h4⟩
                    · go_wp2_with fail
                      refine (awake_any _).mono ?_
                      rintro e wz ⟨rfl, hbz⟩
                      have HE : Hid (Below w.heap.size w wz) := HB9.out.trans (hbz.mono HB9.out.size)
                      clear hbz
                      go_wp2
                      go_ret
                      exact ⟨rfl, HE.out⟩
                    · obtain ⟨E, hE⟩ : ∃ E, E = Tm.length - 1 := ⟨_, rfl⟩
                      rw [← hE] at h4
                      obtain ⟨b1, o1, rfl, hl1, g1⟩ := (HK8.out.below HBr.out).at E (by omega)
                      obtain ⟨x0, x1⟩ := T3.out E (by omega)
                      generalize Tm.getD E 0 = x at g1 x0 x1 h4
                      have e1 : (Tm.length : Int) - 1 = (E : Int) := by omega
                      have n1 : E < Tm.length := by omega
                      clear hE
                      go_wp2_with fail
                      refine (awake_any _).mono ?_
                      rintro e wz ⟨rfl, hbz⟩
                      have HE : Hid (Below w.heap.size w wz) := HB9.out.trans (hbz.mono HB9.out.size)
                      clear hbz
                      go_wp2
                      go_ret
                      exact ⟨rfl, HE.out⟩


set_option maxRecDepth 100000 in
theorem lifted_TurnForms (os : Os) (started : os.Started) (H : Type) (enc : TypeId × Value → H) :
    ReturnsInHanded {} Try.checked os 3 .any (Rows.turnFormsSpec.pre6 enc Try.prog Try.f3 Rows.turnFormsRow.domain false) (Rows.turnFormsSpec.post enc Try.prog Try.f3 false true false false) := by
  refine returnsInHanded_of_change (C := Try.checked) own started (by kernel_rfl) Try.func3
    (ChangeSpec.witness6 (enc := enc) (C := Try.checked) false ⟨#[], #[.int .i64 0, .int .i64 0, .int .i64 0, .int .i64 0, .string ByteArray.empty, .int .u8 0], []⟩ 8 (by kernel_rfl) (by kernel_rfl) (by kernel_rfl) (by kernel_rfl)) ?_
  intro W base args ds gs before hval0 hW hcnd _
  have hval : ∀ (j : Nat) t v, Try.f3.params[j]? = some t → args[j]? = some v → Value.okWide Try.prog W .any base t v := hval0
  have hW' := hW
  obtain ⟨p, q, hA0, hV, rfl, hfz, hnd⟩ := hW
  have hA : DataW.TrodAll enc Try.prog W 0 (fun _ => true) true Try.f3.params.toList args.toList ds p := hA0
  rw [Try.params3] at hA hval
  obtain ⟨v0, vs0, d0, ds0, p0, q0, hargs, rfl, rfl, h0, r0⟩ := trodAll_cons hA
  obtain ⟨v1, vs1, d1, ds1, p1, q1, rfl, rfl, rfl, h1, r1⟩ := trodAll_cons r0
  obtain ⟨v2, vs2, d2, ds2, p2, q2, rfl, rfl, rfl, h2, r2⟩ := trodAll_cons r1
  obtain ⟨v3, vs3, d3, ds3, p3, q3, rfl, rfl, rfl, h3, r3⟩ := trodAll_cons r2
  obtain ⟨v4, vs4, d4, ds4, p4, q4, rfl, rfl, rfl, h4, r4⟩ := trodAll_cons r3
  obtain ⟨v5, vs5, d5, ds5, p5, q5, rfl, rfl, rfl, h5, r5⟩ := trodAll_cons r4
  obtain ⟨rfl, rfl, rfl⟩ := trodAll_nil r5
  obtain rfl : args = #[v0, v1, v2, v3, v4, v5] := by cases args; simp_all
  obtain ⟨rfl, rfl⟩ := trodVars_none hV
  obtain ⟨a0, rfl, rfl, rfl, w0⟩ := open_int Try.underlying3 (hval 0 3 v0 rfl rfl) h0
  obtain ⟨a1, rfl, rfl, rfl, w1⟩ := open_int Try.underlying3 (hval 1 3 v1 rfl rfl) h1
  obtain ⟨a2, rfl, rfl, rfl, w2⟩ := open_int Try.underlying3 (hval 2 3 v2 rfl rfl) h2
  obtain ⟨a3, rfl, rfl, rfl, w3⟩ := open_int Try.underlying3 (hval 3 3 v3 rfl rfl) h3
  obtain ⟨a4, rfl, rfl, rfl, w4⟩ := open_string Try.underlying9 (hval 4 9 v4 rfl rfl) h4
  obtain ⟨a5, rfl, rfl, rfl, w5⟩ := open_int Try.underlying5 (hval 5 5 v5 rfl rfl) h5
  clear hA0 hval0
  refine (walk_TurnForms a0 (wf_i64 w0) a1 (wf_i64 w1) a2 (wf_i64 w2) a3 (wf_i64 w3) a4 w4 a5 (bounds_u8 w5) W).mono fun e W' ⟨he, bel⟩ => ?_
  subst he
  exact ⟨_, rfl, _, _, _, [], _, [], hW', trodAll_mk1 (shut_bool Try.underlying4 _), (trodAll_cons_mk (shut_int Try.underlying3 w0) (trodAll_cons_mk (shut_int Try.underlying3 w1) (trodAll_cons_mk (shut_int Try.underlying3 w2) (trodAll_cons_mk (shut_int Try.underlying3 w3) (trodAll_cons_mk (shut_string Try.underlying9 w4) (trodAll_cons_mk (shut_int Try.underlying5 w5) trodAll_mk0)))))), rfl, bel.frame _, fun h => by cases h⟩

theorem over_TurnForms : Rows.turnFormsRow.holds Try.pinned (OpenSpec.ofChange Rows.turnFormsSpec) :=
  OpenClaim.holds_of_wide 3 Try.f3 rfl rfl rfl rfl rfl rfl rfl ⟨rfl, rfl, rfl, rfl, rfl⟩ rfl rfl rfl rfl rfl (by kernel_rfl) Try.func3 (by kernel_rfl)
    (of_decide_eq_true (by kernel_rfl)) (by unfold Func.isWrapper; first | (rw [if_pos (by decide +kernel)]; kernel_rfl) | (rw [if_neg (by decide +kernel)]; exact ⟨rfl, rfl⟩))
    (fun os started H enc _ => lifted_TurnForms os started H enc)

/-- The statement. -/
theorem turnForms_holds : Rows.TurnFormsSaid := over_TurnForms
#print axioms turnForms_holds

end Go.Proofs.Ytcpajkhefhnmeaa

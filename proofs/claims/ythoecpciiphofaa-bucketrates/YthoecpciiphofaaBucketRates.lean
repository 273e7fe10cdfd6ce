/-
  BucketRates, for every row of answers: rates are 0 to 10000; one more that is ok lowers none, one more that is not raises none; all ok is all, none ok is none. No condition on the call.
-/
import Derived.Test.YthoecpciiphofaaBucketFrame
namespace Go.Proofs.Ythoecpciiphofaa
open Go.ChangeShapes Go.WideShapes Go.ChangeAt Go.RowKit
open Go.ChangeMaps (open_string shut_string)

theorem gone_yes (l : List Bool) (k : Nat) (hk : k < l.length) (h : k < 1000000000) (hx : l.getD k false = true) : (gone l (k + 1)).ok = (gone l k).ok + 1 := by
  rw [← gone_succ l k hk h, hx]
  unfold noteK
  rw [if_pos ⟨gone_may l k (by omega), by unfold gone; simp only; omega⟩]
  rfl
theorem gone_no (l : List Bool) (k : Nat) (hk : k < l.length) (h : k < 1000000000) (hx : l.getD k false = false) : (gone l (k + 1)).ok = (gone l k).ok := by
  rw [← gone_succ l k hk h, hx]
  unfold noteK
  rw [if_pos ⟨gone_may l k (by omega), by unfold gone; simp only; omega⟩]
  rfl
theorem gone_all (l : List Bool) (k : Nat) : (gone l k).all = (k : Int) := rfl
theorem gone_counts (l : List Bool) (k : Nat) (h0 : 0 < k) (h : k ≤ 1000000000) : countsK (gone l k) = true := by
  have h1 := gone_bd l k
  refine (countsK_iff _).2 ⟨h1.1, h1.2, ?_, ?_⟩ <;> (rw [gone_all]; omega)
theorem gone_in (l : List Bool) (k : Nat) (h : k ≤ 1000000000) : inK (gone l k) := by
  have h1 := gone_bd l k
  have h2 := gone_all l k
  unfold inK
  omega

set_option maxRecDepth 100000 in
set_option maxHeartbeats 8000000 in
theorem walk_BucketRates (l : List Bool) (v : Value) (w : World) (hl : IsBools w v l) :
    Calls Try.prog 4 #[v] w fun e w' => e = .returned (.bool true) ∧ Below w.heap.size w w' := by
  obtain ⟨ao, cap, rfl⟩ := hl.shaped
  have HL : Hid (IsBools w (.slice ao l.length cap) l) := hl
  clear hl
  have HA : Hid (∀ W : World, Calls Try.prog 17 #[] W fun e w' => e = .returned (.bool true) ∧ Below W.heap.size W w') := awake12_any
  by_cases h1 : 300 < l.length
  · have h1' : (300 : Int) < (l.length : Int) := by omega
    clear h1 HL
    go_enter Try.func4, Try.ntmps4
    go_wp2_with fail
    refine (HA.out _).mono ?_
    rintro e w1 ⟨rfl, hb⟩
    have HB1 : Hid (Below w.heap.size w w1) := hb
    clear hb
    go_wp2
    go_ret
    exact ⟨rfl, HB1.out⟩
  · have h1' : ¬ (300 : Int) < (l.length : Int) := by omega
    have HLen : Hid (l.length ≤ 300) := by show _ ≤ _; omega
    clear h1
    go_enter Try.func4, Try.ntmps4
    go_upto_region 4 with fail
    generalize hW0 : w.alloc _ = W0
    have HX0 : Hid (HasBox W0 w.heap.size 23 #[.int .i64 0, .int .i64 0]) := by show HasBox _ _ _ _; rw [← hW0]; exact hasBox_new w _ _
    have HB0 : Hid (Below w.heap.size w W0) := by show Below _ _ _; rw [← hW0]; exact (Below.refl _ _).alloc (Nat.le_refl _) _
    clear hW0
    go_wp2
    go_loopw [4, 17] (fun o i wr => ∃ k : Nat, k ≤ l.length ∧ i = .int .i64 k ∧ o = .int .i64 (gone l k).ok ∧ HasBox wr w.heap.size 23 #[.int .i64 (gone l k).ok, .int .i64 k] ∧ Below w.heap.size w wr) (fun _ i _ => l.length - (intOf i).toNat)
    case atStart => exact ⟨0, Nat.zero_le _, rfl, rfl, HX0.out, HB0.out⟩
    case round =>
      obtain ⟨k, hk, rfl, rfl, hx, hb⟩ := hrel
      have HX : Hid (HasBox wr w.heap.size 23 #[.int .i64 (gone l k).ok, .int .i64 k]) := hx
      have HB : Hid (Below w.heap.size w wr) := hb
      have hlen := HLen.out
      clear hx hb HX0 HB0
      by_cases hlt : k < l.length
      · obtain ⟨bl, ol, rfl, hbl, gx⟩ := (HL.out.below HB.out).at k hlt
        have HR : Hid (∀ W : World, Calls Try.prog 11 #[.agg #[.int .i64 (gone l k).ok, .int .i64 k]] W fun e w' => e = .returned (.int .i64 (rateK (gone l k))) ∧ Below W.heap.size W w') := kRate_any (gone l k) (gone_in l k (by omega))
        have HR2 : Hid (∀ W : World, Calls Try.prog 11 #[.agg #[.int .i64 (gone l (k + 1)).ok, .int .i64 (k + 1 : Nat)]] W fun e w' => e = .returned (.int .i64 (rateK (gone l (k + 1)))) ∧ Below W.heap.size W w') := kRate_any (gone l (k + 1)) (gone_in l (k + 1) (by omega))
        have HN : Hid (∀ W : World, Calls Try.prog 7 #[.agg #[.int .i64 (gone l k).ok, .int .i64 k], .bool (l.getD k false)] W fun e w' => e = .returned (.agg #[.int .i64 (gone l (k + 1)).ok, .int .i64 (k + 1 : Nat)]) ∧ Below W.heap.size W w') := fun W => by
          have := kNote_any (gone l k) (l.getD k false) W
          rw [gone_succ l k hlt (by omega)] at this
          exact this
        have hrb := rateK_bd (gone l (k + 1))
        have hful := rateK_full (gone_counts l (k + 1) (by omega) (by omega))
        rw [gone_all] at hful
        have hnon : (gone l (k + 1)).ok = 0 → rateK (gone l (k + 1)) = 0 := rateK_none
        have hup := rateK_up (gone l k)
        have hdn := rateK_down (gone l k)
        have hcnt : 0 < k → countsK (gone l k) = true := fun h => gone_counts l k h (by omega)
        have hsuc := gone_succ l k hlt (by omega)
        have hbd := gone_bd l k
        have hal := gone_all l k
        have hyes := gone_yes l k hlt (by omega)
        have hno := gone_no l k hlt (by omega)
        have hK1 : IntKind.i64.wrap ((k : Int) + 1) = ((k + 1 : Nat) : Int) := by rw [IntKind.wrap_i64]; omega
        have HK1 : Hid (((k + 1 : Nat) : Int) = (k : Int) + 1) := by show _ = _; omega
        have hO : IntKind.i64.wrap ((gone l k).ok + 1) = (gone l k).ok + 1 := by rw [IntKind.wrap_i64]; omega
        generalize l.getD k false = x at *
        cases x with
        | true =>
          have hy := hyes rfl
          obtain ⟨O1, hOO⟩ : ∃ O1, (gone l (k + 1)).ok = O1 := ⟨_, rfl⟩
          obtain ⟨K1, hKK⟩ : ∃ K1 : Int, ((k + 1 : Nat) : Int) = K1 := ⟨_, rfl⟩
          rw [hsuc] at hup
          have hO2 : IntKind.i64.wrap ((gone l k).ok + 1) = O1 := by rw [hO, ← hy, hOO]
          have HOO : Hid ((gone l (k + 1)).ok = O1) := hOO
          have HKK : Hid (((k + 1 : Nat) : Int) = K1) := hKK
          rw [hOO] at HR2 HN hful hy hnon
          rw [hKK] at HR2 HN hful hK1 HK1
          have ho0 : (O1 == 0) = false := by simp; omega
          generalize rateK (gone l (k + 1)) = R1 at *
          generalize rateK (gone l k) = R at *
          generalize (gone l k).ok = O at *
          have t1 : ¬ R1 < 0 := by omega
          have t2 : ¬ 10000 < R1 := by omega
          have t3 : ¬ R1 < R := by omega
          have hE : ((R1 == 10000) = true ∧ (O1 == K1) = true) ∨ ((R1 == 10000) = false ∧ (O1 == K1) = false) := by
            by_cases h : R1 = 10000
            · exact .inl ⟨by simp [h], by simp [hful.1 h]⟩
            · exact .inr ⟨by simp [h], by simp; exact fun q => h (hful.2 q)⟩
          clear hyes hno hdn hcnt hsuc hbd hal hO hful hnon hrb hup hy hOO hKK
          rcases hE with ⟨e1, e2⟩ | ⟨e1, e2⟩
          all_goals
            have c1 : wr.cell? ⟨w.heap.size, 0, none⟩ = some (.int .i64 O) := HX.out.cell 0
            have c2 : wr.cell? ⟨w.heap.size, 1, none⟩ = some (.int .i64 (k : Int)) := HX.out.cell 1
            go_wp2_with fail
            refine (HR.out _).mono ?_
            rintro e w3 ⟨rfl, hb⟩
            clear c1 c2 gx hbl
            have HX3 : Hid (HasBox w3 w.heap.size 23 #[.int .i64 O, .int .i64 k]) := HX.out.below hb
            have HB3 : Hid (Below w.heap.size w w3) := HB.out.trans (hb.mono HB.out.size)
            clear hb HX HB HR
            have c1 : w3.cell? ⟨w.heap.size, 0, none⟩ = some (.int .i64 O) := HX3.out.cell 0
            have c2 : w3.cell? ⟨w.heap.size, 1, none⟩ = some (.int .i64 (k : Int)) := HX3.out.cell 1
            go_wp2_with fail
            refine (HN.out _).mono ?_
            rintro e w4 ⟨rfl, hb⟩
            clear c1 c2
            have HX4 : Hid (HasBox w4 w.heap.size 23 #[.int .i64 O, .int .i64 k]) := HX3.out.below hb
            have HB4 : Hid (Below w.heap.size w w4) := HB3.out.trans (hb.mono HB3.out.size)
            clear hb HX3 HB3 HN
            have HLt : Hid (w.heap.size < w4.heap.size) := HX4.out.lt
            go_wp2_with fail
            refine (HR2.out _).mono ?_
            rintro e w5 ⟨rfl, hb⟩
            have HX5 : Hid (HasBox w5 w.heap.size 23 #[.int .i64 O, .int .i64 k]) := HasBox.below (HX4.out.alloc _) hb
            have HY5 : Hid (HasBox w5 w4.heap.size 23 #[.int .i64 O1, .int .i64 K1]) := HasBox.below (hasBox_new w4 _ _) hb
            have HB5 : Hid (Below w.heap.size w w5) := (HB4.out.alloc HB4.out.size _).trans (hb.mono (by have := HLt.out; simp; omega))
            clear hb HX4 HB4 HR2
            generalize w4.heap.size = g at HLt HY5 ⊢
            have hlt2 := HLt.out
            have c1 : w5.cell? ⟨w.heap.size, 0, none⟩ = some (.int .i64 O) := HX5.out.cell 0
            have c2 : w5.cell? ⟨w.heap.size, 1, none⟩ = some (.int .i64 (k : Int)) := HX5.out.cell 1
            have c3 : w5.cell? ⟨g, 0, none⟩ = some (.int .i64 O1) := HY5.out.cell 0
            have c4 : w5.cell? ⟨g, 1, none⟩ = some (.int .i64 K1) := HY5.out.cell 1
            have f1 : w5.frozen? ⟨w.heap.size, 0, none⟩ = false := HX5.out.frozen 0
            have f2 : w5.frozen? ⟨w.heap.size, 1, none⟩ = false := HX5.out.frozen 1
            go_wp2
            have HX6 : Hid (HasBox ((w5.setCell ⟨w.heap.size, 0, none⟩ (.int .i64 O1)).setCell ⟨w.heap.size, 1, none⟩ (.int .i64 K1)) w.heap.size 23 #[.int .i64 O1, .int .i64 K1]) := by have hR := (HX5.out.set 0 (.int .i64 O1)).set 1 (.int .i64 K1); simpa [Hid, HasBox] using hR
            have HB6 : Hid (Below w.heap.size w ((w5.setCell ⟨w.heap.size, 0, none⟩ (.int .i64 O1)).setCell ⟨w.heap.size, 1, none⟩ (.int .i64 K1))) := (HB5.out.setCell (Nat.le_refl _) _).setCell (Nat.le_refl _) _
            clear c1 c2 c3 c4 f1 f2 HX5 HY5 HB5
            generalize (w5.setCell _ _).setCell _ _ = W6 at HX6 HB6 ⊢
            go_roundw
            case rel => exact ⟨k + 1, by omega, by rw [HKK.out], by rw [HOO.out], by rw [HOO.out, HKK.out]; exact HX6.out, HB6.out⟩
            case measure => have := HKK.out; have := HK1.out; simp [intOf]; omega
        | false =>
          have hy := hno rfl
          obtain ⟨O1, hOO⟩ : ∃ O1, (gone l (k + 1)).ok = O1 := ⟨_, rfl⟩
          obtain ⟨K1, hKK⟩ : ∃ K1 : Int, ((k + 1 : Nat) : Int) = K1 := ⟨_, rfl⟩
          rw [hsuc] at hdn
          have HOO : Hid ((gone l (k + 1)).ok = O1) := hOO
          have HKK : Hid (((k + 1 : Nat) : Int) = K1) := hKK
          rw [hOO] at HR2 HN hful hy hnon
          rw [hKK] at HR2 HN hful hK1 HK1
          generalize rateK (gone l (k + 1)) = R1 at *
          generalize rateK (gone l k) = R at *
          have t1 : ¬ R1 < 0 := by omega
          have t2 : ¬ 10000 < R1 := by omega
          have e2 : (O1 == K1) = false := by simp; have := HK1.out; omega
          have e1 : (R1 == 10000) = false := by
            simp
            exact fun q => absurd (hful.1 q) (by simpa using e2)
          have hZ : ((O1 == 0) = true ∧ R1 = 0) ∨ (O1 == 0) = false := by
            by_cases h : O1 = 0
            · exact .inl ⟨by simp [h], hnon h⟩
            · exact .inr (by simp [h])
          have hD : (0 < (k : Int) ∧ ¬ R < R1) ∨ ¬ 0 < (k : Int) := by
            by_cases h : 0 < k
            · exact .inl ⟨by omega, by have := hdn (hcnt h); omega⟩
            · exact .inr (by omega)
          clear hyes hno hdn hcnt hsuc hbd hal hO hful hnon hrb hup hOO hKK
          generalize (gone l k).ok = O at *
          subst hy
          rcases hZ with ⟨z1, rfl⟩ | z1 <;> rcases hD with ⟨d1, d2⟩ | d1
          all_goals
            have c1 : wr.cell? ⟨w.heap.size, 0, none⟩ = some (.int .i64 O1) := HX.out.cell 0
            have c2 : wr.cell? ⟨w.heap.size, 1, none⟩ = some (.int .i64 (k : Int)) := HX.out.cell 1
            go_wp2_with fail
            refine (HR.out _).mono ?_
            rintro e w3 ⟨rfl, hb⟩
            clear c1 c2 gx hbl
            have HX3 : Hid (HasBox w3 w.heap.size 23 #[.int .i64 O1, .int .i64 k]) := HX.out.below hb
            have HB3 : Hid (Below w.heap.size w w3) := HB.out.trans (hb.mono HB.out.size)
            clear hb HX HB HR
            have c1 : w3.cell? ⟨w.heap.size, 0, none⟩ = some (.int .i64 O1) := HX3.out.cell 0
            have c2 : w3.cell? ⟨w.heap.size, 1, none⟩ = some (.int .i64 (k : Int)) := HX3.out.cell 1
            go_wp2_with fail
            refine (HN.out _).mono ?_
            rintro e w4 ⟨rfl, hb⟩
            clear c1 c2
            have HX4 : Hid (HasBox w4 w.heap.size 23 #[.int .i64 O1, .int .i64 k]) := HX3.out.below hb
            have HB4 : Hid (Below w.heap.size w w4) := HB3.out.trans (hb.mono HB3.out.size)
            clear hb HX3 HB3 HN
            have HLt : Hid (w.heap.size < w4.heap.size) := HX4.out.lt
            go_wp2_with fail
            refine (HR2.out _).mono ?_
            rintro e w5 ⟨rfl, hb⟩
            have HX5 : Hid (HasBox w5 w.heap.size 23 #[.int .i64 O1, .int .i64 k]) := HasBox.below (HX4.out.alloc _) hb
            have HY5 : Hid (HasBox w5 w4.heap.size 23 #[.int .i64 O1, .int .i64 K1]) := HasBox.below (hasBox_new w4 _ _) hb
            have HB5 : Hid (Below w.heap.size w w5) := (HB4.out.alloc HB4.out.size _).trans (hb.mono (by have := HLt.out; simp; omega))
            clear hb HX4 HB4 HR2
            generalize w4.heap.size = g at HLt HY5 ⊢
            have hlt2 := HLt.out
            have c1 : w5.cell? ⟨w.heap.size, 0, none⟩ = some (.int .i64 O1) := HX5.out.cell 0
            have c2 : w5.cell? ⟨w.heap.size, 1, none⟩ = some (.int .i64 (k : Int)) := HX5.out.cell 1
            have c3 : w5.cell? ⟨g, 0, none⟩ = some (.int .i64 O1) := HY5.out.cell 0
            have c4 : w5.cell? ⟨g, 1, none⟩ = some (.int .i64 K1) := HY5.out.cell 1
            have f1 : w5.frozen? ⟨w.heap.size, 0, none⟩ = false := HX5.out.frozen 0
            have f2 : w5.frozen? ⟨w.heap.size, 1, none⟩ = false := HX5.out.frozen 1
            go_wp2
            have HX6 : Hid (HasBox ((w5.setCell ⟨w.heap.size, 0, none⟩ (.int .i64 O1)).setCell ⟨w.heap.size, 1, none⟩ (.int .i64 K1)) w.heap.size 23 #[.int .i64 O1, .int .i64 K1]) := by have hR := (HX5.out.set 0 (.int .i64 O1)).set 1 (.int .i64 K1); simpa [Hid, HasBox] using hR
            have HB6 : Hid (Below w.heap.size w ((w5.setCell ⟨w.heap.size, 0, none⟩ (.int .i64 O1)).setCell ⟨w.heap.size, 1, none⟩ (.int .i64 K1))) := (HB5.out.setCell (Nat.le_refl _) _).setCell (Nat.le_refl _) _
            clear c1 c2 c3 c4 f1 f2 HX5 HY5 HB5
            generalize (w5.setCell _ _).setCell _ _ = W6 at HX6 HB6 ⊢
            go_roundw
            case rel => exact ⟨k + 1, by omega, by rw [HKK.out], by rw [HOO.out], by rw [HOO.out, HKK.out]; exact HX6.out, HB6.out⟩
            case measure => have := HKK.out; have := HK1.out; simp [intOf]; omega
      · have hk2 : k = l.length := by omega
        have HM : Hid (∀ W : World, Calls Try.prog 9 #[.agg #[.int .i64 (gone l k).ok, .int .i64 k]] W fun e w' => e = .returned (.bool true) ∧ Below W.heap.size W w') := fun W => by
          have := kMay_any (gone l k) W
          rw [gone_may l k (by omega)] at this
          exact this
        have c1 := HX.out.cell 0
        have c2 := HX.out.cell 1
        clear hk2
        generalize (gone l k).ok = O at *
        simp only [List.getElem?_toArray, List.getElem?_cons_zero, List.getElem?_cons_succ] at c1 c2
        go_wp2_with fail
        refine (HM.out _).mono ?_
        rintro e w3 ⟨rfl, hb⟩
        have HB3 : Hid (Below w.heap.size w w3) := HB.out.trans (hb.mono HB.out.size)
        clear hb HB HX c1 c2
        go_wp2_with fail
        refine (HA.out _).mono ?_
        rintro e w4 ⟨rfl, hb⟩
        have HB4 : Hid (Below w.heap.size w w4) := HB3.out.trans (hb.mono HB3.out.size)
        clear hb HB3
        go_wp2
        go_ret
        exact ⟨rfl, HB4.out⟩

set_option maxRecDepth 100000 in
theorem lifted_BucketRates (os : Os) (started : os.Started) (H : Type) (enc : TypeId × Value → H) :
    ReturnsInHanded {} Try.checked os 4 .any (Rows.bucketRatesSpec.pre6 enc Try.prog Try.f4 Rows.bucketRatesRow.domain false) (Rows.bucketRatesSpec.post enc Try.prog Try.f4 false true false false) := by
  refine returnsInHanded_of_change (C := Try.checked) own started (by kernel_rfl) Try.func4
    (ChangeSpec.witness6 (enc := enc) (C := Try.checked) false ⟨#[], #[.slice none 0 0], []⟩ 8 (by kernel_rfl) (by kernel_rfl) (by kernel_rfl) (by kernel_rfl)) ?_
  intro W base args ds gs before hval0 hW hcnd _
  have hval : ∀ (j : Nat) t v, Try.f4.params[j]? = some t → args[j]? = some v → Value.okWide Try.prog W .any base t v := hval0
  have hW' := hW
  obtain ⟨p, q, hA0, hV, rfl, hfz, hnd⟩ := hW
  have hA : DataW.TrodAll enc Try.prog W 0 (fun _ => true) true Try.f4.params.toList args.toList ds p := hA0
  rw [Try.params4] at hA hval
  obtain ⟨v0, vs0, d0, ds0, p0, q0, hargs, rfl, rfl, h0, r0⟩ := trodAll_cons hA
  obtain ⟨rfl, rfl, rfl⟩ := trodAll_nil r0
  obtain rfl : args = #[v0] := by cases args; simp_all
  obtain ⟨rfl, rfl⟩ := trodVars_none hV
  have k0 := h0
  have lt0 : ∀ x ∈ p0, x.block < W.heap.size := by obtain ⟨m, hm⟩ := k0; exact DataW.trod_lt m _ _ _ hm
  obtain ⟨z0, w0⟩ := open_bools (hval 0 30 v0 rfl rfl) h0
  clear hA0 hval0
  refine (walk_BucketRates z0 v0 W w0).mono fun e W' ⟨he, bel⟩ => ?_
  subst he
  exact ⟨_, rfl, _, _, _, [], _, [], hW', trodAll_mk1 (shut_bool Try.underlying4 _), (trodAll_cons_mk (Below.trod laidOut (by kernel_rfl) (of_decide_eq_true (by kernel_rfl)) k0 bel lt0) trodAll_mk0), rfl, bel.frame _, fun h => by cases h⟩

theorem over_BucketRates : Rows.bucketRatesRow.holds Try.pinned (OpenSpec.ofChange Rows.bucketRatesSpec) :=
  OpenClaim.holds_of_wide 4 Try.f4 rfl rfl rfl rfl rfl rfl rfl ⟨rfl, rfl, rfl, rfl, rfl⟩ rfl rfl rfl rfl rfl (by kernel_rfl) Try.func4 (by kernel_rfl)
    (of_decide_eq_true (by kernel_rfl)) (by unfold Func.isWrapper; first | (rw [if_pos (by decide +kernel)]; kernel_rfl) | (rw [if_neg (by decide +kernel)]; exact ⟨rfl, rfl⟩))
    (fun os started H enc _ => lifted_BucketRates os started H enc)

/-- The statement. -/
theorem bucketRates_holds : Rows.BucketRatesSaid := over_BucketRates
#print axioms bucketRates_holds

end Go.Proofs.Ythoecpciiphofaa

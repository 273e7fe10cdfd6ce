/-
  ClockAnew, for any kind, number and row of times: a timer that is set anew has one time alone, the last; cut, it has none; the other stays. No condition.
-/
import Derived.Test.YtelpdmaphmfkiaaClockFrame
import Derived.Test.YtelpdmaphmfkiaaClockState
import Derived.Test.YtelpdmaphmfkiaaClockMod
namespace Go.Proofs.Ytelpdmaphmfkiaa
open Go.ChangeShapes Go.WideShapes Go.ChangeAt Go.RowKit

theorem intsAt {w : World} {ao : Option Addr} {n cap : Nat} {zs : List Int} (h : IsInts w (.slice ao n cap) zs) (i : Nat) (hi : i < zs.length) : ∃ b off, ao = some ⟨b, off, none⟩ ∧ b < w.heap.size ∧ w.cell? ⟨b, off + i, none⟩ = some (.int .i64 (zs.getD i 0)) := by
  rcases h.2.2 with ⟨h0, _⟩ | ⟨_, b, off, c, e, hlt, hc⟩
  · rw [h0] at hi; simp at hi
  · simp only [Value.slice.injEq] at e
    exact ⟨b, off, e.1, hlt, hc i hi⟩
theorem xor1_ne (a : Int) : bits .xor .i64 a 1 ≠ a := by
  intro e
  have h1 : (BitVec.ofInt 64 a).toNat = (a % 18446744073709551616).toNat := BitVec.toNat_ofInt ..
  have h3 := (BitVec.ofInt 64 a ^^^ BitVec.ofInt 64 1).isLt
  have e' : IntKind.i64.wrap ((BitVec.ofInt 64 a ^^^ BitVec.ofInt 64 1).toNat : Int) = a := e
  rw [IntKind.wrap_i64] at e'
  have h4 : (BitVec.ofInt 64 a ^^^ BitVec.ofInt 64 1).toNat = (BitVec.ofInt 64 a).toNat := by omega
  have h5 : BitVec.ofInt 64 a ^^^ BitVec.ofInt 64 1 = BitVec.ofInt 64 a := BitVec.eq_of_toNat_eq h4
  have h6 : BitVec.ofInt 64 1 = 0#64 := by
    have : BitVec.ofInt 64 1 = BitVec.ofInt 64 a ^^^ (BitVec.ofInt 64 a ^^^ BitVec.ofInt 64 1) := by rw [← BitVec.xor_assoc, BitVec.xor_self, BitVec.zero_xor]
    rw [this, h5, BitVec.xor_self]
  exact absurd h6 (by decide)
theorem xor1_in (a : Int) : -9223372036854775808 ≤ bits .xor .i64 a 1 ∧ bits .xor .i64 a 1 ≤ 9223372036854775807 := by
  have e : bits .xor .i64 a 1 = IntKind.i64.wrap ((BitVec.ofInt 64 a ^^^ BitVec.ofInt 64 1).toNat : Int) := rfl
  rw [e, IntKind.wrap_i64]
  omega

/-- Two timers in their order. -/
def two (o t : TimerT) : List TimerT := if ltT o t then [o, t] else [t, o]
theorem isT_self (t : TimerT) : isT t.kind t.id t = true := (isT_iff _ _ _).2 ⟨rfl, rfl⟩
theorem isT_ne {o : TimerT} {kind id : Int} (h : o.kind ≠ kind) : isT kind id o = false := by
  cases e : isT kind id o with
  | false => rfl
  | true => exact absurd ((isT_iff _ _ _).1 e).1 h
theorem one_cut {o : TimerT} {kind id : Int} (h : o.kind ≠ kind) : cutT [o] kind id = [o] ∧ hasT [o] kind id = false := by
  refine ⟨?_, ?_⟩
  · unfold cutT; simp [isT_ne h]
  · unfold hasT; simp [isT_ne h]
theorem two_cut {o t : TimerT} (h : o.kind ≠ t.kind) : cutT (two o t) t.kind t.id = [o] ∧ hasT (two o t) t.kind t.id = true := by
  unfold two
  refine ⟨?_, ?_⟩
  · unfold cutT; split <;> simp [isT_ne h, isT_self]
  · unfold hasT; split <;> simp [isT_ne h, isT_self]
theorem two_when {o t : TimerT} (h : o.kind ≠ t.kind) : whenT (two o t) t.kind t.id = (t.at_, true) := by
  unfold two whenT firstT
  by_cases hl : ltT o t = true <;> simp [hl, isT_ne h, isT_self]
theorem two_other {o t : TimerT} (h : o.kind ≠ t.kind) : whenT (two o t) o.kind o.id = (o.at_, true) := by
  unfold two whenT firstT
  by_cases hl : ltT o t = true <;> simp [hl, isT_ne (Ne.symm h), isT_self]
theorem one_when (o : TimerT) : whenT [o] o.kind o.id = (o.at_, true) := by
  unfold whenT firstT; simp [isT_self]
theorem two_put (o t : TimerT) : putT [o] t = two o t := by
  unfold two
  rw [putT_cons]
  rfl
theorem set_anew {L : List TimerT} {o t : TimerT} (h : o.kind ≠ t.kind) (hs : setOK 0 t = true) (hL : L = [o] ∨ ∃ t', t'.kind = t.kind ∧ t'.id = t.id ∧ L = two o t') : setT 0 L t = two o t := by
  unfold setT
  rw [if_pos hs]
  have hc : cutT L t.kind t.id = [o] := by
    rcases hL with rfl | ⟨t', e1, e2, rfl⟩
    · exact (one_cut h).1
    · rw [← e1, ← e2]
      exact (two_cut (by rw [e1]; exact h)).1
  rw [hc, two_put]
theorem two_length (o t : TimerT) : (two o t).length = 2 := by unfold two; split <;> rfl

set_option maxRecDepth 100000 in
set_option maxHeartbeats 8000000 in
theorem walk_ClockAnew {w : World} (kind : Int) (hkd : -9223372036854775808 ≤ kind ∧ kind ≤ 9223372036854775807) (id : Int) (hid : -9223372036854775808 ≤ id ∧ id ≤ 9223372036854775807) (v : Value) (zs : List Int) (hz : IsInts w v zs) (_ : zs.length ≤ 17592186043904) :
    Calls Try.prog 6 #[.int .i64 kind, .int .i64 id, v] w fun e w' => e = .returned (.bool true) ∧ Below w.heap.size w w' := by
  obtain ⟨ao, cap, rfl⟩ := hz.shape
  have HZ : Hid (IsInts w (.slice ao zs.length cap) zs) := hz
  clear hz
  have KA := fun W => awake9_any W
  by_cases hbig : (60 : Int) < (zs.length : Int)
  · go_enter Try.func6, Try.ntmps6
    go_wp2_with fail
    refine (KA _).mono ?_
    rintro e w1 ⟨rfl, hb⟩
    have HB1 : Hid (Below w.heap.size w w1) := hb
    clear hb KA
    go_wp2
    go_ret
    exact ⟨rfl, HB1.out⟩
  obtain ⟨X, hX⟩ : ∃ X, bits .xor .i64 kind 1 = X := ⟨_, rfl⟩
  have hXn := xor1_ne kind
  have hXi := xor1_in kind
  rw [hX] at hXn hXi
  have HXn : Hid (X ≠ kind) := hXn
  have HXi : Hid (-9223372036854775808 ≤ X ∧ X ≤ 9223372036854775807) := hXi
  have HKd : Hid (-9223372036854775808 ≤ kind ∧ kind ≤ 9223372036854775807) := hkd
  have HId : Hid (-9223372036854775808 ≤ id ∧ id ≤ 9223372036854775807) := hid
  clear hXn hXi hkd hid
  have hlen : zs.length ≤ 60 := by omega
  go_enter Try.func6, Try.ntmps6
  go_wp2_with fail
  refine (knew 0 w).mono ?_
  rintro e w1 ⟨rfl, hk, hb⟩
  have e0 : clampT 0 = 0 := by decide
  rw [e0] at hk
  have HB1 : Hid (Below w.heap.size w w1) := hb
  have hk1 := hk.below ((Below.refl _ w1).alloc (Nat.le_refl _) (.cells (tcells ⟨77, X, id⟩) 29))
  have HB1' : Hid (Below w.heap.size w (w1.alloc (.cells (tcells ⟨77, X, id⟩) 29))) := HB1.out.alloc HB1.out.size _
  have KS := kset hk1 (by decide) ⟨77, X, id⟩ (inT_lit (by decide) HXi.out HId.out)
  have e1 : setOK 0 ⟨77, X, id⟩ = true := rfl
  have e2 : setT 0 [] ⟨77, X, id⟩ = [⟨77, X, id⟩] := by unfold setT; rw [e1]; rfl
  rw [e1, e2] at KS
  clear hk hb e0 e1 e2 hk1
  go_wp2_with fail
  refine KS.mono ?_
  rintro e w2 ⟨rfl, hk, hp⟩
  have HB2 : Hid (Below w.heap.size w w2) := HB1'.out.trans hp.below
  have HK2 : Hid (Ck (fun _ => False) w.heap.size w.heap.size 0 [⟨77, X, id⟩] w2) := hk.mono fun _ h => h.elim
  clear hk hp HB1 HB1' KS
  go_wp2
  go_loopw [9, 31] (fun l i wr => ∃ (k : Nat) (last : Int) (L : List TimerT), k ≤ zs.length ∧ i = .int .i64 k ∧ l = .int .i64 last ∧ Ck (fun _ => False) w.heap.size w.heap.size 0 L wr ∧ Below w.heap.size w wr ∧
      (last = -1 ∧ L = [⟨77, X, id⟩] ∨ 0 ≤ last ∧ ∃ t' : TimerT, t'.kind = kind ∧ t'.id = id ∧ L = two ⟨77, X, id⟩ t')) (fun _ i _ => zs.length - (intOf i).toNat)
  case atStart => exact ⟨0, -1, _, Nat.zero_le _, rfl, rfl, HK2.out, HB2.out, .inl ⟨rfl, rfl⟩⟩
  case round =>
    obtain ⟨k, last, L, hkl, rfl, rfl, hk, hb, hL⟩ := hrel
    have HB : Hid (Below w.heap.size w wr) := hb
    have HL : Hid (last = -1 ∧ L = [⟨77, X, id⟩] ∨ 0 ≤ last ∧ ∃ t' : TimerT, t'.kind = kind ∧ t'.id = id ∧ L = two ⟨77, X, id⟩ t') := hL
    have hLl : L.length ≤ 1000000 := by
      rcases hL with ⟨_, rfl⟩ | ⟨_, t', _, _, rfl⟩
      · simp
      · rw [two_length]; omega
    clear hb hL
    by_cases hlt : k < zs.length
    · obtain ⟨b, off, rfl, hbl, c0⟩ := intsAt (HZ.out.below HB.out) k hlt
      generalize zs.getD k 0 = x at c0
      obtain ⟨Y, hY, eY⟩ := u_mod9 x 1000 (by decide)
      replace eY : (IntKind.u64.wrap x).tmod 1000 = (Y : Int) := eY
      have hYi : inT ⟨(Y : Int), kind, id⟩ := inT_lit (by omega) HKd.out HId.out
      have KS := kset hk hLl ⟨(Y : Int), kind, id⟩ hYi
      have e1 : setOK 0 ⟨(Y : Int), kind, id⟩ = true := by unfold setOK top62; rw [decide_eq_true (by show (0 : Int) ≤ Y; omega), decide_eq_true (by show (Y : Int) ≤ _; omega)]; rfl
      have e2 : setT 0 L ⟨(Y : Int), kind, id⟩ = two ⟨77, X, id⟩ ⟨(Y : Int), kind, id⟩ := set_anew HXn.out e1 (by
        rcases HL.out with ⟨_, h⟩ | ⟨_, h⟩
        · exact .inl h
        · exact .inr h)
      rw [e1, e2] at KS
      clear hk e1 e2 hYi hLl
      go_wp2_with fail
      refine KS.mono ?_
      rintro e w3 ⟨rfl, hk, hp⟩
      have HB3 : Hid (Below w.heap.size w w3) := HB.out.trans hp.below
      have KT := kat hk (by rw [two_length]; omega) kind id
      rw [show whenT (two ⟨77, X, id⟩ ⟨(Y : Int), kind, id⟩) kind id = ((Y : Int), true) from two_when (o := ⟨77, X, id⟩) (t := ⟨(Y : Int), kind, id⟩) HXn.out] at KT
      have HK3 : Hid (Ck (fun _ => False) w.heap.size w.heap.size 0 (two ⟨77, X, id⟩ ⟨(Y : Int), kind, id⟩) w3) := hk
      clear hk hp KS
      go_wp2_with fail
      refine KT.mono ?_
      rintro e w4 ⟨rfl, hb⟩
      have KL := kall (HK3.out.below hb) (by rw [two_length]; omega)
      rw [two_length] at KL
      have HB4 : Hid (Below w.heap.size w w4) := HB3.out.trans (hb.mono HB3.out.size)
      have HK4 : Hid (Ck (fun _ => False) w.heap.size w.heap.size 0 (two ⟨77, X, id⟩ ⟨(Y : Int), kind, id⟩) w4) := HK3.out.below hb
      clear hb KT
      go_wp2_with fail
      refine KL.mono ?_
      rintro e w5 ⟨lo, lc, rfl, _, hb⟩
      have HB5 : Hid (Below w.heap.size w w5) := HB4.out.trans (hb.mono HB4.out.size)
      have HK5 : Hid (Ck (fun _ => False) w.heap.size w.heap.size 0 (two ⟨77, X, id⟩ ⟨(Y : Int), kind, id⟩) w5) := HK4.out.below hb
      clear hb KL
      go_wp2
      go_roundw
      case rel => exact ⟨k + 1, Y, _, by omega, by go_num, rfl, HK5.out, HB5.out, .inr ⟨by omega, _, rfl, rfl, rfl⟩⟩
      case measure => simp [intOf]; omega
    · have KT := kat hk hLl X id
      have e1 : whenT L X id = (77, true) := by
        rcases HL.out with ⟨_, rfl⟩ | ⟨_, t', h1, _, rfl⟩
        · exact one_when ⟨77, X, id⟩
        · exact two_other (o := ⟨77, X, id⟩) (t := t') (by rw [h1]; exact HXn.out)
      rw [e1] at KT
      have HK : Hid (Ck (fun _ => False) w.heap.size w.heap.size 0 L wr) := hk
      clear hk e1
      go_wp2_with fail
      refine KT.mono ?_
      rintro e w3 ⟨rfl, hb⟩
      have KC := kcut (HK.out.below hb) hLl kind id
      have e1 : cutT L kind id = [⟨77, X, id⟩] ∧ hasT L kind id = decide (0 ≤ last) := by
        rcases HL.out with ⟨rfl, rfl⟩ | ⟨h0, t', h1, h2, rfl⟩
        · exact one_cut HXn.out
        · have := two_cut (o := ⟨77, X, id⟩) (t := t') (by rw [h1]; exact HXn.out)
          rw [h1, h2] at this
          rw [this.1, this.2, decide_eq_true h0]
          exact ⟨rfl, rfl⟩
      rw [e1.1, e1.2] at KC
      have HB3 : Hid (Below w.heap.size w w3) := HB.out.trans (hb.mono HB.out.size)
      clear hb KT e1
      go_wp2_with fail
      refine KC.mono ?_
      rintro e w4 ⟨rfl, hk, hp⟩
      have KC2 := kcut hk (by simp) kind id
      have e1 := one_cut (o := ⟨77, X, id⟩) (kind := kind) (id := id) HXn.out
      rw [e1.1, e1.2] at KC2
      have HB4 : Hid (Below w.heap.size w w4) := HB3.out.trans hp.below
      clear hk hp KC e1
      go_wp2_with fail
      refine KC2.mono ?_
      rintro e w5 ⟨rfl, hk, hp⟩
      have KL := kall hk (by simp)
      have HB5 : Hid (Below w.heap.size w w5) := HB4.out.trans hp.below
      clear hk hp KC2
      go_wp2_with fail
      refine KL.mono ?_
      rintro e w6 ⟨lo, lc, rfl, _, hb⟩
      have HB6 : Hid (Below w.heap.size w w6) := HB5.out.trans (hb.mono HB5.out.size)
      clear hb KL
      go_wp2_with fail
      refine (KA _).mono ?_
      rintro e w7 ⟨rfl, hb⟩
      have HB7 : Hid (Below w.heap.size w w7) := HB6.out.trans (hb.mono HB6.out.size)
      clear hb KA
      go_wp2
      go_ret
      exact ⟨rfl, HB7.out⟩

theorem Try.bytes3 : Try.prog.bytesOf 3 = 8 := by kernel_rfl


set_option maxRecDepth 100000 in
theorem lifted_ClockAnew (os : Os) (started : os.Started) (H : Type) (enc : TypeId × Value → H) :
    ReturnsInHanded {} Try.checked os 6 .any (Rows.clockAnewSpec.pre6 enc Try.prog Try.f6 Rows.clockAnewRow.domain false) (Rows.clockAnewSpec.post enc Try.prog Try.f6 false true false false) := by
  refine returnsInHanded_of_change_sized (C := Try.checked) own started (by kernel_rfl) Try.func6
    (ChangeSpec.witness6 (enc := enc) (C := Try.checked) false ⟨#[], #[.int .i64 0, .int .i64 0, .slice none 0 0], []⟩ 8 (by kernel_rfl) (by kernel_rfl) (by kernel_rfl) (by kernel_rfl)) ?_
  intro W base args ds gs before hval0 hW hcnd hsz0 hholds
  have hval : ∀ (j : Nat) t v, Try.f6.params[j]? = some t → args[j]? = some v → Value.okWide Try.prog W .any base t v := hval0
  have hW' := hW
  obtain ⟨p, q, hA0, hV, rfl, hfz, hnd⟩ := hW
  have hA : DataW.TrodAll enc Try.prog W 0 (fun _ => true) true Try.f6.params.toList args.toList ds p := hA0
  have hsz : (DataW.weightsEach Try.prog (Try.f6.params.toList ++ Rows.clockAnewSpec.plain.varTypes Try.prog) (ds ++ gs)).all (· ≤ reachBytes) = true := hsz0
  rw [Try.params6] at hA hval hsz
  obtain ⟨v0, vs0, d0, ds0, p0, q0, hargs, rfl, rfl, h0, r0⟩ := trodAll_cons hA
  obtain ⟨v1, vs1, d1, ds1, p1, q1, rfl, rfl, rfl, h1, r1⟩ := trodAll_cons r0
  obtain ⟨v2, vs2, d2, ds2, p2, q2, rfl, rfl, rfl, h2, r2⟩ := trodAll_cons r1
  obtain ⟨rfl, rfl, rfl⟩ := trodAll_nil r2
  obtain rfl : args = #[v0, v1, v2] := by cases args; simp_all
  obtain ⟨rfl, rfl⟩ := trodVars_none hV
  obtain ⟨a0, rfl, rfl, rfl, w0⟩ := open_int Try.underlying3 (hval 0 3 v0 rfl rfl) h0
  obtain ⟨a1, rfl, rfl, rfl, w1⟩ := open_int Try.underlying3 (hval 1 3 v1 rfl rfl) h1
  obtain ⟨a2, len2, cap2, rfl⟩ := okWide_slice Try.underlying51 (hval 2 51 v2 rfl rfl)
  have k2 := h2
  have lt2 : ∀ x ∈ p2, x.block < W.heap.size := by obtain ⟨m, hm⟩ := k2; exact DataW.trod_lt m _ _ _ hm
  obtain ⟨z2, w2, y2⟩ : ∃ zs, IsInts W (.slice a2 len2 cap2) zs ∧ zs.length ≤ 17592186043904 := by
    obtain ⟨fuel, hf⟩ := h2
    rcases open_ints Try.underlying51 Try.underlying3 (by kernel_rfl) hf with ⟨hcs, _⟩ | ⟨x, l, c, zs, hcs, _, hl, hm, hz, hx, hcell, hwz⟩
    · simp [Value.cells] at hcs
      obtain ⟨rfl, rfl, rfl⟩ := hcs
      exact ⟨[], isInts_nil W, by simp⟩
    · simp [Value.cells] at hcs
      obtain ⟨rfl, rfl, rfl⟩ := hcs
      simp only [Prod.mk.injEq] at hx
      obtain ⟨rfl, rfl⟩ := hx
      have hs := sized_slice hsz (j := 2) (t := 51) (e := 3) rfl rfl Try.underlying51
      rw [Try.bytes3] at hs
      simp only [lits, List.length_map, reachBytes] at hs
      exact ⟨_, isInts_row hl hm (by simpa using hz) hcell hwz, by omega⟩
  clear hA0 hval0
  refine (walk_ClockAnew a0 (wf_i64 w0) a1 (wf_i64 w1) _ z2 w2 y2).mono fun e W' ⟨he, bel⟩ => ?_
  subst he
  exact ⟨_, rfl, _, _, _, [], _, [], hW', trodAll_mk1 (shut_bool Try.underlying4 _), (trodAll_cons_mk (shut_int Try.underlying3 w0) (trodAll_cons_mk (shut_int Try.underlying3 w1) (trodAll_cons_mk (Below.trod laidOut (by kernel_rfl) (of_decide_eq_true (by kernel_rfl)) k2 bel lt2) trodAll_mk0))), rfl, bel.frame _, fun h => by cases h⟩

theorem over_ClockAnew : Rows.clockAnewRow.holds Try.pinned (OpenSpec.ofChange Rows.clockAnewSpec) :=
  OpenClaim.holds_of_wide 6 Try.f6 rfl rfl rfl rfl rfl rfl rfl ⟨rfl, rfl, rfl, rfl, rfl⟩ rfl rfl rfl rfl rfl (by kernel_rfl) Try.func6 (by kernel_rfl)
    (of_decide_eq_true (by kernel_rfl)) (by unfold Func.isWrapper; first | (rw [if_pos (by decide +kernel)]; kernel_rfl) | (rw [if_neg (by decide +kernel)]; exact ⟨rfl, rfl⟩))
    (fun os started H enc _ => lifted_ClockAnew os started H enc)

/-- The statement. -/
theorem clockAnew_holds : Rows.ClockAnewSaid := over_ClockAnew
#print axioms clockAnew_holds

end Go.Proofs.Ytelpdmaphmfkiaa

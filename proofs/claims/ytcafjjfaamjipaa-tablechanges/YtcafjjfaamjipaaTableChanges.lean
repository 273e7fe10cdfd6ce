/-
  TableChanges, for any two rows of hosts: who comes and who stays are all of the one table, who goes and who stays all of the other. No condition.
-/
import Derived.Test.YtcafjjfaamjipaaTableFrame
import Derived.Test.YtcafjjfaamjipaaTableStay
namespace Go.Proofs.Ytcafjjfaamjipaa
open Go.ChangeShapes Go.WideShapes Go.ChangeAt Go.RowKit

theorem ints_eq (L : List Int) (v u : Value) (w : World) (hv : IsInts w v L) (hu : IsInts w u L) : Calls Try.prog 18 #[v, u] w fun e w' => e = .returned (.bool true) ∧ Below w.heap.size w w' := by
  have := rInts_any L L v u w hv hu
  rwa [decide_eq_true rfl] at this
theorem change_yes (hs ts : List HostT) (v u : Value) (vs us : List Value) (w : World) (hv : IsHosts w v vs hs) (hu : IsHosts w u us ts) (h1 : mayTab hs = true) (h2 : mayTab ts = true) :
    Calls Try.prog 15 #[v, u] w fun e w' => ∃ a b c, e = .returned (.tuple #[a, b, c, .int .i64 0]) ∧ IsInts w' a (comeH hs ts) ∧ IsInts w' b (comeH ts hs) ∧ IsInts w' c (stayH hs ts) ∧ Below w.heap.size w w' := by
  refine (tchange_any hs ts v u vs us w hv hu).mono ?_
  rintro e w' ⟨⟨a, b, c, h3, h4, h5, h6⟩, hb⟩
  have e1 : changeR hs ts = (comeH hs ts, comeH ts hs, stayH hs ts, 0) := by unfold changeR; rw [h1, h2]; rfl
  rw [e1] at h3 h4 h5 h6
  exact ⟨a, b, c, h3, h4, h5, h6, hb⟩

set_option maxRecDepth 100000 in
set_option maxHeartbeats 8000000 in
theorem walk_TableChanges (ls : List HostT) (lv : Value) (us : List Value) (_ : ∀ i, i < ls.length → inI (ls.getD i noHost).id) (ts : List HostT) (tv : Value) (vs : List Value) (_ : ∀ i, i < ts.length → inI (ts.getD i noHost).id) (w : World) (hl : IsHosts w lv us ls) (ht : IsHosts w tv vs ts) :
    Calls Try.prog 5 #[lv, tv] w fun e w' => e = .returned (.bool true) ∧ Below w.heap.size w w' := by
  obtain ⟨lo, lc, rfl⟩ := hl.shaped
  obtain ⟨so, tc, rfl⟩ := ht.shaped
  have HL : Hid (∀ W, Below w.heap.size w W → IsHosts W (.slice lo ls.length lc) us ls) := fun W q => hl.below q
  have HT : Hid (∀ W, Below w.heap.size w W → IsHosts W (.slice so ts.length tc) vs ts) := fun W q => ht.below q
  clear hl ht
  have KA : ∀ W, Calls Try.prog 10 #[] W fun e w' => e = .returned (.bool true) ∧ Below W.heap.size W w' := awake8_any
  go_enter Try.func5, Try.ntmps5
  go_wp2_with fail
  refine (light8_any ls _ us _ (HL.out _ (Below.refl _ _))).mono ?_
  rintro e w1 ⟨r1, hr1, rfl, hb⟩
  have HB1 : Hid (Below w.heap.size w w1) := hb
  clear hb
  go_wp2_with fail
  refine (light8_any ts _ vs _ (HT.out _ HB1.out)).mono ?_
  rintro e w2 ⟨r2, hr2, rfl, hb⟩
  have HB2 : Hid (Below w.heap.size w w2) := HB1.out.trans (hb.mono HB1.out.size)
  clear hb
  rcases hr1 with rfl | rfl
  rcases hr2 with rfl | rfl
  rotate_left
  all_goals try
    go_wp2_with fail
    refine (KA _).mono ?_
    rintro e w3 ⟨rfl, hb⟩
    have HB3 : Hid (Below w.heap.size w w3) := HB2.out.trans (hb.mono HB2.out.size)
    clear hb
    go_wp2
    go_ret
    exact ⟨rfl, HB3.out⟩
  · rcases hr2 with rfl | rfl
    all_goals
      go_wp2_with fail
      refine (KA _).mono ?_
      rintro e w3 ⟨rfl, hb⟩
      have HB3 : Hid (Below w.heap.size w w3) := HB2.out.trans (hb.mono HB2.out.size)
      clear hb
      go_wp2
      go_ret
      exact ⟨rfl, HB3.out⟩
  · have K1 := rMayTable_any ls _ us _ (HL.out _ HB2.out)
    go_wp2_with fail
    refine K1.mono ?_
    rintro e w3 ⟨rfl, hb⟩
    have HB3 : Hid (Below w.heap.size w w3) := HB2.out.trans (hb.mono HB2.out.size)
    clear hb K1
    cases hm : mayTab ls with
    | false =>
      go_wp2_with fail
      refine (KA _).mono ?_
      rintro e w4 ⟨rfl, hb⟩
      have HB4 : Hid (Below w.heap.size w w4) := HB3.out.trans (hb.mono HB3.out.size)
      clear hb
      go_wp2
      go_ret
      exact ⟨rfl, HB4.out⟩
    | true =>
      have K2 := rMayTable_any ts _ vs _ (HT.out _ HB3.out)
      go_wp2_with fail
      refine K2.mono ?_
      rintro e w4 ⟨rfl, hb⟩
      have HB4 : Hid (Below w.heap.size w w4) := HB3.out.trans (hb.mono HB3.out.size)
      clear hb K2
      cases hn : mayTab ts with
      | false =>
        go_wp2_with fail
        refine (KA _).mono ?_
        rintro e w5 ⟨rfl, hb⟩
        have HB5 : Hid (Below w.heap.size w w5) := HB4.out.trans (hb.mono HB4.out.size)
        clear hb
        go_wp2
        go_ret
        exact ⟨rfl, HB5.out⟩
      | true =>
        have hr1 := mayTab_rises hm
        have hr2 := mayTab_rises hn
        have h64 : ls.length ≤ 64 := mayTab_le hm
        have h64t : ts.length ≤ 64 := mayTab_le hn
        have c1 := come_stay ls ts
        have c2 := come_stay ts ls
        rw [stayH_comm hr2 hr1] at c2
        have P1 := fun W p q => change_yes ls ts (.slice lo ls.length lc) (.slice so ts.length tc) us vs W p q hm hn
        have P2 := fun W p q => change_yes ts ls (.slice so ts.length tc) (.slice lo ls.length lc) vs us W p q hn hm
        have P3 := fun W p q => change_yes ls ls (.slice lo ls.length lc) (.slice lo ls.length lc) us us W p q hm hm
        rw [stayH_comm hr2 hr1] at P2
        rw [come_self hr1] at P3
        have c3 := stay_self hr1
        generalize comeH ls ts = C1 at c1 P1 P2
        generalize comeH ts ls = C2 at c2 P1 P2
        generalize stayH ls ts = S1 at c1 c2 P1 P2
        generalize stayH ls ls = S2 at c3 P3
        have d1 : (((C1.length : Int) + (S1.length : Int)) != (ts.length : Int)) = false := by rw [bne_eq_false_iff_eq]; omega
        have d2 : (((C2.length : Int) + (S1.length : Int)) != (ls.length : Int)) = false := by rw [bne_eq_false_iff_eq]; omega
        have d3 : ((S2.length : Int) == (ls.length : Int)) = true := by rw [beq_iff_eq]; omega
        have b1 : C1.length ≤ 64 := by omega
        have b2 : C2.length ≤ 64 := by omega
        have b3 : S1.length ≤ 64 := by omega
        have w1' : IntKind.i64.wrap ((C1.length : Int) + (S1.length : Int)) = (C1.length : Int) + (S1.length : Int) := by rw [IntKind.wrap_i64]; omega
        have w2' : IntKind.i64.wrap ((C2.length : Int) + (S1.length : Int)) = (C2.length : Int) + (S1.length : Int) := by rw [IntKind.wrap_i64]; omega
        clear hm hn hr1 hr2 c1 c2 c3
        go_wp2_with fail
        refine (P1 _ (HL.out _ HB4.out) (HT.out _ HB4.out)).mono ?_
        rintro e w5 ⟨a, b, c, rfl, p1, p2, p3, hb⟩
        have HB5 : Hid (Below w.heap.size w w5) := HB4.out.trans (hb.mono HB4.out.size)
        have A5 : Hid (IsInts w5 a C1) := p1
        have B5 : Hid (IsInts w5 b C2) := p2
        have D5 : Hid (IsInts w5 c S1) := p3
        clear hb p1 p2 p3 P1
        go_wp2_with fail
        refine (P2 _ (HT.out _ HB5.out) (HL.out _ HB5.out)).mono ?_
        rintro e w6 ⟨a', b', c', rfl, p1, p2, p3, hb⟩
        have HB6 : Hid (Below w.heap.size w w6) := HB5.out.trans (hb.mono HB5.out.size)
        obtain ⟨ao, ac, rfl⟩ := A5.out.shape
        obtain ⟨bo, bc, rfl⟩ := B5.out.shape
        obtain ⟨co, cc, rfl⟩ := D5.out.shape
        have A6 : Hid (IsInts w6 (.slice ao C1.length ac) C1) := A5.out.below hb
        have B6 : Hid (IsInts w6 (.slice bo C2.length bc) C2) := B5.out.below hb
        have D6 : Hid (IsInts w6 (.slice co S1.length cc) S1) := D5.out.below hb
        have A6' : Hid (IsInts w6 a' C2) := p1
        have B6' : Hid (IsInts w6 b' C1) := p2
        have D6' : Hid (IsInts w6 c' S1) := p3
        clear hb p1 p2 p3 P2 A5 B5 D5
        go_wp2_with fail
        refine (ints_eq C1 _ _ _ A6.out B6'.out).mono ?_
        rintro e w7 ⟨rfl, hb⟩
        have HB7 : Hid (Below w.heap.size w w7) := HB6.out.trans (hb.mono HB6.out.size)
        have B7 : Hid (IsInts w7 (.slice bo C2.length bc) C2) := B6.out.below hb
        have D7 : Hid (IsInts w7 (.slice co S1.length cc) S1) := D6.out.below hb
        have A7' : Hid (IsInts w7 a' C2) := A6'.out.below hb
        have D7' : Hid (IsInts w7 c' S1) := D6'.out.below hb
        clear hb
        go_wp2_with fail
        refine (ints_eq C2 _ _ _ B7.out A7'.out).mono ?_
        rintro e w8 ⟨rfl, hb⟩
        have HB8 : Hid (Below w.heap.size w w8) := HB7.out.trans (hb.mono HB7.out.size)
        have D8 : Hid (IsInts w8 (.slice co S1.length cc) S1) := D7.out.below hb
        have D8' : Hid (IsInts w8 c' S1) := D7'.out.below hb
        clear hb
        go_wp2_with fail
        refine (ints_eq S1 _ _ _ D8.out D8'.out).mono ?_
        rintro e w9 ⟨rfl, hb⟩
        have HB9 : Hid (Below w.heap.size w w9) := HB8.out.trans (hb.mono HB8.out.size)
        clear hb
        go_wp2_with fail
        refine (P3 _ (HL.out _ HB9.out) (HL.out _ HB9.out)).mono ?_
        rintro e wa ⟨x, y, z, rfl, p1, p2, p3, hb⟩
        have HBa : Hid (Below w.heap.size w wa) := HB9.out.trans (hb.mono HB9.out.size)
        obtain ⟨xo, xc, rfl⟩ := p1.shape
        obtain ⟨yo, yc, rfl⟩ := p2.shape
        obtain ⟨zo, zc, rfl⟩ := p3.shape
        clear hb p1 p2 p3 P3
        go_wp2_with fail
        refine (KA _).mono ?_
        rintro e wb ⟨rfl, hb⟩
        have HBb : Hid (Below w.heap.size w wb) := HBa.out.trans (hb.mono HBa.out.size)
        clear hb
        go_wp2
        go_ret
        exact ⟨rfl, HBb.out⟩


set_option maxRecDepth 100000 in
theorem lifted_TableChanges (os : Os) (started : os.Started) (H : Type) (enc : TypeId × Value → H) :
    ReturnsInHanded {} Try.checked os 5 .any (Rows.tableChangesSpec.pre6 enc Try.prog Try.f5 Rows.tableChangesRow.domain false) (Rows.tableChangesSpec.post enc Try.prog Try.f5 false true false false) := by
  refine returnsInHanded_of_change (C := Try.checked) own started (by kernel_rfl) Try.func5
    (ChangeSpec.witness6 (enc := enc) (C := Try.checked) false ⟨#[], #[.slice none 0 0, .slice none 0 0], []⟩ 8 (by kernel_rfl) (by kernel_rfl) (by kernel_rfl) (by kernel_rfl)) ?_
  intro W base args ds gs before hval0 hW hcnd _
  have hval : ∀ (j : Nat) t v, Try.f5.params[j]? = some t → args[j]? = some v → Value.okWide Try.prog W .any base t v := hval0
  have hW' := hW
  obtain ⟨p, q, hA0, hV, rfl, hfz, hnd⟩ := hW
  have hA : DataW.TrodAll enc Try.prog W 0 (fun _ => true) true Try.f5.params.toList args.toList ds p := hA0
  rw [Try.params5] at hA hval
  obtain ⟨v0, vs0, d0, ds0, p0, q0, hargs, rfl, rfl, h0, r0⟩ := trodAll_cons hA
  obtain ⟨v1, vs1, d1, ds1, p1, q1, rfl, rfl, rfl, h1, r1⟩ := trodAll_cons r0
  obtain ⟨rfl, rfl, rfl⟩ := trodAll_nil r1
  obtain rfl : args = #[v0, v1] := by cases args; simp_all
  obtain ⟨rfl, rfl⟩ := trodVars_none hV
  have k0 := h0
  have lt0 : ∀ x ∈ p0, x.block < W.heap.size := by obtain ⟨m, hm⟩ := k0; exact DataW.trod_lt m _ _ _ hm
  obtain ⟨us0, c0, w0, i0⟩ := open_hosts (hval 0 22 v0 rfl rfl) h0
  have k1 := h1
  have lt1 : ∀ x ∈ p1, x.block < W.heap.size := by obtain ⟨m, hm⟩ := k1; exact DataW.trod_lt m _ _ _ hm
  obtain ⟨us1, c1, w1, i1⟩ := open_hosts (hval 1 22 v1 rfl rfl) h1
  clear hA0 hval0
  refine (walk_TableChanges c0 v0 us0 i0 c1 v1 us1 i1 W w0 w1).mono fun e W' ⟨he, bel⟩ => ?_
  subst he
  exact ⟨_, rfl, _, _, _, [], _, [], hW', trodAll_mk1 (shut_bool Try.underlying4 _), (trodAll_cons_mk (Below.trod laidOut (by kernel_rfl) (of_decide_eq_true (by kernel_rfl)) k0 bel lt0) (trodAll_cons_mk (Below.trod laidOut (by kernel_rfl) (of_decide_eq_true (by kernel_rfl)) k1 bel lt1) trodAll_mk0)), rfl, bel.frame _, fun h => by cases h⟩

theorem over_TableChanges : Rows.tableChangesRow.holds Try.pinned (OpenSpec.ofChange Rows.tableChangesSpec) :=
  OpenClaim.holds_of_wide 5 Try.f5 rfl rfl rfl rfl rfl rfl rfl ⟨rfl, rfl, rfl, rfl, rfl⟩ rfl rfl rfl rfl rfl (by kernel_rfl) Try.func5 (by kernel_rfl)
    (of_decide_eq_true (by kernel_rfl)) (by unfold Func.isWrapper; first | (rw [if_pos (by decide +kernel)]; kernel_rfl) | (rw [if_neg (by decide +kernel)]; exact ⟨rfl, rfl⟩))
    (fun os started H enc _ => lifted_TableChanges os started H enc)

/-- The statement. -/
theorem tableChanges_holds : Rows.TableChangesSaid := over_TableChanges
#print axioms tableChanges_holds

end Go.Proofs.Ytcafjjfaamjipaa

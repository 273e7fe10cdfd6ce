/-
  TableFull, for any host and any number: as many hosts as may be are put in, and no more. No condition.
-/
import Derived.Test.YtcafjjfaamjipaaTableFrame
import Derived.Test.YtcafjjfaamjipaaTableFill
namespace Go.Proofs.Ytcafjjfaamjipaa
open Go.ChangeShapes Go.WideShapes Go.ChangeAt Go.RowKit

theorem OwnHosts.on {w w' : World} {base hT pT : Nat} {v : Value} {vs : List Value} {hs : List HostT} (h : OwnHosts w base hT pT v vs hs) (hb : ∀ g, base ≤ g → g < w.heap.size → w'.heap[g]? = w.heap[g]?) : OwnHosts w' base hT pT v vs hs :=
  ⟨h.same, own_on h.row hb, fun i hi => own_on (h.tags i hi) hb⟩
theorem fill_ok {h : HostT} (oh : okHost h) (hp : ∀ p ∈ h.tags, okPair p) (k : Nat) : (∀ i, i < (fill h k).length → okHost ((fill h k).getD i noHost)) ∧ ∀ i, i < (fill h k).length → ∀ p ∈ ((fill h k).getD i noHost).tags, okPair p :=
  ⟨fun i hi => by rw [fill_at h k i (by rwa [fill_length] at hi)]; exact oh, fun i hi => by rw [fill_at h k i (by rwa [fill_length] at hi)]; exact hp⟩
theorem cut_full {h : HostT} (hm : mayHost h = true) (k n : Nat) (hk : k ≤ 64) (hn : k < n) : (cutR (fill h k) (n : Int)).2 = 4 := by
  unfold cutR
  rw [fill_may hm k hk, if_pos rfl, fill_none h k n (by omega), if_pos (by omega)]

set_option maxRecDepth 100000 in
set_option maxHeartbeats 8000000 in
theorem walk_TableFull (h : HostT) (mv : Value) (oh : okHost h) (_ : inI h.id ∧ inI h.prio ∧ inI h.weight) (_ : h.tags.length ≤ 4398046510976) (n : Int) (_ : -9223372036854775808 ≤ n ∧ n ≤ 9223372036854775807) (w : World) (hm : IsPairs w mv h.tags) :
    Calls Try.prog 7 #[hval h mv, .int .i64 n] w fun e w' => e = .returned (.bool true) ∧ Below w.heap.size w w' := by
  obtain ⟨mo, mc, rfl⟩ := hm.shaped
  have HM : Hid (∀ W, Below w.heap.size w W → IsPairs W (.slice mo h.tags.length mc) h.tags) := fun W q => hm.below q
  have HP : Hid (∀ p ∈ h.tags, okPair p) := hm.1
  clear hm
  obtain ⟨N, hN, eN⟩ := u_mod8 n 67 (by decide)
  replace eN : (IntKind.u64.wrap n).tmod 67 = (N : Int) := eN
  have KA : ∀ W, Calls Try.prog 10 #[] W fun e w' => e = .returned (.bool true) ∧ Below W.heap.size W w' := awake8_any
  go_enter Try.func7, Try.ntmps7
  go_wp2_with fail
  refine (light_any h _ _ (HM.out _ ((Below.refl _ _).alloc (Nat.le_refl _) _))).mono ?_
  rintro e w1 ⟨r, hr, rfl, hb⟩
  have HX1 : Hid (HasBox w1 w.heap.size 25 (hcells h (.slice mo h.tags.length mc))) := (hasBox_new w _ _).below hb
  have HB1 : Hid (Below w.heap.size w w1) := ((Below.refl _ _).alloc (Nat.le_refl _) _).trans (hb.mono (by simp))
  clear hb
  rcases hr with rfl | rfl
  · have KH := rMayHost_any h (.slice mo h.tags.length mc) w1 oh (HM.out _ HB1.out)
    go_wp2_with (first | (refine wpList_load_box rfl 25 (.tmp 2) rfl w.heap.size rfl 25 _ _ HX1.out Try.underlying25 rfl sizeHost ?_) | fail)
    refine KH.mono ?_
    rintro e w2 ⟨rfl, hb⟩
    have HX2 : Hid (HasBox w2 w.heap.size 25 (hcells h (.slice mo h.tags.length mc))) := HX1.out.below hb
    have HB2 : Hid (Below w.heap.size w w2) := HB1.out.trans (hb.mono HB1.out.size)
    clear hb KH
    cases hmh : mayHost h with
    | false =>
      go_wp2_with fail
      refine (KA _).mono ?_
      rintro e w3 ⟨rfl, hb⟩
      have HB3 : Hid (Below w.heap.size w w3) := HB2.out.trans (hb.mono HB2.out.size)
      clear hb
      go_wp2
      go_ret
      exact ⟨rfl, HB3.out⟩
    | true =>
      have h6h : h.tags.length ≤ 6 := mayHost_tags hmh
      have HMh : Hid (mayHost h = true) := hmh
      clear hmh
      have HF1 : Hid (∀ k : Nat, k < 64 → addR (fill h k) (idH h (k + 1 : Nat)) = (fill h (k + 1), 0)) := fun k hk => fill_add HMh.out k hk
      have HF2 : Hid (∀ k : Nat, 64 ≤ k → k ≤ 1000 → addR (fill h 64) (idH h (k + 1 : Nat)) = ([], 6)) := fun k hk h2 => fill_full HMh.out k hk h2
      go_wp2
      go_loopw [5, 25] (fun l i wr => ∃ (k : Nat) (j : Int) (vs : List Value), k ≤ N ∧ i = .int .i64 k ∧ HasBox wr w.heap.size 25 (hcells (idH h j) (.slice mo h.tags.length mc)) ∧ OwnHosts wr (w.heap.size + 1) 25 48 l vs (fill h (min k 64)) ∧ Below w.heap.size w wr) (fun _ i _ => N - (intOf i).toNat)
      case atStart => exact ⟨0, h.id, [], Nat.zero_le _, rfl, HX2.out, ownHosts_nil _ _ _ _, HB2.out⟩
      case round =>
        obtain ⟨k, j, vs, hk, rfl, hx, ho, hb⟩ := hrel
        obtain ⟨lo, lc, hlo⟩ := (isRow_own ho.row).shaped
        have HX : Hid (HasBox wr w.heap.size 25 (hcells (idH h j) (.slice mo h.tags.length mc))) := hx
        have HO : Hid (OwnHosts wr (w.heap.size + 1) 25 48 u5 vs (fill h (min k 64))) := ho
        have HB : Hid (Below w.heap.size w wr) := hb
        clear hx ho hb
        subst hlo
        by_cases hlt : k < N
        · have c0 : wr.cell? ⟨w.heap.size, 0, none⟩ = some (.int .i64 j) := HX.out.cell 0
          have f0 : wr.frozen? ⟨w.heap.size, 0, none⟩ = false := HX.out.frozen 0
          go_upto_region 9 with fail
          generalize hW1 : wr.setCell _ _ = W1
          have HX1' : Hid (HasBox W1 w.heap.size 25 (hcells (idH h (k + 1 : Nat)) (.slice mo h.tags.length mc))) := by
            show HasBox _ _ _ _
            rw [← hW1, show (1 : Int) + (k : Int) = ((k + 1 : Nat) : Int) by omega]
            exact HX.out.set 0 _
          have HO1 : Hid (OwnHosts W1 (w.heap.size + 1) 25 48 (.slice lo (fill h (min k 64)).length lc) vs (fill h (min k 64))) := by
            show OwnHosts _ _ _ _ _ _ _
            rw [← hW1]
            refine HO.out.on fun g hg _ => ?_
            simp [World.setCell, Array.getElem?_modify]
            omega
          have HB1' : Hid (Below w.heap.size w W1) := by
            show Below _ _ _
            rw [← hW1]; exact HB.out.setCell (by simp) _
          have HS1 : Hid (w.heap.size + 1 ≤ W1.heap.size) := HX1'.out.lt
          clear hW1 c0 f0 HX HO
          have KT := tadd_any (fill h (min k 64)) (idH h (k + 1 : Nat)) (.slice mo h.tags.length mc) (.slice lo (fill h (min k 64)).length lc) vs W1 (HO1.out.isHosts (fill_ok oh HP.out _).1 (fill_ok oh HP.out _).2) oh (HM.out _ HB1'.out)
          by_cases h64 : k < 64
          · have hmin : min k 64 = k := by omega
            have h64' : (k : Int) < 64 := by omega
            have HN : Hid (min (k + 1) 64 = k + 1) := by show _ = _; omega
            rw [hmin] at KT
            rw [HF1.out k h64] at KT
            go_wp2_with (first | (refine wpList_load_box rfl 25 (.tmp 2) rfl w.heap.size rfl 25 _ _ HX1'.out Try.underlying25 rfl sizeHost ?_) | fail)
            refine KT.mono ?_
            rintro e w4 ⟨hL, hb⟩
            have HX4 : Hid (HasBox w4 w.heap.size 25 (hcells (idH h (k + 1 : Nat)) (.slice mo h.tags.length mc))) := HX1'.out.below hb
            have HB4 : Hid (Below w.heap.size w w4) := HB1'.out.trans (hb.mono (by have := HS1.out; omega))
            clear hb KT
            rcases hL with ⟨h0, _⟩ | ⟨_, v', vs', rfl, ho⟩
            · exact absurd rfl h0
            have HO4 : Hid (OwnHosts w4 (w.heap.size + 1) 25 48 v' vs' (fill h (min (k + 1) 64))) := by
              show OwnHosts _ _ _ _ _ _ _
              rw [HN.out]; exact ho.from HS1.out
            clear ho
            go_wp2
            go_roundw
            case rel => exact ⟨k + 1, _, vs', by omega, by go_num, HX4.out, HO4.out, HB4.out⟩
            case measure => simp [intOf]; omega
          · have hmin : min k 64 = 64 := by omega
            have h64' : ¬ (k : Int) < 64 := by omega
            have HN : Hid (min (k + 1) 64 = 64) := by show _ = _; omega
            rw [hmin] at KT HO1
            rw [HF2.out k (by omega) (by omega)] at KT
            rw [hmin]
            go_wp2_with (first | (refine wpList_load_box rfl 25 (.tmp 2) rfl w.heap.size rfl 25 _ _ HX1'.out Try.underlying25 rfl sizeHost ?_) | fail)
            refine KT.mono ?_
            rintro e w4 ⟨hL, hb⟩
            have HX4 : Hid (HasBox w4 w.heap.size 25 (hcells (idH h (k + 1 : Nat)) (.slice mo h.tags.length mc))) := HX1'.out.below hb
            have HB4 : Hid (Below w.heap.size w w4) := HB1'.out.trans (hb.mono (by have := HS1.out; omega))
            have HO4 : Hid (OwnHosts w4 (w.heap.size + 1) 25 48 (.slice lo (fill h 64).length lc) vs (fill h (min (k + 1) 64))) := by
              show OwnHosts _ _ _ _ _ _ _
              rw [HN.out]; exact HO1.out.below hb
            clear hb KT HO1
            rcases hL with ⟨_, rfl⟩ | ⟨h0, _⟩
            · go_wp2
              go_roundw
              case rel => exact ⟨k + 1, _, vs, by omega, by go_num, HX4.out, HO4.out, HB4.out⟩
              case measure => simp [intOf]; omega
            · exact absurd h0 (by decide)
        · obtain rfl : k = N := by omega
          have HFL : Hid ((fill h (min k 64)).length = min k 64) := fill_length _ _
          have KC := tcut_any (fill h (min k 64)) ((k + 1 : Nat) : Int) (.slice lo (fill h (min k 64)).length lc) vs wr (HO.out.isHosts (fill_ok oh HP.out _).1 (fill_ok oh HP.out _).2)
          have h4 := cut_full HMh.out (min k 64) (k + 1) (by omega) (by omega)
          have hcast : ((k + 1 : Nat) : Int) = (k : Int) + 1 := by omega
          rw [hcast] at KC h4
          have hw : IntKind.i64.wrap ((k : Int) + 1) = (k : Int) + 1 := by rw [IntKind.wrap_i64]; omega
          clear hcast
          go_wp2_with fail
          refine KC.mono ?_
          rintro e w4 ⟨hL, hb⟩
          have HB4 : Hid (Below w.heap.size w w4) := HB.out.trans (hb.mono HB.out.size)
          clear hb KC
          rcases hL with ⟨_, rfl⟩ | ⟨h0, _⟩
          · rw [h4]
            clear h4
            by_cases hk64 : 64 < k
            · have h64' : (64 : Int) < (k : Int) := by omega
              have hlen : (((fill h (min k 64)).length : Int) == 64) = true := by rw [HFL.out, beq_iff_eq]; omega
              go_wp2_with fail
              refine (KA _).mono ?_
              rintro e w5 ⟨rfl, hb⟩
              have HB5 : Hid (Below w.heap.size w w5) := HB4.out.trans (hb.mono HB4.out.size)
              clear hb
              go_wp2
              go_ret
              exact ⟨rfl, HB5.out⟩
            · have h64' : ¬ (64 : Int) < (k : Int) := by omega
              have hlen : (((fill h (min k 64)).length : Int) == (k : Int)) = true := by rw [HFL.out, beq_iff_eq]; omega
              go_wp2_with fail
              refine (KA _).mono ?_
              rintro e w5 ⟨rfl, hb⟩
              have HB5 : Hid (Below w.heap.size w w5) := HB4.out.trans (hb.mono HB4.out.size)
              clear hb
              go_wp2
              go_ret
              exact ⟨rfl, HB5.out⟩
          · rw [h4] at h0
            exact absurd h0 (by decide)
  · go_wp2_with fail
    refine (KA _).mono ?_
    rintro e w3 ⟨rfl, hb⟩
    have HB3 : Hid (Below w.heap.size w w3) := HB1.out.trans (hb.mono HB1.out.size)
    clear hb
    go_wp2
    go_ret
    exact ⟨rfl, HB3.out⟩


set_option maxRecDepth 100000 in
theorem lifted_TableFull (os : Os) (started : os.Started) (H : Type) (enc : TypeId × Value → H) :
    ReturnsInHanded {} Try.checked os 7 .any (Rows.tableFullSpec.pre6 enc Try.prog Try.f7 Rows.tableFullRow.domain false) (Rows.tableFullSpec.post enc Try.prog Try.f7 false true false false) := by
  refine returnsInHanded_of_change_sized (C := Try.checked) own started (by kernel_rfl) Try.func7
    (ChangeSpec.witness6 (enc := enc) (C := Try.checked) false ⟨#[], #[.agg #[.int .i64 0, .string ByteArray.empty, .int .i64 0, .string ByteArray.empty, .int .i64 0, .slice none 0 0], .int .i64 0], []⟩ 8 (by kernel_rfl) (by kernel_rfl) (by kernel_rfl) (by kernel_rfl)) ?_
  intro W base args ds gs before hval0 hW hcnd hsz0 hholds
  have hval : ∀ (j : Nat) t v, Try.f7.params[j]? = some t → args[j]? = some v → Value.okWide Try.prog W .any base t v := hval0
  have hW' := hW
  obtain ⟨p, q, hA0, hV, rfl, hfz, hnd⟩ := hW
  have hA : DataW.TrodAll enc Try.prog W 0 (fun _ => true) true Try.f7.params.toList args.toList ds p := hA0
  have hsz : (DataW.weightsEach Try.prog (Try.f7.params.toList ++ Rows.tableFullSpec.plain.varTypes Try.prog) (ds ++ gs)).all (· ≤ reachBytes) = true := hsz0
  rw [Try.params7] at hA hval hsz
  obtain ⟨v0, vs0, d0, ds0, p0, q0, hargs, rfl, rfl, h0, r0⟩ := trodAll_cons hA
  obtain ⟨v1, vs1, d1, ds1, p1, q1, rfl, rfl, rfl, h1, r1⟩ := trodAll_cons r0
  obtain ⟨rfl, rfl, rfl⟩ := trodAll_nil r1
  obtain rfl : args = #[v0, v1] := by cases args; simp_all
  obtain ⟨rfl, rfl⟩ := trodVars_none hV
  have k0 := h0
  have lt0 : ∀ x ∈ p0, x.block < W.heap.size := by obtain ⟨m, hm⟩ := k0; exact DataW.trod_lt m _ _ _ hm
  obtain ⟨c0, m0, dm0, rfl, o0, i0, w0, rfl, x0⟩ := open_host (hval 0 25 v0 rfl rfl) h0
  have z0 : c0.tags.length ≤ 4398046510976 := sized_host hsz (j := 0) rfl rfl x0
  obtain ⟨a1, rfl, rfl, rfl, w1⟩ := open_int Try.underlying3 (hval 1 3 v1 rfl rfl) h1
  clear hA0 hval0
  refine (walk_TableFull c0 m0 o0 i0 z0 a1 (wf_i64 w1) W w0).mono fun e W' ⟨he, bel⟩ => ?_
  subst he
  exact ⟨_, rfl, _, _, _, [], _, [], hW', trodAll_mk1 (shut_bool Try.underlying4 _), (trodAll_cons_mk (Below.trod laidOut (by kernel_rfl) (of_decide_eq_true (by kernel_rfl)) k0 bel lt0) (trodAll_cons_mk (shut_int Try.underlying3 w1) trodAll_mk0)), rfl, bel.frame _, fun h => by cases h⟩

theorem over_TableFull : Rows.tableFullRow.holds Try.pinned (OpenSpec.ofChange Rows.tableFullSpec) :=
  OpenClaim.holds_of_wide 7 Try.f7 rfl rfl rfl rfl rfl rfl rfl ⟨rfl, rfl, rfl, rfl, rfl⟩ rfl rfl rfl rfl rfl (by kernel_rfl) Try.func7 (by kernel_rfl)
    (of_decide_eq_true (by kernel_rfl)) (by unfold Func.isWrapper; first | (rw [if_pos (by decide +kernel)]; kernel_rfl) | (rw [if_neg (by decide +kernel)]; exact ⟨rfl, rfl⟩))
    (fun os started H enc _ => lifted_TableFull os started H enc)

/-- The statement. -/
theorem tableFull_holds : Rows.TableFullSaid := over_TableFull
#print axioms tableFull_holds

end Go.Proofs.Ytcafjjfaamjipaa

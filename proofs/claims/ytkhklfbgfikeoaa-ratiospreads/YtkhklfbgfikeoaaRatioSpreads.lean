/-
  Proved: triagelaw1.RatioSpreads returns true for every int and every slice of ints and changes nothing that was there. No condition beyond the row's own reach.
-/
import Derived.Test.YtkhklfbgfikeoaaFrame
import Derived.Test.YtkhklfbgfikeoaaSpreadPlain
import Derived.WalkSmall
namespace Go.Proofs.Ytkhklfbgfikeoaa
open Go.ChangeShapes Go.WideShapes Go.ChangeAt Go.RowKit
open Go.ChangeMaps (open_string shut_string)
set_option linter.unusedVariables false

/-- A part as the statement makes it. -/
def mp (x : Int) : Int := (IntKind.u64.wrap x).tmod 100000
theorem mp_bd (x : Int) : 0 ≤ mp x ∧ mp x < 100000 := by
  unfold mp
  rw [IntKind.wrap_u64, Int.tmod_eq_emod_of_nonneg (by omega)]
  omega
theorem mp_get (l : List Int) (k : Nat) (h : k < l.length) : (l.map mp).getD k 0 = mp (l.getD k 0) := by
  rw [getD_get _ _ (by simpa using h), getD_get _ _ h]; simp
theorem mp_sm (l : List Int) : 0 ≤ sm (l.map mp) ∧ sm (l.map mp) ≤ l.length * 100000 := by
  have h := sm_le (l.map mp) 100000 (by omega) (fun x hx => by
    simp only [List.mem_map] at hx
    obtain ⟨y, _, rfl⟩ := hx
    have := mp_bd y
    omega)
  have h2 := sm_nonneg (l.map mp)
  simp only [List.length_map] at h
  exact ⟨h2, h⟩
theorem mp_sum (l : List Int) (h : l.length ≤ 60) : sumV (l.map mp) = sm (l.map mp) := by
  have := mp_sm l
  exact sum_in _ (by omega)
theorem mp_may (T : Int) (l : List Int) (h : l.length ≤ 60) (h0 : 0 ≤ T) (h1 : T ≤ 1000000) (hs : sm (l.map mp) ≠ 0) : mayB T (l.map mp) = true := by
  refine may_yes T _ h0 h1 (by rw [mp_sum l h]; exact hs) fun k hk => ?_
  have hk' : k < l.length := by simpa using hk
  rw [mp_get l k hk']
  have := mp_bd (l.getD k 0)
  have hb : (100000 : Int) ≤ 4611686018427387904 / ((l.map mp).length : Int) := by
    have hn : ((l.map mp).length : Int) = l.length := by simp
    rw [hn]
    exact (Int.le_ediv_iff_mul_le (by omega)).2 (by omega)
  omega
theorem mp_none (T : Int) (l : List Int) (h : l.length ≤ 60) (hs : sm (l.map mp) = 0) : spreadV T (l.map mp) = [] := by
  have e := may_no3 T (l.map mp) (by rw [mp_sum l h]; exact hs)
  unfold spreadV
  rw [e]; rfl

theorem u64mod (a m : Int) (hm : 0 < m) : 0 ≤ (IntKind.u64.wrap a).tmod m ∧ (IntKind.u64.wrap a).tmod m < m := by
  rw [IntKind.wrap_u64, Int.tmod_eq_emod_of_nonneg (by omega)]
  exact ⟨Int.emod_nonneg _ (by omega), Int.emod_lt_of_pos _ hm⟩

set_option maxRecDepth 100000 in
set_option maxHeartbeats 4000000 in
theorem walk_RatioSpreads {w : World} (total : Int) (wt : -9223372036854775808 ≤ total ∧ total ≤ 9223372036854775807) (v0 : Value) (l : List Int) (hl : IsInts w v0 l) (rl : l.length ≤ 17592186043904) :
    Calls Try.prog 4 #[.int .i64 total, v0] w fun e w' => e = .returned (.bool true) ∧ Below w.heap.size w w' := by
  have HL : Hid (IsInts w v0 l) := hl
  have HLc : Hid (∀ k, k < l.length → ∃ b off cap, v0 = .slice (some ⟨b, off, none⟩) l.length cap ∧ b < w.heap.size ∧ w.cell? ⟨b, off + k, none⟩ = some (.int .i64 (l.getD k 0))) := by
    intro k hk
    rcases hl.2.2 with ⟨rfl, _⟩ | ⟨_, b, off, cap, rfl, hlt, hc⟩
    · simp at hk
    · exact ⟨b, off, cap, rfl, hlt, hc k hk⟩
  obtain ⟨ao, cap, rfl⟩ := hl.shape
  obtain ⟨i0, hi0, hz0, hz1, hz2⟩ := info_parts Try.info3
  clear hl
  by_cases hgt : 60 < l.length
  · go_enter Try.func4, Try.ntmps4
    go_wp2_with fail
    refine (awake_any _).mono ?_
    rintro e w1 ⟨rfl, hb1⟩
    go_wp2
    go_ret
    exact ⟨rfl, hb1⟩
  · have bT := u64mod total 1000001 (by omega)
    obtain ⟨T, hT⟩ : ∃ T, (IntKind.u64.wrap total).tmod 1000001 = T := ⟨_, rfl⟩
    rw [hT] at bT
    have hlen : l.length ≤ 60 := by omega
    have HMay : Hid (sm (l.map mp) ≠ 0 → mayB T (l.map mp) = true) := mp_may T l hlen bT.1 (by omega)
    have HNone : Hid (sm (l.map mp) = 0 → spreadV T (l.map mp) = []) := mp_none T l hlen
    have HSB : Hid (∀ k, 0 ≤ sm ((l.map mp).take k) ∧ sm ((l.map mp).take k) ≤ 6000000) := fun k => by
      have h1 := sm_nonneg ((l.map mp).take k)
      have h2 := sm_take_le (l.map mp) k
      have h3 := mp_sm l
      omega
    have HPB : Hid (∀ k, k < (l.map mp).length → 0 ≤ (l.map mp).getD k 0 ∧ (l.map mp).getD k 0 < 100000) := fun k hk => by
      rw [mp_get l k (by simpa using hk)]; exact mp_bd _
    have HPm : Hid (∀ x ∈ l.map mp, -9223372036854775808 ≤ x ∧ x ≤ 9223372036854775807) := fun x hx => by
      simp only [List.mem_map] at hx
      obtain ⟨y, _, rfl⟩ := hx
      have := mp_bd y
      omega
    have HPg : Hid (∀ k, k < l.length → (l.map mp).getD k 0 = mp (l.getD k 0)) := mp_get l
    clear hgt rl wt
    obtain ⟨PL, hPL⟩ : ∃ PL, l.map mp = PL := ⟨_, rfl⟩
    have hPLn : PL.length = l.length := by rw [← hPL]; simp
    rw [hPL] at HMay HNone HSB HPB HPm HPg
    clear hPL
    obtain ⟨L, hL⟩ : ∃ L, l.length = L := ⟨_, rfl⟩
    rw [hL] at hlen HL HLc HPg hPLn ⊢
    have HPn : Hid (PL.length = L) := hPLn
    clear hL hPLn
    go_enter Try.func4, Try.ntmps4
    go_wp2
    go_loopw [5, 6, 24] (fun v s i wr => ∃ k : Nat, k ≤ L ∧ i = .int .i64 k ∧ s = .int .i64 (sm (PL.take k)) ∧ Hid (wr.ownsRow w.heap.size 3 1 v (PL.take k).length ((PL.take k).map (Value.int .i64))) ∧ Hid (Below w.heap.size w wr)) (fun _ _ i _ => L - (intOf i).toNat)
    case atStart => exact ⟨0, by omega, rfl, rfl, World.ownsRow_nil _ _ _ _, Below.refl _ _⟩
    case round =>
      obtain ⟨k, hk, rfl, rfl, hown, hbel⟩ := hrel
      by_cases hlt : k < L
      · obtain ⟨b, off, cap', hv, hb, hc⟩ := HLc.out k hlt
        simp only [Value.slice.injEq] at hv
        obtain ⟨rfl, _, rfl⟩ := hv
        have hc' : wr.cell? ⟨b, off + k, none⟩ = some (.int .i64 (l.getD k 0)) := (hbel.out.cell (p := ⟨b, off + k, none⟩) hb).trans hc
        have hsn := sm_snoc PL k (by rw [HPn.out]; exact hlt)
        have htk := take_snoc PL k (by rw [HPn.out]; exact hlt)
        rw [HPg.out k hlt] at hsn htk
        obtain ⟨y, hy⟩ : ∃ y, l.getD k 0 = y := ⟨_, rfl⟩
        rw [hy] at hc' hsn htk
        have by0 := mp_bd y
        rw [oz_pos by0.1] at hsn
        obtain ⟨x, hx⟩ : ∃ x, mp y = x := ⟨_, rfl⟩
        have hx2 : (IntKind.u64.wrap y).tmod 100000 = x := hx
        rw [hx] at hsn htk by0
        have HSN : Hid (sm (PL.take (k + 1)) = sm (PL.take k) + x) := hsn
        have HTK : Hid (PL.take (k + 1) = PL.take k ++ [x]) := htk
        have HLK : Hid ((PL.take k).length = k) := by show _ = _; rw [List.length_take, HPn.out]; omega
        have hs1 := HSB.out k
        clear hsn htk hx hy hc
        go_wp2_with (at_builtin; refine wpList_append_ints rfl (.tmp 32) (.tmp 34) 22 rfl w.heap.size 3 i0 Try.underlying22 hi0 hz0 hz1 hz2 _ (PL.take k) rfl (hown.out.alloc _) _ [x] rfl (IsInts.fresh wr [x] 3 1 (by simp; omega) (by simp) (by simp)) (by rw [HLK.out]; simp; omega) (by have := hbel.out.size; simp; omega) ?_)
        intro v' w1 hown' hgrow
        have HO1 : Hid (w1.ownsRow w.heap.size 3 1 v' (PL.take (k + 1)).length ((PL.take (k + 1)).map (Value.int .i64))) := by
          show World.ownsRow _ _ _ _ _ _ _
          rw [HTK.out]; simpa using hown'
        have HB1 : Hid (Below w.heap.size w w1) := (hbel.out.alloc hbel.out.size _).grown hgrow (by have := hbel.out.size; simp; omega) (own_base hown.out)
        clear hown' hgrow
        go_wp2
        go_roundw
        case rel => exact ⟨k + 1, by omega, by go_num, by rw [HSN.out], HO1, HB1⟩
        case measure => simp [intOf]; omega
      · have hkL : k = L := by omega
        subst hkL
        have hfull : PL.take k = PL := List.take_of_length_le (by rw [HPn.out]; omega)
        have hs1 := HSB.out k
        rw [hfull] at hs1 hown ⊢
        have HIP : Hid (IsInts wr _ PL) := isInts_own hown.out rfl (by rw [HPn.out]; omega) HPm.out
        clear hfull hown HL HLc HPg HSB
        go_wp2_with fail
        refine (spread_any T PL _ _ HIP.out (by rw [HPn.out]; omega)).mono ?_
        rintro e w2 ⟨vO, rfl, hiO, hb2⟩
        have HIP2 : Hid (IsInts w2 _ PL) := HIP.out.below hb2
        have HB2 : Hid (Below w.heap.size w w2) := hbel.out.trans (hb2.mono hbel.out.size)
        clear hb2 hbel
        by_cases hz : sm PL = 0
        · rw [HNone.out hz] at hiO
          obtain ⟨ao2, cap2, rfl⟩ := hiO.shape
          have hzb : (sm PL == 0) = true := by simp [hz]
          clear hz hiO
          go_wp2_with fail
          refine (awake_any _).mono ?_
          rintro e w3 ⟨rfl, hb3⟩
          go_wp2
          go_ret
          exact ⟨rfl, HB2.out.trans (hb3.mono HB2.out.size)⟩
        · have hm := HMay.out hz
          have hzb : (sm PL == 0) = false := by simp [hz]
          have hS0 : 0 < sm PL := by omega
          have hk0 : 0 < k := by
            rcases Nat.eq_zero_or_pos k with h | h
            · exfalso
              rw [h] at HPn
              have : PL = [] := List.eq_nil_of_length_eq_zero HPn.out
              rw [this] at hz
              exact hz rfl
            · exact h
          have HF : Hid (∀ i, i < k → (PL.getD i 0 = 0 → outF T PL i = 0) ∧ outF T PL i * sm PL ≤ T * PL.getD i 0 + sm PL ∧ T * PL.getD i 0 - sm PL ≤ outF T PL i * sm PL ∧ 0 ≤ outF T PL i ∧ outF T PL i ≤ 1000001) := fun i hi =>
            out_facts T PL hm (fun i hi => (HPB.out i hi).1) i (by rw [HPn.out]; exact hi)
          have HMn : Hid (∀ i j, i < k → j < k → PL.getD i 0 ≤ PL.getD j 0 → outF T PL i ≤ outF T PL j + 1) := fun i j hi hj =>
            out_mono T PL hm (fun i hi => (HPB.out i hi).1) i j (by rw [HPn.out]; exact hi) (by rw [HPn.out]; exact hj)
          have HGA : Hid (gsum T PL k = T) := by
            have := gsum_all T PL hm
            rw [HPn.out] at this
            exact this
          have HGB : Hid (∀ j, j ≤ k → 0 ≤ gsum T PL j ∧ gsum T PL j ≤ j * 1000001) := fun j hj =>
            gsum_bd T PL hm (fun i hi => (HPB.out i hi).1) j (by rw [HPn.out]; exact hj)
          have hln : (spreadV T PL).length = k := by rw [spread_len T PL hm, HPn.out]
          obtain ⟨bO, oO, cO, rfl, hltO, hcO⟩ : ∃ b off cap, vO = .slice (some ⟨b, off, none⟩) k cap ∧ b < w2.heap.size ∧ Hid (∀ i, i < k → w2.cell? ⟨b, off + i, none⟩ = some (.int .i64 (outF T PL i))) := by
            rcases hiO.2.2 with ⟨h, _⟩ | ⟨_, b, off, cap, rfl, hlt, hc⟩
            · rw [h] at hln; simp at hln; omega
            · rw [hln] at hc
              refine ⟨b, off, cap, by rw [hln], hlt, fun i hi => ?_⟩
              rw [hc i hi, spread_get T PL hm i (by rw [HPn.out]; exact hi)]
          have hiP := HIP2.out
          rcases hiP.2.2 with ⟨h, _⟩ | ⟨_, bP, oP, cP, rfl, hltP, hcP0⟩
          · exfalso
            rw [h] at hz
            exact hz rfl
          have hcP : Hid (∀ i, i < k → w2.cell? ⟨bP, oP + i, none⟩ = some (.int .i64 (PL.getD i 0))) := by rw [HPn.out] at hcP0; exact hcP0
          have HPb : Hid (∀ i, i < k → 0 ≤ PL.getD i 0 ∧ PL.getD i 0 < 100000) := by have := HPB.out; rw [HPn.out] at this; exact this
          rw [HPn.out]
          obtain ⟨S, hS⟩ : ∃ S, sm PL = S := ⟨_, rfl⟩
          rw [hS] at hs1 hzb hS0 HF ⊢
          clear hS hz hm hln hiO hiP hcP0 HIP HIP2 HPB HMay HNone HPn HPm
          go_wp2
          go_loopw [10, 58] (fun g i wr => ∃ j : Nat, j ≤ k ∧ i = .int .i64 j ∧ g = .int .i64 (gsum T PL j) ∧ Hid (Below w2.heap.size w2 wr)) (fun _ i _ => k - (intOf i).toNat)
          case atStart => exact ⟨0, by omega, rfl, rfl, Below.refl _ _⟩
          case round =>
            obtain ⟨j, hj, rfl, rfl, hbj⟩ := hrel
            have hg := HGB.out j hj
            by_cases hlt : j < k
            · have hcp : wr.cell? ⟨bP, oP + j, none⟩ = some (.int .i64 (PL.getD j 0)) := (hbj.out.cell (p := ⟨bP, oP + j, none⟩) hltP).trans (hcP.out j hlt)
              have hco : wr.cell? ⟨bO, oO + j, none⟩ = some (.int .i64 (outF T PL j)) := (hbj.out.cell (p := ⟨bO, oO + j, none⟩) hltO).trans (hcO.out j hlt)
              have HG1 : Hid (gsum T PL (j + 1) = gsum T PL j + outF T PL j) := rfl
              have hf := HF.out j hlt
              have hpb := HPb.out j hlt
              have HM1 : Hid (∀ i, i < k → (PL.getD i 0 ≤ PL.getD j 0 → outF T PL i ≤ outF T PL j + 1) ∧ (PL.getD j 0 ≤ PL.getD i 0 → outF T PL j ≤ outF T PL i + 1)) := fun i hi => ⟨HMn.out i j hi hlt, HMn.out j i hlt hi⟩
              obtain ⟨p, hp⟩ : ∃ p, PL.getD j 0 = p := ⟨_, rfl⟩
              obtain ⟨o, ho⟩ : ∃ o, outF T PL j = o := ⟨_, rfl⟩
              rw [hp] at hcp hf hpb HM1
              rw [ho] at hco hf HG1 HM1
              clear hp ho
              obtain ⟨f0, f1, f2, f3, f4⟩ := hf
              have HCp : Hid (w2.cell? ⟨bP, oP + j, none⟩ = some (.int .i64 p)) := (hbj.out.cell (p := ⟨bP, oP + j, none⟩) hltP).symm.trans hcp
              have t0 : 0 ≤ T * p := Int.mul_nonneg bT.1 hpb.1
              have t1 : T * p ≤ 1000000 * 100000 := Int.mul_le_mul (by omega) (by omega) hpb.1 (by omega)
              have t2 : 0 ≤ o * S := Int.mul_nonneg f3 (by omega)
              have hcase : ((p == 0) = true ∧ (o != 0) = false) ∨ (p == 0) = false := by
                by_cases h : p = 0
                · left; exact ⟨by simp [h], by simp [f0 h]⟩
                · right; simp [h]
              clear f0
              rcases hcase with ⟨g1, g2⟩ | g1
              all_goals
                go_wp2
                go_loopw [104] (fun i wr2 => ∃ i2 : Nat, i2 ≤ j ∧ i = .int .i64 i2 ∧ Hid (Below w2.heap.size w2 wr2)) (fun i _ => j - (intOf i).toNat)
                case atStart => exact ⟨0, by omega, rfl, hbj⟩
                case round =>
                  obtain ⟨i2, hi2, rfl, hbi⟩ := hrel
                  by_cases hlt2 : i2 < j
                  · have hcp2 : wr.cell? ⟨bP, oP + j, none⟩ = some (.int .i64 p) := (hbi.out.cell (p := ⟨bP, oP + j, none⟩) hltP).trans HCp.out
                    have hcpi : wr.cell? ⟨bP, oP + i2, none⟩ = some (.int .i64 (PL.getD i2 0)) := (hbi.out.cell (p := ⟨bP, oP + i2, none⟩) hltP).trans (hcP.out i2 (by omega))
                    have hcoi : wr.cell? ⟨bO, oO + i2, none⟩ = some (.int .i64 (outF T PL i2)) := (hbi.out.cell (p := ⟨bO, oO + i2, none⟩) hltO).trans (hcO.out i2 (by omega))
                    have hm1 := HM1.out i2 (by omega)
                    have hfi := (HF.out i2 (by omega)).2.2.2
                    have hpi := HPb.out i2 (by omega)
                    obtain ⟨q, hq⟩ : ∃ q, PL.getD i2 0 = q := ⟨_, rfl⟩
                    obtain ⟨r, hr⟩ : ∃ r, outF T PL i2 = r := ⟨_, rfl⟩
                    rw [hq] at hcpi hm1 hpi
                    rw [hr] at hcoi hm1 hfi
                    clear hq hr
                    have hcase2 : (p < q ∧ decide (q < p) = false ∧ decide (r < o - 1) = false) ∨ (q < p ∧ decide (p < q) = false ∧ decide (o + 1 < r) = false) ∨ (decide (p < q) = false ∧ decide (q < p) = false) := by
                      simp only [decide_eq_false_iff_not]
                      omega
                    clear hm1
                    rcases hcase2 with ⟨c1, c2, c3⟩ | ⟨c1, c2, c3⟩ | ⟨c1, c2⟩
                    all_goals
                      go_wp2
                      go_quiet (fail)
                      go_wp2
                      go_roundw
                      case rel => exact ⟨i2 + 1, by omega, by go_num, below_drewN hbi.out _⟩
                      case measure => simp [intOf]; omega
                  · go_wp2
                    go_roundw
                    case rel => exact ⟨j + 1, by omega, by go_num, by rw [HG1.out], hbi⟩
                    case measure => simp [intOf]; omega
            · have hjk : j = k := by omega
              subst hjk
              have hge := HGA.out
              rw [hge]
              go_wp2_with fail
              refine (awake_any _).mono ?_
              rintro e w3 ⟨rfl, hb3⟩
              go_wp2
              go_ret
              exact ⟨rfl, HB2.out.trans ((hbj.out.trans (hb3.mono hbj.out.size)).mono HB2.out.size)⟩

set_option maxRecDepth 100000 in
theorem lifted_RatioSpreads (os : Os) (started : os.Started) (H : Type) (enc : TypeId × Value → H) :
    ReturnsInHanded {} Try.checked os 4 .any (Rows.ratioSpreadsSpec.pre6 enc Try.prog Try.f4 Rows.ratioSpreadsRow.domain false) (Rows.ratioSpreadsSpec.post enc Try.prog Try.f4 false true false false) := by
  refine returnsInHanded_of_change_sized (C := Try.checked) own started (by kernel_rfl) Try.func4
    (ChangeSpec.witness6 (enc := enc) (C := Try.checked) false ⟨#[], #[.int .i64 0, .slice none 0 0], []⟩ 8 (by kernel_rfl) (by kernel_rfl) (by kernel_rfl) (by kernel_rfl)) ?_
  intro W base args ds gs before hval0 hW hcnd hsz0 hholds
  have hval : ∀ (j : Nat) t v, Try.f4.params[j]? = some t → args[j]? = some v → Value.okWide Try.prog W .any base t v := hval0
  have hW' := hW
  obtain ⟨p, q, hA0, hV, rfl, hfz, hnd⟩ := hW
  have hA : DataW.TrodAll enc Try.prog W 0 (fun _ => true) true Try.f4.params.toList args.toList ds p := hA0
  have hsz : (DataW.weightsEach Try.prog (Try.f4.params.toList ++ Rows.ratioSpreadsSpec.plain.varTypes Try.prog) (ds ++ gs)).all (· ≤ reachBytes) = true := hsz0
  rw [Try.params4] at hA hval hsz
  obtain ⟨v0, vs0, d0, ds0, p0, q0, hargs, rfl, rfl, h0, r0⟩ := trodAll_cons hA
  obtain ⟨v1, vs1, d1, ds1, p1, q1, rfl, rfl, rfl, h1, r1⟩ := trodAll_cons r0
  obtain ⟨rfl, rfl, rfl⟩ := trodAll_nil r1
  obtain rfl : args = #[v0, v1] := by cases args; simp_all
  obtain ⟨rfl, rfl⟩ := trodVars_none hV
  obtain ⟨a0, rfl, rfl, rfl, w0⟩ := open_int Try.underlying3 (hval 0 3 v0 rfl rfl) h0
  obtain ⟨a1, len1, cap1, rfl⟩ := okWide_slice Try.underlying22 (hval 1 22 v1 rfl rfl)
  have k1 := h1
  have lt1 : ∀ x ∈ p1, x.block < W.heap.size := by obtain ⟨m, hm⟩ := k1; exact DataW.trod_lt m _ _ _ hm
  obtain ⟨z1, w1, y1⟩ : ∃ zs, IsInts W (.slice a1 len1 cap1) zs ∧ zs.length ≤ 17592186043904 := by
    obtain ⟨fuel, hf⟩ := h1
    rcases open_ints Try.underlying22 Try.underlying3 (by kernel_rfl) hf with ⟨hcs, _⟩ | ⟨x, l, c, zs, hcs, _, hl, hm, hz, hx, hcell, hwz⟩
    · simp [Value.cells] at hcs
      obtain ⟨rfl, rfl, rfl⟩ := hcs
      exact ⟨[], isInts_nil W, by simp⟩
    · simp [Value.cells] at hcs
      obtain ⟨rfl, rfl, rfl⟩ := hcs
      simp only [Prod.mk.injEq] at hx
      obtain ⟨rfl, rfl⟩ := hx
      have hs := sized_slice hsz (j := 1) (t := 22) (e := 3) rfl rfl Try.underlying22
      rw [Try.bytes3] at hs
      simp only [lits, List.length_map, reachBytes] at hs
      exact ⟨_, isInts_row hl hm (by simpa using hz) hcell hwz, by omega⟩
  clear hA0 hval0
  refine (walk_RatioSpreads a0 (wf_i64 w0) _ z1 w1 y1).mono fun e W' ⟨he, bel⟩ => ?_
  subst he
  exact ⟨_, rfl, _, _, _, [], _, [], hW', trodAll_mk1 (shut_bool Try.underlying4 _), (trodAll_cons_mk (shut_int Try.underlying3 w0) (trodAll_cons_mk (Below.trod laidOut (by kernel_rfl) (of_decide_eq_true (by kernel_rfl)) k1 bel lt1) trodAll_mk0)), rfl, bel.frame _, fun h => by cases h⟩

theorem over_RatioSpreads : Rows.ratioSpreadsRow.holds Try.pinned (OpenSpec.ofChange Rows.ratioSpreadsSpec) :=
  OpenClaim.holds_of_wide 4 Try.f4 rfl rfl rfl rfl rfl rfl rfl ⟨rfl, rfl, rfl, rfl, rfl⟩ rfl rfl rfl rfl rfl (by kernel_rfl) Try.func4 (by kernel_rfl)
    (of_decide_eq_true (by kernel_rfl)) (by unfold Func.isWrapper; first | (rw [if_pos (by decide +kernel)]; kernel_rfl) | (rw [if_neg (by decide +kernel)]; exact ⟨rfl, rfl⟩))
    (fun os started H enc _ => lifted_RatioSpreads os started H enc)

/-- The statement. -/
theorem ratioSpreads_holds : Rows.RatioSpreadsSaid := over_RatioSpreads
#print axioms ratioSpreads_holds
end Go.Proofs.Ytkhklfbgfikeoaa

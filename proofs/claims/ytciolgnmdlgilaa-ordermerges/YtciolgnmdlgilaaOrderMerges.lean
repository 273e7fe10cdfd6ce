/-
  OrderMerges, for any two rows: merged they are the sorted row of both, either way round; with nothing a sorted row is itself. No condition.
-/
import Derived.Test.YtciolgnmdlgilaaOrderFrame
import Derived.WalkSmall
namespace Go.Proofs.Ytciolgnmdlgilaa
open Go.ChangeShapes Go.WideShapes Go.ChangeAt Go.RowKit

set_option maxHeartbeats 4000000 in
theorem walk_OrderMerges (v : Value) (l : List (Int × Int)) {w : World} (hv : IsKeys w v l) (hl : l.length ≤ 8796093022208) (u : Value) (m : List (Int × Int)) (hu : IsKeys w u m) (hm : m.length ≤ 8796093022208) (_ : World) :
    Calls Try.prog 6 #[v, u] w fun e w' => e = .returned (.bool true) ∧ Below w.heap.size w w' := by
  obtain ⟨lo, lc, rfl⟩ := hv.shape
  obtain ⟨mo, mc, rfl⟩ := hu.shape
  have HV : Hid (IsKeys w (.slice lo l.length lc) l) := hv
  have HU : Hid (IsKeys w (.slice mo m.length mc) m) := hu
  clear hv hu
  by_cases hs : 200 < l.length + m.length
  · go_enter Try.func6, Try.ntmps6
    go_wp2_with fail
    refine (awake_any _).mono ?_
    rintro e w1 ⟨rfl, hb1⟩
    have HB : Hid (Below w.heap.size w w1) := hb1
    clear hb1
    go_wp2
    go_ret
    exact ⟨rfl, HB.out⟩
  · obtain ⟨i0, hi, hz0, hz1, hz2⟩ := info_parts infoKey
    obtain ⟨A, hA⟩ : ∃ A, sortV l = A := ⟨_, rfl⟩
    obtain ⟨B, hB⟩ : ∃ B, sortV m = B := ⟨_, rfl⟩
    obtain ⟨Z, hZ⟩ : ∃ Z, sortV (l ++ m) = Z := ⟨_, rfl⟩
    have HA : Hid (sortV l = A ∧ SortedK A ∧ A.length = l.length) := ⟨hA, hA ▸ sortV_sorted l, hA ▸ sortV_length l⟩
    have HB : Hid (sortV m = B ∧ SortedK B ∧ B.length = m.length) := ⟨hB, hB ▸ sortV_sorted m, hB ▸ sortV_length m⟩
    have HZ : Hid (sortV (A ++ B) = Z ∧ sortV (B ++ A) = Z ∧ sortV (l ++ m) = Z ∧ sortV (A ++ []) = A ∧ Z.length = l.length + m.length) := by
      refine ⟨?_, ?_, hZ, ?_, ?_⟩
      · rw [← hA, ← hB, sortV_append, hZ]
      · rw [← hA, ← hB, sortV_append, sortV_congr List.perm_append_comm, hZ]
      · rw [List.append_nil, ← hA, sortV_sortV]
      · rw [← hZ, sortV_length, List.length_append]
    clear hA hB hZ
    go_enter Try.func6, Try.ntmps6
    go_wp2_with fail
    refine (sort_any l _ _ HV.out (by omega)).mono ?_
    rintro e w1 ⟨va, rfl, hk1, hb1⟩
    rw [HA.out.1] at hk1
    have HB1 : Hid (Below w.heap.size w w1) := hb1
    have HK1 : Hid (IsKeys w1 va A) := hk1
    clear hb1 hk1
    go_wp2_with fail
    refine (sort_any m _ _ (HU.out.below HB1.out) (by omega)).mono ?_
    rintro e w2 ⟨vb, rfl, hk2, hb2⟩
    rw [HB.out.1] at hk2
    have HB2 : Hid (Below w.heap.size w w2) := HB1.out.trans (hb2.mono HB1.out.size)
    have HK12 : Hid (IsKeys w2 va A) := HK1.out.below hb2
    have HK2 : Hid (IsKeys w2 vb B) := hk2
    clear hb2 hk2
    go_wp2_with fail
    refine (merge_any A B _ _ _ HK12.out HK2.out HA.out.2.1 HB.out.2.1 (by rw [HA.out.2.2, HB.out.2.2]; omega)).mono ?_
    rintro e w3 ⟨vx, rfl, hk3, hb3⟩
    rw [HZ.out.1] at hk3
    have HB3 : Hid (Below w.heap.size w w3) := HB2.out.trans (hb3.mono HB2.out.size)
    have HK13 : Hid (IsKeys w3 va A) := HK12.out.below hb3
    have HK23 : Hid (IsKeys w3 vb B) := HK2.out.below hb3
    have HK3 : Hid (IsKeys w3 vx Z) := hk3
    clear hb3 hk3
    go_wp2_with fail
    refine (merge_any B A _ _ _ HK23.out HK13.out HB.out.2.1 HA.out.2.1 (by rw [HA.out.2.2, HB.out.2.2]; omega)).mono ?_
    rintro e w4 ⟨vy, rfl, hk4, hb4⟩
    rw [HZ.out.2.1] at hk4
    have HB4 : Hid (Below w.heap.size w w4) := HB3.out.trans (hb4.mono HB3.out.size)
    have HK14 : Hid (IsKeys w4 va A) := HK13.out.below hb4
    have HK34 : Hid (IsKeys w4 vx Z) := HK3.out.below hb4
    have HK4 : Hid (IsKeys w4 vy Z) := hk4
    clear hb4 hk4
    go_wp2_with (at_builtin; refine wpList_append_row rfl (.tmp 30) (.tmp 31) 22 rfl w.heap.size 24 i0 _ 2 16 Try.underlying22 hi hz0 hz1 hz2 rfl (by decide) _ 0 _ rfl (own_empty w4 _ 2 _ HB4.out.size) _ l.length (keyCells l) rfl (HV.out.below (HB4.out.alloc HB4.out.size _)).row (keyCells_one _) (by unfold maxLen; omega) (by omega) (by have := HB4.out.size; simp; omega) ?_)
    intro v5 w5 hown5 hgrow5 hat5
    have h45 : Below w4.heap.size w4 w5 := ((Below.refl _ _).alloc (Nat.le_refl _) _).grown hgrow5 (by simp) (fun k hk => by simp [Value.ownBlock] at hk; omega)
    have HB5 : Hid (Below w.heap.size w w5) := HB4.out.trans (h45.mono HB4.out.size)
    have HK15 : Hid (IsKeys w5 va A) := HK14.out.below h45
    have HK35 : Hid (IsKeys w5 vx Z) := HK34.out.below h45
    have HK45 : Hid (IsKeys w5 vy Z) := HK4.out.below h45
    have HO5 : Hid (w5.ownsRow w.heap.size 24 2 v5 l.length (keyCells l)) := hown5
    have hn5 : ∀ k, v5.ownBlock = some k → w4.heap.size ≤ k := fun k hk => by
      rcases hat5 with h | h
      · rw [h] at hk; simp [Value.ownBlock] at hk; omega
      · rw [h] at hk; simp at hk; omega
    have HN5 : Hid (∀ k, v5.ownBlock = some k → w4.heap.size ≤ k) := hn5
    have H45 : Hid (Below w4.heap.size w4 w5) := h45
    clear hown5 hgrow5 hat5 h45 hn5
    go_wp2_with (at_builtin; refine wpList_append_row rfl (.tmp 32) (.tmp 33) 22 rfl w.heap.size 24 i0 _ 2 16 Try.underlying22 hi hz0 hz1 hz2 rfl (by decide) _ l.length _ rfl HO5.out _ m.length (keyCells m) rfl (HU.out.below HB5.out).row (keyCells_one _) (by unfold maxLen; omega) (by omega) HB5.out.size ?_)
    intro v6 w6 hown6 hgrow6 _
    have h46 : Below w4.heap.size w4 w6 := H45.out.grown hgrow6 H45.out.size HN5.out
    have HB6 : Hid (Below w.heap.size w w6) := HB4.out.trans (h46.mono HB4.out.size)
    have HK16 : Hid (IsKeys w6 va A) := HK14.out.below h46
    have HK36 : Hid (IsKeys w6 vx Z) := HK34.out.below h46
    have HK46 : Hid (IsKeys w6 vy Z) := HK4.out.below h46
    have HK6 : Hid (IsKeys w6 v6 (l ++ m)) := isKeys_own (by rw [keyCells_append]; exact hown6) (by simp) (by simp; omega) (fun x hx => by
      rcases List.mem_append.1 hx with h | h
      · exact HV.out.1 x h
      · exact HU.out.1 x h)
    clear hown6 hgrow6 h46 H45 HN5 HO5 HK15 HK35 HK45
    go_wp2_with fail
    refine (sort_any (l ++ m) _ _ HK6.out (by simp; omega)).mono ?_
    rintro e w7 ⟨vz, rfl, hk7, hb7⟩
    rw [HZ.out.2.2.1] at hk7
    have HB7 : Hid (Below w.heap.size w w7) := HB6.out.trans (hb7.mono HB6.out.size)
    have HK17 : Hid (IsKeys w7 va A) := HK16.out.below hb7
    have HK37 : Hid (IsKeys w7 vx Z) := HK36.out.below hb7
    have HK47 : Hid (IsKeys w7 vy Z) := HK46.out.below hb7
    have HK7 : Hid (IsKeys w7 vz Z) := hk7
    clear hb7 hk7
    go_wp2_with fail
    refine (merge_any A [] _ _ _ HK17.out (isKeys_nil _) HA.out.2.1 List.Pairwise.nil (by rw [HA.out.2.2]; simp; omega)).mono ?_
    rintro e w8 ⟨ve, rfl, hk8, hb8⟩
    rw [HZ.out.2.2.2.1] at hk8
    have HB8 : Hid (Below w.heap.size w w8) := HB7.out.trans (hb8.mono HB7.out.size)
    have HK18 : Hid (IsKeys w8 va A) := HK17.out.below hb8
    have HK38 : Hid (IsKeys w8 vx Z) := HK37.out.below hb8
    have HK48 : Hid (IsKeys w8 vy Z) := HK47.out.below hb8
    have HK78 : Hid (IsKeys w8 vz Z) := HK7.out.below hb8
    have HK8 : Hid (IsKeys w8 ve A) := hk8
    clear hb8 hk8
    obtain ⟨ao, ac, rfl⟩ := HK18.out.shape
    obtain ⟨xo, xc, rfl⟩ := HK38.out.shape
    obtain ⟨yo, yc, rfl⟩ := HK48.out.shape
    obtain ⟨zo, zc, rfl⟩ := HK78.out.shape
    obtain ⟨eo, ec, rfl⟩ := HK8.out.shape
    have hZl : Z.length ≤ 200 := by have := HZ.out.2.2.2.2; omega
    have hAl : A.length ≤ 200 := by have := HA.out.2.2; omega
    go_wp2
    go_loopw [59] (fun c wr => ∃ i : Nat, i ≤ Z.length ∧ c = .int .i64 i ∧ Below w8.heap.size w8 wr) (fun c _ => Z.length - (intOf c).toNat)
    case atStart => exact ⟨0, Nat.zero_le _, rfl, Below.refl _ _⟩
    case round =>
      obtain ⟨i, hiZ, rfl, hb⟩ := hrel
      have H8 : Hid (Below w8.heap.size w8 wr) := hb
      clear hb
      by_cases hlt : i < Z.length
      · obtain ⟨bx, ox, rfl, lx, x1, x2⟩ := (HK38.out.below H8.out).at i hlt
        obtain ⟨by', oy, rfl, ly, y1, y2⟩ := (HK48.out.below H8.out).at i hlt
        obtain ⟨bz, oz, rfl, lz, z1, z2⟩ := (HK78.out.below H8.out).at i hlt
        generalize Z.getD i (0, 0) = k at x1 x2 y1 y2 z1 z2
        go_wp2
        go_quiet (fail)
        go_wp2
        go_roundw
        case rel => exact ⟨i + 1, by omega, by go_num, below_drewN H8.out _⟩
        case measure => simp [intOf]; omega
      · go_wp2
        go_loopw [85] (fun c wq => ∃ i : Nat, i ≤ A.length ∧ c = .int .i64 i ∧ Below w8.heap.size w8 wq) (fun c _ => A.length - (intOf c).toNat)
        case atStart => exact ⟨0, Nat.zero_le _, rfl, H8.out⟩
        case round =>
          obtain ⟨j, hjA, rfl, hb⟩ := hrel
          have H9 : Hid (Below w8.heap.size w8 wr) := hb
          clear hb
          by_cases hlt : j < A.length
          · obtain ⟨ba, oa, rfl, la, x1, x2⟩ := (HK18.out.below H9.out).at j hlt
            obtain ⟨be, oe, rfl, le, y1, y2⟩ := (HK8.out.below H9.out).at j hlt
            generalize A.getD j (0, 0) = k at x1 x2 y1 y2
            go_wp2
            go_quiet (fail)
            go_wp2
            go_roundw
            case rel => exact ⟨j + 1, by omega, by go_num, below_drewN H9.out _⟩
            case measure => simp [intOf]; omega
          · go_wp2_with fail
            refine (awake_any _).mono ?_
            rintro e wz ⟨rfl, hbz⟩
            have HE : Hid (Below w.heap.size w wz) := (HB8.out.trans (H9.out.mono HB8.out.size)).trans (hbz.mono (Nat.le_trans HB8.out.size H9.out.size))
            clear hbz
            go_wp2
            go_ret
            exact ⟨rfl, HE.out⟩

set_option maxRecDepth 100000 in
theorem lifted_OrderMerges (os : Os) (started : os.Started) (H : Type) (enc : TypeId × Value → H) :
    ReturnsInHanded {} Try.checked os 6 .any (Rows.orderMergesSpec.pre6 enc Try.prog Try.f6 Rows.orderMergesRow.domain false) (Rows.orderMergesSpec.post enc Try.prog Try.f6 false true false false) := by
  refine returnsInHanded_of_change_sized (C := Try.checked) own started (by kernel_rfl) Try.func6
    (ChangeSpec.witness6 (enc := enc) (C := Try.checked) false ⟨#[], #[.slice none 0 0, .slice none 0 0], []⟩ 8 (by kernel_rfl) (by kernel_rfl) (by kernel_rfl) (by kernel_rfl)) ?_
  intro W base args ds gs before hval0 hW hcnd hsz0 hholds
  have hval : ∀ (j : Nat) t v, Try.f6.params[j]? = some t → args[j]? = some v → Value.okWide Try.prog W .any base t v := hval0
  have hW' := hW
  obtain ⟨p, q, hA0, hV, rfl, hfz, hnd⟩ := hW
  have hA : DataW.TrodAll enc Try.prog W 0 (fun _ => true) true Try.f6.params.toList args.toList ds p := hA0
  have hsz : (DataW.weightsEach Try.prog (Try.f6.params.toList ++ Rows.orderMergesSpec.plain.varTypes Try.prog) (ds ++ gs)).all (· ≤ reachBytes) = true := hsz0
  rw [Try.params6] at hA hval hsz
  obtain ⟨v0, vs0, d0, ds0, p0, q0, hargs, rfl, rfl, h0, r0⟩ := trodAll_cons hA
  obtain ⟨v1, vs1, d1, ds1, p1, q1, rfl, rfl, rfl, h1, r1⟩ := trodAll_cons r0
  obtain ⟨rfl, rfl, rfl⟩ := trodAll_nil r1
  obtain rfl : args = #[v0, v1] := by cases args; simp_all
  obtain ⟨rfl, rfl⟩ := trodVars_none hV
  have k0 := h0
  have lt0 : ∀ x ∈ p0, x.block < W.heap.size := by obtain ⟨m, hm⟩ := k0; exact DataW.trod_lt m _ _ _ hm
  obtain ⟨z0, w0, y0⟩ := open_keys Try.underlying22 Try.underlying24 (by kernel_rfl) rfl rfl (by kernel_rfl) (by kernel_rfl) Try.underlying3 Try.underlying3 (hval 0 22 v0 rfl rfl) h0
  have x0 : z0.length ≤ 8796093022208 := by
    rcases y0 with rfl | ⟨el, sp, rfl, hel⟩
    · simp
    · have hs := sized_slice hsz (j := 0) (t := 22) (e := 24) rfl rfl Try.underlying22
      rw [show Try.prog.bytesOf 24 = 16 by kernel_rfl] at hs
      simp only [reachBytes] at hs
      omega
  have k1 := h1
  have lt1 : ∀ x ∈ p1, x.block < W.heap.size := by obtain ⟨m, hm⟩ := k1; exact DataW.trod_lt m _ _ _ hm
  obtain ⟨z1, w1, y1⟩ := open_keys Try.underlying22 Try.underlying24 (by kernel_rfl) rfl rfl (by kernel_rfl) (by kernel_rfl) Try.underlying3 Try.underlying3 (hval 1 22 v1 rfl rfl) h1
  have x1 : z1.length ≤ 8796093022208 := by
    rcases y1 with rfl | ⟨el, sp, rfl, hel⟩
    · simp
    · have hs := sized_slice hsz (j := 1) (t := 22) (e := 24) rfl rfl Try.underlying22
      rw [show Try.prog.bytesOf 24 = 16 by kernel_rfl] at hs
      simp only [reachBytes] at hs
      omega
  clear hA0 hval0
  refine (walk_OrderMerges _ z0 (w0 (by omega)) x0 _ z1 (w1 (by omega)) x1 W).mono fun e W' ⟨he, bel⟩ => ?_
  subst he
  exact ⟨_, rfl, _, _, _, [], _, [], hW', trodAll_mk1 (shut_bool Try.underlying4 _), (trodAll_cons_mk (Below.trod laidOut (by kernel_rfl) (of_decide_eq_true (by kernel_rfl)) k0 bel lt0) (trodAll_cons_mk (Below.trod laidOut (by kernel_rfl) (of_decide_eq_true (by kernel_rfl)) k1 bel lt1) trodAll_mk0)), rfl, bel.frame _, fun h => by cases h⟩

theorem over_OrderMerges : Rows.orderMergesRow.holds Try.pinned (OpenSpec.ofChange Rows.orderMergesSpec) :=
  OpenClaim.holds_of_wide 6 Try.f6 rfl rfl rfl rfl rfl rfl rfl ⟨rfl, rfl, rfl, rfl, rfl⟩ rfl rfl rfl rfl rfl (by kernel_rfl) Try.func6 (by kernel_rfl)
    (of_decide_eq_true (by kernel_rfl)) (by unfold Func.isWrapper; first | (rw [if_pos (by decide +kernel)]; kernel_rfl) | (rw [if_neg (by decide +kernel)]; exact ⟨rfl, rfl⟩))
    (fun os started H enc _ => lifted_OrderMerges os started H enc)

/-- The statement. -/
theorem orderMerges_holds : Rows.OrderMergesSaid := over_OrderMerges
#print axioms orderMerges_holds

end Go.Proofs.Ytciolgnmdlgilaa

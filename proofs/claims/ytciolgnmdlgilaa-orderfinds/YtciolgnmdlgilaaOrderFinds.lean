/-
  OrderFinds, for any row and any key: in the sorted row each key is found where it first stands; a key is told to be there just if it is. No condition.
-/
import Derived.Test.YtciolgnmdlgilaaOrderFrame
import Derived.WalkSmall
namespace Go.Proofs.Ytciolgnmdlgilaa
open Go.ChangeShapes Go.WideShapes Go.ChangeAt Go.RowKit

/-- What Find tells of a key that stands at i. -/
theorem found_at {A : List (Int × Int)} (hs : SortedK A) (i : Nat) (hi : i < A.length) : findV A (A.getD i (0, 0)) ≤ i ∧ A.getD i (0, 0) ∈ A ∧ A.getD (findV A (A.getD i (0, 0))) (0, 0) = A.getD i (0, 0) ∧
    (0 < findV A (A.getD i (0, 0)) → A.getD (findV A (A.getD i (0, 0)) - 1) (0, 0) ≠ A.getD i (0, 0)) := by
  have hm : A.getD i (0, 0) ∈ A := by rw [kgetD i hi]; exact List.getElem_mem hi
  obtain ⟨h1, h2⟩ := findV_spec (k := A.getD i (0, 0)) hs
  obtain ⟨hF, he⟩ := (mem_iff_findV hs).1 hm
  refine ⟨?_, hm, by rw [kgetD _ hF]; exact he, fun h0 e => ?_⟩
  · rcases Nat.lt_or_ge i (findV A (A.getD i (0, 0))) with h | h
    · have := h1 i hi h
      rw [kgetD i hi, ltK_irrefl] at this
      cases this
    · exact h
  · have := h1 (findV A (A.getD i (0, 0)) - 1) (by omega) (by omega)
    rw [← kgetD _ (by omega), e, ltK_irrefl] at this
    cases this

theorem take_in {A : List (Int × Int)} (k : Int × Int) {i : Nat} (hi : i < A.length) : Hid (decide (k ∈ A.take (i + 1)) = (decide (k ∈ A.take i) || decide (A.getD i (0, 0) = k))) := by
  show _ = _
  rw [List.take_succ_eq_append_getElem hi, kgetD i hi, Bool.eq_iff_iff]
  simp only [Bool.or_eq_true, decide_eq_true_eq, List.mem_append, List.mem_singleton]
  rw [eq_comm (a := A[i])]

theorem ne_parts {p x : Int × Int} (h : p ≠ x) : ((p.1 == x.1) = false) ∨ ((p.1 == x.1) = true ∧ (p.2 == x.2) = false) := by
  by_cases e : p.1 = x.1
  · exact .inr ⟨by simp [e], beq_eq_false_iff_ne.2 fun e2 => h (Prod.ext e e2)⟩
  · exact .inl (beq_eq_false_iff_ne.2 e)

set_option maxHeartbeats 8000000 in
theorem walk_OrderFinds (v : Value) (l : List (Int × Int)) {w : World} (hv : IsKeys w v l) (hl : l.length ≤ 8796093022208) (k : Int × Int) (_ : inK k) (_ : World) :
    Calls Try.prog 5 #[v, kval k] w fun e w' => e = .returned (.bool true) ∧ Below w.heap.size w w' := by
  obtain ⟨k1, k2⟩ := k
  unfold kval
  obtain ⟨lo, lc, rfl⟩ := hv.shape
  have HV : Hid (IsKeys w (.slice lo l.length lc) l) := hv
  clear hv
  have HB0 : Hid (Below w.heap.size w (w.alloc (.cells #[.int .i64 k1, .int .i64 k2] 24))) := (Below.refl _ _).alloc (Nat.le_refl _) _
  by_cases hs : 200 < l.length
  · go_enter Try.func5, Try.ntmps5
    go_wp2_with fail
    refine (awake_any _).mono ?_
    rintro e w1 ⟨rfl, hb1⟩
    have HB : Hid (Below w.heap.size w w1) := HB0.out.trans (hb1.mono HB0.out.size)
    clear hb1
    go_wp2
    go_ret
    exact ⟨rfl, HB.out⟩
  · obtain ⟨A, hA⟩ : ∃ A, sortV l = A := ⟨_, rfl⟩
    have HA : Hid (sortV l = A ∧ SortedK A ∧ A.length = l.length) := ⟨hA, hA ▸ sortV_sorted l, hA ▸ sortV_length l⟩
    have hAl : A.length ≤ 200 := by rw [← hA, sortV_length]; omega
    clear hA
    go_enter Try.func5, Try.ntmps5
    go_wp2_with fail
    refine (sort_any l _ _ (HV.out.below HB0.out) (by omega)).mono ?_
    rintro e w1 ⟨va, rfl, hk1, hb1⟩
    rw [HA.out.1] at hk1
    have HB1 : Hid (Below w.heap.size w w1) := HB0.out.trans (hb1.mono HB0.out.size)
    have HK1 : Hid (IsKeys w1 va A) := hk1
    have g1 : w1.cell? ⟨w.heap.size, 0, none⟩ = some (.int .i64 k1) := (hb1.cell (p := ⟨w.heap.size, 0, none⟩) (by simp)).trans (by simp)
    have g2 : w1.cell? ⟨w.heap.size, 1, none⟩ = some (.int .i64 k2) := (hb1.cell (p := ⟨w.heap.size, 1, none⟩) (by simp)).trans (by simp)
    have hG : w.heap.size < w1.heap.size := Nat.lt_of_lt_of_le (by simp) hb1.size
    clear hb1 hk1
    have HG1 : Hid (w1.cell? ⟨w.heap.size, 0, none⟩ = some (.int .i64 k1)) := g1
    have HG2 : Hid (w1.cell? ⟨w.heap.size, 1, none⟩ = some (.int .i64 k2)) := g2
    clear g1 g2
    obtain ⟨ao, ac, rfl⟩ := HK1.out.shape
    go_wp2
    go_loopw [6, 21] (fun n c wr => ∃ i : Nat, i ≤ A.length ∧ c = .int .i64 i ∧ n = .bool (decide ((k1, k2) ∈ A.take i)) ∧ Below w1.heap.size w1 wr) (fun _ c _ => A.length - (intOf c).toNat)
    case atStart => exact ⟨0, Nat.zero_le _, rfl, by simp, Below.refl _ _⟩
    case round =>
      obtain ⟨i, hiA, rfl, rfl, hb⟩ := hrel
      have H2 : Hid (Below w1.heap.size w1 wr) := hb
      clear hb
      by_cases hlt : i < A.length
      · obtain ⟨f1, f2, f3, f4⟩ := found_at HA.out.2.1 i hlt
        have HT := take_in (k1, k2) hlt
        obtain ⟨ba, oa, rfl, la, x1, x2⟩ := (HK1.out.below H2.out).at i hlt
        obtain ⟨F, hF⟩ : ∃ F, findV A (A.getD i (0, 0)) = F := ⟨_, rfl⟩
        rw [hF] at f1 f3 f4
        have HF : Hid (findV A (A.getD i (0, 0)) = F) := hF
        have H3 : Hid (A.getD F (0, 0) = A.getD i (0, 0)) := f3
        have H4 : Hid (0 < F → A.getD (F - 1) (0, 0) ≠ A.getD i (0, 0)) := f4
        have H5 : Hid (decide (A.getD i (0, 0) ∈ A) = true) := by show _ = _; simpa using f2
        clear f2 f3 f4 hF
        obtain ⟨x, hx⟩ : ∃ x, A.getD i (0, 0) = x := ⟨_, rfl⟩
        rw [hx] at HF H3 H4 H5 HT x1 x2
        clear hx
        obtain ⟨xa, xb⟩ := x
        go_wp2_with fail
        refine (find_to A xa xb _ _ ((HK1.out.below H2.out).below ((Below.refl _ _).alloc (Nat.le_refl _) _)) HA.out.2.1 (by omega) F true HF.out H5.out).mono ?_
        rintro e w2 ⟨rfl, hb2⟩
        have y1 : w2.cell? ⟨wr.heap.size, 0, none⟩ = some (.int .i64 xa) := (hb2.cell (p := ⟨wr.heap.size, 0, none⟩) (by simp)).trans (by simp)
        have y2 : w2.cell? ⟨wr.heap.size, 1, none⟩ = some (.int .i64 xb) := (hb2.cell (p := ⟨wr.heap.size, 1, none⟩) (by simp)).trans (by simp)
        have h12 : Below w1.heap.size w1 w2 := (H2.out.alloc H2.out.size _).trans (hb2.mono (by have := H2.out.size; simp; omega))
        have H12 : Hid (Below w1.heap.size w1 w2) := h12
        have g1 : w2.cell? ⟨w.heap.size, 0, none⟩ = some (.int .i64 k1) := (h12.cell (p := ⟨w.heap.size, 0, none⟩) hG).trans HG1.out
        have g2 : w2.cell? ⟨w.heap.size, 1, none⟩ = some (.int .i64 k2) := (h12.cell (p := ⟨w.heap.size, 1, none⟩) hG).trans HG2.out
        obtain ⟨bb, ob, hbb, _, z1, z2⟩ := (HK1.out.below h12).at F (by omega)
        rw [H3.out] at z1 z2
        simp only [Option.some.injEq, Addr.mk.injEq, and_true] at hbb
        obtain ⟨rfl, rfl⟩ := hbb
        clear hb2 h12 x1 x2
        have hn : (decide ((k1, k2) ∈ A.take i) = true) ∨ (decide ((k1, k2) ∈ A.take i) = false ∧ ((decide ((xa, xb) = (k1, k2)) = true ∧ (xa == k1) = true ∧ (xb == k2) = true) ∨ (decide ((xa, xb) = (k1, k2)) = false ∧ (xa == k1) = false) ∨ (decide ((xa, xb) = (k1, k2)) = false ∧ (xa == k1) = true ∧ (xb == k2) = false))) := by
          cases decide ((k1, k2) ∈ A.take i)
          · exact .inr ⟨rfl, eq_parts xa xb k1 k2⟩
          · exact .inl rfl
        generalize decide ((k1, k2) ∈ A.take i) = n at HT hn ⊢
        generalize decide ((xa, xb) = (k1, k2)) = q at HT hn
        have i1 : decide ((F : Int) < 0) = false := by rw [decide_eq_false_iff_not]; omega
        have i2 : decide (i < F) = false := by rw [decide_eq_false_iff_not]; omega
        have i3 : (0 : Int) ≤ (F : Int) := by omega
        have i4 : (F : Int) < (A.length : Int) := by omega
        have hp : (decide (0 < F) = false) ∨ (decide (0 < F) = true ∧ ∃ (E : Nat) (pa pb : Int), (F : Int) - 1 = (E : Int) ∧ (E : Int) < (A.length : Int) ∧ w2.cell? ⟨ba, oa + E * 2, none⟩ = some (.int .i64 pa) ∧ w2.cell? ⟨ba, oa + E * 2 + 1, none⟩ = some (.int .i64 pb) ∧ (((pa == xa) = false) ∨ ((pa == xa) = true ∧ (pb == xb) = false))) := by
          by_cases hF0 : 0 < F
          · refine .inr ⟨decide_eq_true hF0, F - 1, (A.getD (F - 1) (0, 0)).1, (A.getD (F - 1) (0, 0)).2, by omega, by omega, ?_⟩
            obtain ⟨bb, ob, hbb, _, z1, z2⟩ := (HK1.out.below H12.out).at (F - 1) (by omega)
            simp only [Option.some.injEq, Addr.mk.injEq, and_true] at hbb
            obtain ⟨rfl, rfl⟩ := hbb
            exact ⟨z1, z2, ne_parts (H4.out hF0)⟩
          · exact .inl (decide_eq_false hF0)
        clear H3 H4 H5 HF
        rcases hp with i5 | ⟨i5, E, pa, pb, i6, i7, e1, e2, hp | ⟨hp, hp2⟩⟩
        all_goals
          rcases hn with rfl | ⟨rfl, ⟨rfl, hq1, hq2⟩ | ⟨rfl, hq1⟩ | ⟨rfl, hq1, hq2⟩⟩
          all_goals
            go_wp2
            go_quiet (fail)
            go_wp2
            go_roundw
            case rel => exact ⟨i + 1, by omega, by go_num, by rw [HT.out]; rfl, below_drewN H12.out _⟩
            case measure => simp [intOf]; omega
      · have g1 : wr.cell? ⟨w.heap.size, 0, none⟩ = some (.int .i64 k1) := (H2.out.cell (p := ⟨w.heap.size, 0, none⟩) hG).trans HG1.out
        have g2 : wr.cell? ⟨w.heap.size, 1, none⟩ = some (.int .i64 k2) := (H2.out.cell (p := ⟨w.heap.size, 1, none⟩) hG).trans HG2.out
        rw [List.take_of_length_le (by omega)]
        obtain ⟨n, hn⟩ : ∃ n, decide ((k1, k2) ∈ A) = n := ⟨_, rfl⟩
        have HN : Hid (decide ((k1, k2) ∈ A) = n) := hn
        rw [hn]
        clear hn
        go_wp2_with fail
        refine (find_to A k1 k2 _ _ (HK1.out.below H2.out) HA.out.2.1 (by omega) _ n rfl HN.out).mono ?_
        rintro e w2 ⟨rfl, hb2⟩
        have HE2 : Hid (Below w1.heap.size w1 w2) := H2.out.trans (hb2.mono H2.out.size)
        clear hb2 g1 g2
        go_wp2_with fail
        refine (awake_any _).mono ?_
        rintro e w3 ⟨rfl, hb3⟩
        have HE : Hid (Below w.heap.size w w3) := (HB1.out.trans (HE2.out.mono HB1.out.size)).trans (hb3.mono (Nat.le_trans HB1.out.size HE2.out.size))
        clear hb3
        go_wp2
        go_ret
        exact ⟨rfl, HE.out⟩

set_option maxRecDepth 100000 in
theorem lifted_OrderFinds (os : Os) (started : os.Started) (H : Type) (enc : TypeId × Value → H) :
    ReturnsInHanded {} Try.checked os 5 .any (Rows.orderFindsSpec.pre6 enc Try.prog Try.f5 Rows.orderFindsRow.domain false) (Rows.orderFindsSpec.post enc Try.prog Try.f5 false true false false) := by
  refine returnsInHanded_of_change_sized (C := Try.checked) own started (by kernel_rfl) Try.func5
    (ChangeSpec.witness6 (enc := enc) (C := Try.checked) false ⟨#[], #[.slice none 0 0, .agg #[.int .i64 0, .int .i64 0]], []⟩ 8 (by kernel_rfl) (by kernel_rfl) (by kernel_rfl) (by kernel_rfl)) ?_
  intro W base args ds gs before hval0 hW hcnd hsz0 hholds
  have hval : ∀ (j : Nat) t v, Try.f5.params[j]? = some t → args[j]? = some v → Value.okWide Try.prog W .any base t v := hval0
  have hW' := hW
  obtain ⟨p, q, hA0, hV, rfl, hfz, hnd⟩ := hW
  have hA : DataW.TrodAll enc Try.prog W 0 (fun _ => true) true Try.f5.params.toList args.toList ds p := hA0
  have hsz : (DataW.weightsEach Try.prog (Try.f5.params.toList ++ Rows.orderFindsSpec.plain.varTypes Try.prog) (ds ++ gs)).all (· ≤ reachBytes) = true := hsz0
  rw [Try.params5] at hA hval hsz
  obtain ⟨v0, vs0, d0, ds0, p0, q0, hargs, rfl, rfl, h0, r0⟩ := trodAll_cons hA
  obtain ⟨v1, vs1, d1, ds1, p1, q1, rfl, rfl, rfl, h1, r1⟩ := trodAll_cons r0
  obtain ⟨rfl, rfl, rfl⟩ := trodAll_nil r1
  obtain rfl : args = #[v0, v1] := by cases args; simp_all
  obtain ⟨rfl, rfl⟩ := trodVars_none hV
  have k0 := h0
  have lt0 : ∀ x ∈ p0, x.block < W.heap.size := by obtain ⟨m, hm⟩ := k0; exact DataW.trod_lt m _ _ _ hm
  obtain ⟨z0, w0, y0⟩ := open_keys Try.underlying22 Try.underlying24 (by kernel_rfl) rfl rfl (by kernel_rfl) (by kernel_rfl) Try.underlying3 Try.underlying3 (hval 0 22 v0 rfl rfl) h0
  have x0 : z0.length ≤ 8796093022208 := by
    rcases y0 with rfl | ⟨el, sp, rfl, hel⟩
    · simp
    · have hs := sized_slice hsz (j := 0) (t := 22) (e := 24) rfl rfl Try.underlying22
      rw [show Try.prog.bytesOf 24 = 16 by kernel_rfl] at hs
      simp only [reachBytes] at hs
      omega
  have k1 := h1
  have lt1 : ∀ x ∈ p1, x.block < W.heap.size := by obtain ⟨m, hm⟩ := k1; exact DataW.trod_lt m _ _ _ hm
  obtain ⟨z1, rfl, w1, _⟩ := open_key Try.underlying24 (by kernel_rfl) (by kernel_rfl) Try.underlying3 Try.underlying3 (hval 1 24 v1 rfl rfl) h1
  clear hA0 hval0
  refine (walk_OrderFinds _ z0 (w0 (by omega)) x0 z1 w1 W).mono fun e W' ⟨he, bel⟩ => ?_
  subst he
  exact ⟨_, rfl, _, _, _, [], _, [], hW', trodAll_mk1 (shut_bool Try.underlying4 _), (trodAll_cons_mk (Below.trod laidOut (by kernel_rfl) (of_decide_eq_true (by kernel_rfl)) k0 bel lt0) (trodAll_cons_mk (Below.trod laidOut (by kernel_rfl) (of_decide_eq_true (by kernel_rfl)) k1 bel lt1) trodAll_mk0)), rfl, bel.frame _, fun h => by cases h⟩

theorem over_OrderFinds : Rows.orderFindsRow.holds Try.pinned (OpenSpec.ofChange Rows.orderFindsSpec) :=
  OpenClaim.holds_of_wide 5 Try.f5 rfl rfl rfl rfl rfl rfl rfl ⟨rfl, rfl, rfl, rfl, rfl⟩ rfl rfl rfl rfl rfl (by kernel_rfl) Try.func5 (by kernel_rfl)
    (of_decide_eq_true (by kernel_rfl)) (by unfold Func.isWrapper; first | (rw [if_pos (by decide +kernel)]; kernel_rfl) | (rw [if_neg (by decide +kernel)]; exact ⟨rfl, rfl⟩))
    (fun os started H enc _ => lifted_OrderFinds os started H enc)

/-- The statement. -/
theorem orderFinds_holds : Rows.OrderFindsSaid := over_OrderFinds
#print axioms orderFinds_holds

end Go.Proofs.Ytciolgnmdlgilaa

/-
  OrderOne, for any row, turned at any place: its sorted row is the only one, sorted again it is itself, none is lost. No condition.
-/
import Derived.Test.YtciolgnmdlgilaaOrderFrame
import Derived.WalkSmall
import Derived.Deep.RegionHeld3
import Derived.Test.YtciolgnmdlgilaaKeyMap
import Derived.Laws.Bits64
namespace Go.Proofs.Ytciolgnmdlgilaa
open Go.ChangeShapes Go.WideShapes Go.ChangeAt Go.RowKit

theorem keyLaw : Go.WideMaps.KeyLaw Try.prog 24 := deep_law_laid laidOut (m := 3) (by decide) (of_decide_eq_true (by kernel_rfl)) (by kernel_rfl) (by kernel_rfl)

theorem keyLit (k : Int × Int) (hk : inK k) : ∃ kl, keyOf Try.prog 24 (kval k) = some kl := by
  have h0 : ∃ n, DataW.trod (H := Unit) (fun _ => ()) Try.prog default 0 (fun _ => true) true n 3 [Value.int .i64 k.1] = some (.lit (.int .i64 k.1), []) := shut_int Try.underlying3 (WalkArith.wf_i64 hk.1)
  have h1 : ∃ n, DataW.trod (H := Unit) (fun _ => ()) Try.prog default 0 (fun _ => true) true n 3 [Value.int .i64 k.2] = some (.lit (.int .i64 k.2), []) := shut_int Try.underlying3 (WalkArith.wf_i64 hk.2)
  have h := Go.Joins.shut_agg2 (P := Try.prog) Try.underlying24 (by kernel_rfl) (by kernel_rfl) h0 h1
  exact ⟨_, (keyOf_asKey (by kernel_rfl) (by kernel_rfl) (by unfold Value.formed; rw [Try.underlying24]; show (2 == Try.prog.cellsOf 24) = true; kernel_rfl) h).1⟩

theorem keyMapT : KeyMapT Try.prog 37 24 3 :=
  ⟨Try.underlying37, Try.underlying3, keyLaw, fun w => by kernel_rfl, keyLit⟩

/-- How often q is among those of A and not of l, up to i. -/
def cntV (A l : List (Int × Int)) (i : Nat) (q : Int × Int) : Int := ((A.take i).count q : Int) - ((l.take i).count q : Int)
theorem cntV_bd (A l : List (Int × Int)) (i : Nat) (q : Int × Int) : -(i : Int) ≤ cntV A l i q ∧ cntV A l i q ≤ i := by
  unfold cntV
  have h1 : (A.take i).count q ≤ i := Nat.le_trans List.count_le_length (List.length_take_le _ _)
  have h2 : (l.take i).count q ≤ i := Nat.le_trans List.count_le_length (List.length_take_le _ _)
  omega
theorem cntV_next {A l : List (Int × Int)} {i : Nat} (hA : i < A.length) (hl : i < l.length) (x y q : Int × Int) (hx : A.getD i (0, 0) = x) (hy : l.getD i (0, 0) = y) :
    (fun q => if q = y then (if y = x then cntV A l i x + 1 else cntV A l i y) - 1 else if q = x then cntV A l i x + 1 else cntV A l i q) q = cntV A l (i + 1) q := by
  subst hx hy
  rw [kgetD i hA, kgetD i hl]
  unfold cntV
  rw [List.take_succ_eq_append_getElem hA, List.take_succ_eq_append_getElem hl, List.count_append, List.count_append, List.count_singleton, List.count_singleton]
  simp only [beq_iff_eq]
  generalize A[i] = x
  generalize l[i] = y
  by_cases h1 : q = y
  · subst h1
    by_cases h2 : q = x
    · subst h2; simp; omega
    · rw [if_pos rfl, if_neg h2, if_neg (fun e => h2 e.symm), if_pos rfl]; simp; omega
  · by_cases h2 : q = x
    · subst h2
      rw [if_neg h1, if_pos rfl, if_pos rfl, if_neg (fun e => h1 e.symm)]; simp; omega
    · rw [if_neg h1, if_neg h2, if_neg (fun e => h2 e.symm), if_neg (fun e => h1 e.symm)]; simp
theorem cntV_end {A l : List (Int × Int)} (h : sortV l = A) (i : Nat) (h1 : A.length ≤ i) (h2 : l.length ≤ i) (q : Int × Int) : cntV A l i q = 0 := by
  unfold cntV
  rw [List.take_of_length_le h1, List.take_of_length_le h2, ← h, (sortV_perm l).count_eq]
  omega

set_option maxHeartbeats 8000000 in
set_option maxRecDepth 100000 in
theorem walk_OrderOne (v : Value) (l : List (Int × Int)) {w : World} (hv : IsKeys w v l) (hl : l.length ≤ 8796093022208) (t : Int) (_ : -9223372036854775808 ≤ t ∧ t ≤ 9223372036854775807) (_ : World) :
    Calls Try.prog 4 #[v, .int .i64 t] w fun e w' => e = .returned (.bool true) ∧ Below w.heap.size w w' := by
  have hmm := @run_makeMap Try.prog
  obtain ⟨lo, lc, rfl⟩ := hv.shape
  have HV : Hid (IsKeys w (.slice lo l.length lc) l) := hv
  clear hv
  by_cases hs : 200 < l.length
  · go_enter Try.func4, Try.ntmps4
    go_wp2_with fail
    refine (awake_any _).mono ?_
    rintro e w1 ⟨rfl, hb1⟩
    have HB : Hid (Below w.heap.size w w1) := hb1
    clear hb1
    go_wp2
    go_ret
    exact ⟨rfl, HB.out⟩
  · obtain ⟨i0, hi, hz0, hz1, hz2⟩ := info_parts infoKey
    obtain ⟨A, hA⟩ : ∃ A, sortV l = A := ⟨_, rfl⟩
    have HA : Hid (sortV l = A ∧ SortedK A ∧ A.length = l.length) := ⟨hA, hA ▸ sortV_sorted l, hA ▸ sortV_length l⟩
    have hAl : A.length ≤ 200 := by rw [← hA, sortV_length]; omega
    clear hA
    have hwl : IntKind.u64.wrap ((l.length : Int) + 1) = (l.length : Int) + 1 := by rw [IntKind.wrap_u64]; omega
    obtain ⟨k, hk, hkl⟩ : ∃ k : Nat, (IntKind.u64.wrap t).tmod ((l.length : Int) + 1) = (k : Int) ∧ k ≤ l.length := by
      rw [IntKind.wrap_u64, tmod_of_emod]
      have h1 := Int.emod_nonneg (t % 18446744073709551616) (show ((l.length : Int) + 1) ≠ 0 by omega)
      have h2 := Int.emod_lt_of_pos (t % 18446744073709551616) (show (0 : Int) < (l.length : Int) + 1 by omega)
      exact ⟨(t % 18446744073709551616 % ((l.length : Int) + 1)).toNat, by omega, by omega⟩
    go_enter Try.func4, Try.ntmps4
    go_wp2_with fail
    refine (sort_any l _ _ HV.out (by omega)).mono ?_
    rintro e w1 ⟨va, rfl, hk1, hb1⟩
    rw [HA.out.1] at hk1
    have HB1 : Hid (Below w.heap.size w w1) := hb1
    have HK1 : Hid (IsKeys w1 va A) := hk1
    have HV1 : Hid (IsKeys w1 (.slice lo l.length lc) l) := HV.out.below hb1
    clear hb1 hk1
    have j1 : (0 : Int) ≤ (k : Int) := by omega
    have j2 : (k : Int) ≤ (l.length : Int) := by omega
    go_wp2
    have j4 := HV.out.2.1.2.1
    have j3 : (k : Int) ≤ (lc : Int) := by omega
    have HX1 : Hid (IsKeys w1 (.slice (if lc = k then lo else Option.map (fun x => x.add (k * 2)) lo) (l.length - k) (lc - k)) (l.drop k)) := keys_from HV1.out k hkl
    have HX2 : Hid (IsKeys w1 (.slice lo k lc) (l.take k)) := keys_upto HV1.out k hkl
    have hd1 : (l.drop k).length = l.length - k := by simp
    have hd2 : (l.take k).length = k := by simp; omega
    have HD1 : Hid ((l.drop k).length = l.length - k) := hd1
    have HD2 : Hid ((l.take k).length = k) := hd2
    clear hd1 hd2
    have HP : Hid (sortV (l.drop k ++ l.take k) = A) := by
      show _ = _
      rw [← HA.out.1]
      exact sortV_congr (List.perm_append_comm.trans (by rw [List.take_append_drop]))
    have HIn : Hid (∀ x ∈ l.drop k ++ l.take k, inK x) := fun x hx => by
      rcases List.mem_append.1 hx with h | h
      · exact HX1.out.1 x h
      · exact HX2.out.1 x h
    go_region_held3 (fun _ => True) (trivial) (first
      | ((have := H13; go_at_call 9; refine (sort_any (l.drop k ++ l.take k) _ _ HO3.out (by rw [List.length_append, HD1.out, HD2.out]; omega)).mono ?_; rintro e w4 ⟨vb, rfl, hk4, hb4⟩; have HK4 : Hid (IsKeys w4 vb A) := (by rw [HP.out] at hk4; exact hk4); have H14 : Hid (Below w1.heap.size w1 w4) := H13.out.trans (hb4.mono H13.out.size); clear hk4 hb4; generalize (if lc = k then lo else Option.map (fun x => x.add (k * 2)) lo) = lo1))
      | ((have := H12; refine step_append_row (by rfl) (.tmp 31) (.tmp 34) 22 (by rfl) w.heap.size 24 i0 _ 2 16 Try.underlying22 hi hz0 hz1 hz2 (by rfl) (by decide) _ (l.drop k).length _ (by rfl) HO2.out _ (l.take k).length (keyCells (l.take k)) (by rfl) (HX2.out.below H12.out).row (keyCells_one _) (by have := HD1.out; have := HD2.out; unfold maxLen; omega) (by have := HD1.out; have := HD2.out; omega) (Nat.le_trans HB1.out.size H12.out.size) ?_; intro v3 w3 hown3 hgrow3 hat3; have HO3 : Hid (IsKeys w3 v3 (l.drop k ++ l.take k)) := isKeys_own (by rw [keyCells_append]; exact hown3) (by rw [List.length_append]) (by rw [List.length_append, HD1.out, HD2.out]; omega) HIn.out; have H13 : Hid (Below w1.heap.size w1 w3) := H12.out.grown hgrow3 H12.out.size HN2.out; clear hown3 hgrow3 hat3))
      | ((refine step_append_row (by rfl) (.tmp 27) (.tmp 30) 22 (by rfl) w.heap.size 24 i0 _ 2 16 Try.underlying22 hi hz0 hz1 hz2 (by rfl) (by decide) _ 0 _ (by rfl) (own_empty w1 _ 2 _ HB1.out.size).drew _ (l.drop k).length (keyCells (l.drop k)) (by rfl) (HX1.out.below ((Below.refl _ _).alloc (Nat.le_refl _) _).drew).row (keyCells_one _) (by have := HD1.out; unfold maxLen; omega) (by have := HD1.out; omega) (by have := HB1.out.size; simp; omega) ?_; intro v2 w2 hown2 hgrow2 hat2; have HO2 : Hid (w2.ownsRow w.heap.size 24 2 v2 (l.drop k).length (keyCells (l.drop k))) := (by rw [Nat.zero_add, List.nil_append] at hown2; exact hown2); have HN2 : Hid (∀ q, v2.ownBlock = some q → w1.heap.size ≤ q) := (fun q hq => by rcases hat2 with h | h <;> rw [h] at hq <;> simp [Value.ownBlock] at hq <;> omega); have H12 : Hid (Below w1.heap.size w1 w2) := (((Below.refl _ _).alloc (Nat.le_refl _) _).drew).grown hgrow2 (by simp) (fun q hq => by simp [Value.ownBlock] at hq; omega); clear hown2 hgrow2 hat2)))
    clear HX1 HX2 HD1 HD2 HP HIn H12 H13 HO2 HO3 HN2
    go_wp2_with fail
    refine (sort_any A _ _ (HK1.out.below H14.out) (by omega)).mono ?_
    rintro e w5 ⟨vc, rfl, hk5, hb5⟩
    rw [sortV_of_sorted HA.out.2.1] at hk5
    have H15 : Hid (Below w1.heap.size w1 w5) := H14.out.trans (hb5.mono H14.out.size)
    have HKa : Hid (IsKeys w5 va A) := HK1.out.below H15.out
    have HKb : Hid (IsKeys w5 vb A) := HK4.out.below hb5
    have HKc : Hid (IsKeys w5 vc A) := hk5
    have HKl : Hid (IsKeys w5 (.slice lo l.length lc) l) := HV1.out.below H15.out
    clear hb5 hk5 HK4 H14 HV1
    have HB5 : Hid (Below w.heap.size w w5) := HB1.out.trans (H15.out.mono HB1.out.size)
    clear H15 HB1 HK1
    obtain ⟨ao, ac, rfl⟩ := HKa.out.shape
    obtain ⟨bo, bc, rfl⟩ := HKb.out.shape
    obtain ⟨co, cc, rfl⟩ := HKc.out.shape
    have hne : ((A.length : Int) != (l.length : Int)) = false := by rw [HA.out.2.2]; simp
    go_wp2
    obtain ⟨M, hM⟩ : ∃ M, M = w5.heap.size := ⟨_, rfl⟩
    have HC0 : Hid (Counts Try.prog 24 3 (w5.alloc (.map #[] 0)) M 0 (fun q => cntV A l 0 q)) := by
      rw [hM]
      exact (counts_made w5).congr (fun q => by simp [cntV])
    have HM : Hid (M = w5.heap.size) := hM
    rw [← hM]
    clear hM
    have hll : A.length = l.length := HA.out.2.2
    have HLL : Hid (A.length = l.length) := hll
    clear hll
    go_loopw [61] (fun c wr => ∃ i : Nat, i ≤ A.length ∧ c = .int .i64 i ∧ Counts Try.prog 24 3 wr M (2 * i) (fun q => cntV A l i q) ∧ Below w5.heap.size w5 wr) (fun c _ => A.length - (intOf c).toNat)
    case atStart => exact ⟨0, Nat.zero_le _, rfl, HC0.out, (Below.refl _ _).alloc (Nat.le_refl _) _⟩
    case round =>
      obtain ⟨i, hiA, rfl, hcnt, hb⟩ := hrel
      have HC : Hid (Counts Try.prog 24 3 wr M (2 * i) (fun q => cntV A l i q)) := hcnt
      have H6 : Hid (Below w5.heap.size w5 wr) := hb
      clear hcnt hb
      by_cases hlt : i < A.length
      · have hltl : i < l.length := by have := HLL.out; omega
        obtain ⟨ba, oa, rfl, la, x1, x2⟩ := (HKa.out.below H6.out).at i hlt
        obtain ⟨bb, ob, rfl, lb, y1, y2⟩ := (HKb.out.below H6.out).at i hlt
        obtain ⟨bc', oc, rfl, lc', z1, z2⟩ := (HKc.out.below H6.out).at i hlt
        obtain ⟨bl, ol, rfl, ll, t1, t2⟩ := (HKl.out.below H6.out).at i hltl
        have HN := fun q => cntV_next hlt hltl (A.getD i (0, 0)) (l.getD i (0, 0)) q rfl rfl
        have hkx : inK (A.getD i (0, 0)) := kbd HKa.out.1 i hlt
        have hky : inK (l.getD i (0, 0)) := kbd HKl.out.1 i hltl
        have hbx := cntV_bd A l i (A.getD i (0, 0))
        have hby := cntV_bd A l i (l.getD i (0, 0))
        have hprev : decide (0 < i) = false ∨ (decide (0 < i) = true ∧ ∃ (E : Nat) (pa pb : Int), (i : Int) - 1 = (E : Int) ∧ (E : Int) < (A.length : Int) ∧ wr.cell? ⟨ba, oa + E * 2, none⟩ = some (.int .i64 pa) ∧ wr.cell? ⟨ba, oa + E * 2 + 1, none⟩ = some (.int .i64 pb) ∧ ltK (A.getD i (0, 0)) (pa, pb) = false) := by
          by_cases h0 : 0 < i
          · refine .inr ⟨decide_eq_true h0, i - 1, (A.getD (i - 1) (0, 0)).1, (A.getD (i - 1) (0, 0)).2, by omega, by omega, ?_⟩
            obtain ⟨b', o', he, _, z1, z2⟩ := (HKa.out.below H6.out).at (i - 1) (by omega)
            simp only [Option.some.injEq, Addr.mk.injEq, and_true] at he
            obtain ⟨rfl, rfl⟩ := he
            refine ⟨z1, z2, not_of_leK ?_⟩
            rw [kgetD i hlt]
            show leK (A.getD (i - 1) (0, 0)) A[i] = true
            rw [kgetD (i - 1) (by omega)]
            exact List.pairwise_iff_getElem.1 HA.out.2.1 (i - 1) i (by omega) hlt (by omega)
          · exact .inl (decide_eq_false h0)
        have HNN : Hid (∀ q, _ = cntV A l (i + 1) q) := HN
        clear HN
        generalize A.getD i (0, 0) = x at x1 x2 y1 y2 z1 z2 HNN hkx hbx hprev
        generalize l.getD i (0, 0) = y at t1 t2 HNN hky hby
        obtain ⟨xa, xb⟩ := x
        obtain ⟨ya, yb⟩ := y
        have c1 : ∀ s : WB wr.heap.size wr, s.w.cell? ⟨ba, oa + i * 2, none⟩ = some (.int .i64 xa) := fun s => (s.h.cell (p := ⟨ba, oa + i * 2, none⟩) la).trans x1
        have c2 : ∀ s : WB wr.heap.size wr, s.w.cell? ⟨ba, oa + i * 2 + 1, none⟩ = some (.int .i64 xb) := fun s => (s.h.cell (p := ⟨ba, oa + i * 2 + 1, none⟩) la).trans x2
        have c3 : ∀ s : WB wr.heap.size wr, s.w.cell? ⟨bb, ob + i * 2, none⟩ = some (.int .i64 xa) := fun s => (s.h.cell (p := ⟨bb, ob + i * 2, none⟩) lb).trans y1
        have c4 : ∀ s : WB wr.heap.size wr, s.w.cell? ⟨bb, ob + i * 2 + 1, none⟩ = some (.int .i64 xb) := fun s => (s.h.cell (p := ⟨bb, ob + i * 2 + 1, none⟩) lb).trans y2
        have c5 : ∀ s : WB wr.heap.size wr, s.w.cell? ⟨bc', oc + i * 2, none⟩ = some (.int .i64 xa) := fun s => (s.h.cell (p := ⟨bc', oc + i * 2, none⟩) lc').trans z1
        have c6 : ∀ s : WB wr.heap.size wr, s.w.cell? ⟨bc', oc + i * 2 + 1, none⟩ = some (.int .i64 xb) := fun s => (s.h.cell (p := ⟨bc', oc + i * 2 + 1, none⟩) lc').trans z2
        have : Nonempty (WB wr.heap.size wr) := ⟨⟨wr, Below.refl _ _⟩⟩
        have hnM : bl ≠ M := by
          obtain ⟨b', o', he, hlt', _⟩ := HKl.out.at i hltl
          simp only [Option.some.injEq, Addr.mk.injEq, and_true] at he
          have := HM.out
          omega
        rcases hprev with h0 | ⟨h0, E, pa, pb, h1, h2, e1, e2, hless⟩
        · go_wp2
          refine wp_region_below wr.heap.size wr (by kernel_rfl) (by kernel_rfl) (Below.refl _ _) ?_
          repeat (go_big_quiet_step (first
            | (go_at_call 16; exact calls_below (Nat.le_refl _) (less_to _ _ _ _ _ (by assumption) _))))
          refine wpQuiet_nil ?_
          rintro _ ⟨s, rfl⟩
          have hMw : M < wr.heap.size := HC.out.lt
          have t1' : s.w.cell? ⟨bl, ol + i * 2, none⟩ = some (.int .i64 ya) := (s.h.cell (p := ⟨bl, ol + i * 2, none⟩) ll).trans t1
          have t2' : s.w.cell? ⟨bl, ol + i * 2 + 1, none⟩ = some (.int .i64 yb) := (s.h.cell (p := ⟨bl, ol + i * 2 + 1, none⟩) ll).trans t2
          have d1 := c1 s
          have d2 := c2 s
          have HCs : Hid (Counts Try.prog 24 3 s.w.drew M (2 * i) (fun q => cntV A l i q)) := HC.out.block (s.h.block M hMw)
          have H7 : Hid (Below w5.heap.size w5 s.w) := H6.out.trans (s.h.mono H6.out.size)
          have lw : bl < s.w.heap.size := Nat.lt_of_lt_of_le ll s.h.size
          clear c1 c2 c3 c4 c5 c6 x1 x2 y1 y2 z1 z2 t1 t2 la lb lc' ll HC H6 hMw
          generalize s.w = ws at *
          obtain ⟨v0, st, W1, m1, g1, m2, m3⟩ := HCs.out.bump keyMapT (by unfold maxLen; omega) hkx
          have m0 := HCs.out.lookup keyMapT hkx
          obtain ⟨W2, m4, g2, hc2⟩ := m3 (cntV A l i (xa, xb) + 1) (WalkArith.wf_i64 (by omega))
          unfold kval at m0 m1 m2
          simp only at m0 m1 m2
          have HC2 : Hid (Counts Try.prog 24 3 W2.drew M (2 * i + 1) (fun q => if q = (xa, xb) then cntV A l i (xa, xb) + 1 else cntV A l i q)) := hc2
          have G2 : Hid (ws.grownBy W2 (some M)) := (drew_grownBy g1).trans g2
          clear m3 g1 g2 hc2
          have hcy : -201 ≤ (if (ya, yb) = (xa, xb) then cntV A l i (xa, xb) + 1 else cntV A l i (ya, yb)) ∧ (if (ya, yb) = (xa, xb) then cntV A l i (xa, xb) + 1 else cntV A l i (ya, yb)) ≤ 201 := by
            split <;> omega
          obtain ⟨v0', st', W3, n1, g3, n2, n3⟩ := HC2.out.bump keyMapT (by unfold maxLen; omega) hky
          have n0 := HC2.out.lookup keyMapT hky
          generalize (if (ya, yb) = (xa, xb) then cntV A l i (xa, xb) + 1 else cntV A l i (ya, yb)) = cy at HNN hcy n0 n2
          obtain ⟨W4, n4, g4, hc4⟩ := n3 (cy - 1) (WalkArith.wf_i64 (by omega))
          unfold kval at n0 n1 n2
          simp only at n0 n1 n2
          have HC4 : Hid (Counts Try.prog 24 3 W4 M (2 * (i + 1)) (fun q => cntV A l (i + 1) q)) := (hc4.mono (by omega)).congr HNN.out
          have G4 : Hid (W2.grownBy W4 (some M)) := (drew_grownBy g3).trans g4
          have r1 : W2.cell? ⟨bl, ol + i * 2, none⟩ = some (.int .i64 ya) := (G2.out.cell_far ⟨bl, ol + i * 2, none⟩ lw (fun e => hnM (Option.some.inj e))).trans t1'
          have r2 : W2.cell? ⟨bl, ol + i * 2 + 1, none⟩ = some (.int .i64 yb) := (G2.out.cell_far ⟨bl, ol + i * 2 + 1, none⟩ lw (fun e => hnM (Option.some.inj e))).trans t2'
          have H8 : Hid (Below w5.heap.size w5 W4) := (H7.out.grown G2.out H7.out.size (fun q hq => by have := HM.out; cases hq; omega)).grown G4.out (Nat.le_trans H7.out.size G2.out.size) (fun q hq => by have := HM.out; cases hq; omega)
          clear n3 g3 g4 hc4 HNN
          generalize cntV A l i (xa, xb) = cx at *
          go_wp2
          go_region
          go_wp2
          go_region
          go_wp2
          go_roundw
          case rel => exact ⟨i + 1, by omega, by go_num, HC4.out, H8.out⟩
          case measure => simp [intOf]; omega
        · have c7 : ∀ s : WB wr.heap.size wr, s.w.cell? ⟨ba, oa + E * 2, none⟩ = some (.int .i64 pa) := fun s => (s.h.cell (p := ⟨ba, oa + E * 2, none⟩) la).trans e1
          have c8 : ∀ s : WB wr.heap.size wr, s.w.cell? ⟨ba, oa + E * 2 + 1, none⟩ = some (.int .i64 pb) := fun s => (s.h.cell (p := ⟨ba, oa + E * 2 + 1, none⟩) la).trans e2
          go_wp2
          refine wp_region_below wr.heap.size wr (by kernel_rfl) (by kernel_rfl) (Below.refl _ _) ?_
          repeat (go_big_quiet_step (first
            | (go_at_call 16; exact calls_below (Nat.le_refl _) (less_to _ _ _ _ _ (by assumption) _))))
          refine wpQuiet_nil ?_
          rintro _ ⟨s, rfl⟩
          have hMw : M < wr.heap.size := HC.out.lt
          have t1' : s.w.cell? ⟨bl, ol + i * 2, none⟩ = some (.int .i64 ya) := (s.h.cell (p := ⟨bl, ol + i * 2, none⟩) ll).trans t1
          have t2' : s.w.cell? ⟨bl, ol + i * 2 + 1, none⟩ = some (.int .i64 yb) := (s.h.cell (p := ⟨bl, ol + i * 2 + 1, none⟩) ll).trans t2
          have d1 := c1 s
          have d2 := c2 s
          have HCs : Hid (Counts Try.prog 24 3 s.w.drew M (2 * i) (fun q => cntV A l i q)) := HC.out.block (s.h.block M hMw)
          have H7 : Hid (Below w5.heap.size w5 s.w) := H6.out.trans (s.h.mono H6.out.size)
          have lw : bl < s.w.heap.size := Nat.lt_of_lt_of_le ll s.h.size
          clear c7 c8 e1 e2 c1 c2 c3 c4 c5 c6 x1 x2 y1 y2 z1 z2 t1 t2 la lb lc' ll HC H6 hMw
          generalize s.w = ws at *
          obtain ⟨v0, st, W1, m1, g1, m2, m3⟩ := HCs.out.bump keyMapT (by unfold maxLen; omega) hkx
          have m0 := HCs.out.lookup keyMapT hkx
          obtain ⟨W2, m4, g2, hc2⟩ := m3 (cntV A l i (xa, xb) + 1) (WalkArith.wf_i64 (by omega))
          unfold kval at m0 m1 m2
          simp only at m0 m1 m2
          have HC2 : Hid (Counts Try.prog 24 3 W2.drew M (2 * i + 1) (fun q => if q = (xa, xb) then cntV A l i (xa, xb) + 1 else cntV A l i q)) := hc2
          have G2 : Hid (ws.grownBy W2 (some M)) := (drew_grownBy g1).trans g2
          clear m3 g1 g2 hc2
          have hcy : -201 ≤ (if (ya, yb) = (xa, xb) then cntV A l i (xa, xb) + 1 else cntV A l i (ya, yb)) ∧ (if (ya, yb) = (xa, xb) then cntV A l i (xa, xb) + 1 else cntV A l i (ya, yb)) ≤ 201 := by
            split <;> omega
          obtain ⟨v0', st', W3, n1, g3, n2, n3⟩ := HC2.out.bump keyMapT (by unfold maxLen; omega) hky
          have n0 := HC2.out.lookup keyMapT hky
          generalize (if (ya, yb) = (xa, xb) then cntV A l i (xa, xb) + 1 else cntV A l i (ya, yb)) = cy at HNN hcy n0 n2
          obtain ⟨W4, n4, g4, hc4⟩ := n3 (cy - 1) (WalkArith.wf_i64 (by omega))
          unfold kval at n0 n1 n2
          simp only at n0 n1 n2
          have HC4 : Hid (Counts Try.prog 24 3 W4 M (2 * (i + 1)) (fun q => cntV A l (i + 1) q)) := (hc4.mono (by omega)).congr HNN.out
          have G4 : Hid (W2.grownBy W4 (some M)) := (drew_grownBy g3).trans g4
          have r1 : W2.cell? ⟨bl, ol + i * 2, none⟩ = some (.int .i64 ya) := (G2.out.cell_far ⟨bl, ol + i * 2, none⟩ lw (fun e => hnM (Option.some.inj e))).trans t1'
          have r2 : W2.cell? ⟨bl, ol + i * 2 + 1, none⟩ = some (.int .i64 yb) := (G2.out.cell_far ⟨bl, ol + i * 2 + 1, none⟩ lw (fun e => hnM (Option.some.inj e))).trans t2'
          have H8 : Hid (Below w5.heap.size w5 W4) := (H7.out.grown G2.out H7.out.size (fun q hq => by have := HM.out; cases hq; omega)).grown G4.out (Nat.le_trans H7.out.size G2.out.size) (fun q hq => by have := HM.out; cases hq; omega)
          clear n3 g3 g4 hc4 HNN
          generalize cntV A l i (xa, xb) = cx at *
          go_wp2
          go_region
          go_wp2
          go_region
          go_wp2
          go_roundw
          case rel => exact ⟨i + 1, by omega, by go_num, HC4.out, H8.out⟩
          case measure => simp [intOf]; omega
      · have HCe : Hid (Counts Try.prog 24 3 wr M (2 * i) (fun _ => 0)) := HC.out.congr (fun q => cntV_end HA.out.1 i (by omega) (by have := HLL.out; omega) q)
        clear HC
        go_wp2
        go_loopw [121] (fun c wq => ∃ j : Nat, j ≤ l.length ∧ c = .int .i64 j ∧ Counts Try.prog 24 3 wq M (2 * i) (fun _ => 0) ∧ Below w5.heap.size w5 wq) (fun c _ => l.length - (intOf c).toNat)
        case atStart => exact ⟨0, Nat.zero_le _, rfl, HCe.out, H6.out⟩
        case round =>
          obtain ⟨j, hjl, rfl, hcnt, hb⟩ := hrel
          have HC : Hid (Counts Try.prog 24 3 wr M (2 * i) (fun _ => 0)) := hcnt
          have H7 : Hid (Below w5.heap.size w5 wr) := hb
          clear hcnt hb
          by_cases hlt2 : j < l.length
          · obtain ⟨bl, ol, rfl, ll, t1, t2⟩ := (HKl.out.below H7.out).at j hlt2
            have hky : inK (l.getD j (0, 0)) := kbd HKl.out.1 j hlt2
            generalize l.getD j (0, 0) = y at t1 t2 hky
            obtain ⟨ya, yb⟩ := y
            have HC1 : Hid (Counts Try.prog 24 3 (wr.alloc (.cells #[.int .i64 ya, .int .i64 yb] 24)) M (2 * i) (fun _ => 0)) := HC.out.block (Below.heap_alloc _ _ _ HC.out.lt)
            have m0 := HC1.out.lookup keyMapT hky
            unfold kval at m0
            simp only at m0
            go_wp2
            go_roundw
            case rel => exact ⟨j + 1, by omega, by go_num, HC1.out, H7.out.alloc H7.out.size _⟩
            case measure => simp [intOf]; omega
          · go_wp2_with fail
            refine (awake_any _).mono ?_
            rintro e wz ⟨rfl, hbz⟩
            have HE : Hid (Below w.heap.size w wz) := (HB5.out.trans (H7.out.mono HB5.out.size)).trans (hbz.mono (Nat.le_trans HB5.out.size H7.out.size))
            clear hbz
            go_wp2
            go_ret
            exact ⟨rfl, HE.out⟩

set_option maxRecDepth 100000 in
theorem lifted_OrderOne (os : Os) (started : os.Started) (H : Type) (enc : TypeId × Value → H) :
    ReturnsInHanded {} Try.checked os 4 .any (Rows.orderOneSpec.pre6 enc Try.prog Try.f4 Rows.orderOneRow.domain false) (Rows.orderOneSpec.post enc Try.prog Try.f4 false true false false) := by
  refine returnsInHanded_of_change_sized (C := Try.checked) own started (by kernel_rfl) Try.func4
    (ChangeSpec.witness6 (enc := enc) (C := Try.checked) false ⟨#[], #[.slice none 0 0, .int .i64 0], []⟩ 8 (by kernel_rfl) (by kernel_rfl) (by kernel_rfl) (by kernel_rfl)) ?_
  intro W base args ds gs before hval0 hW hcnd hsz0 hholds
  have hval : ∀ (j : Nat) t v, Try.f4.params[j]? = some t → args[j]? = some v → Value.okWide Try.prog W .any base t v := hval0
  have hW' := hW
  obtain ⟨p, q, hA0, hV, rfl, hfz, hnd⟩ := hW
  have hA : DataW.TrodAll enc Try.prog W 0 (fun _ => true) true Try.f4.params.toList args.toList ds p := hA0
  have hsz : (DataW.weightsEach Try.prog (Try.f4.params.toList ++ Rows.orderOneSpec.plain.varTypes Try.prog) (ds ++ gs)).all (· ≤ reachBytes) = true := hsz0
  rw [Try.params4] at hA hval hsz
  obtain ⟨v0, vs0, d0, ds0, p0, q0, hargs, rfl, rfl, h0, r0⟩ := trodAll_cons hA
  obtain ⟨v1, vs1, d1, ds1, p1, q1, rfl, rfl, rfl, h1, r1⟩ := trodAll_cons r0
  obtain ⟨rfl, rfl, rfl⟩ := trodAll_nil r1
  obtain rfl : args = #[v0, v1] := by cases args; simp_all
  obtain ⟨rfl, rfl⟩ := trodVars_none hV
  have k0 := h0
  have lt0 : ∀ x ∈ p0, x.block < W.heap.size := by obtain ⟨m, hm⟩ := k0; exact DataW.trod_lt m _ _ _ hm
  obtain ⟨z0, w0, y0⟩ := open_keys Try.underlying22 Try.underlying24 (by kernel_rfl) rfl rfl (by kernel_rfl) (by kernel_rfl) Try.underlying3 Try.underlying3 (hval 0 22 v0 rfl rfl) h0
  have x0 : z0.length ≤ 8796093022208 := by
    rcases y0 with rfl | ⟨el, sp, rfl, hel⟩
    · simp
    · have hs := sized_slice hsz (j := 0) (t := 22) (e := 24) rfl rfl Try.underlying22
      rw [show Try.prog.bytesOf 24 = 16 by kernel_rfl] at hs
      simp only [reachBytes] at hs
      omega
  obtain ⟨a1, rfl, rfl, rfl, w1⟩ := open_int Try.underlying3 (hval 1 3 v1 rfl rfl) h1
  clear hA0 hval0
  refine (walk_OrderOne _ z0 (w0 (by omega)) x0 a1 (wf_i64 w1) W).mono fun e W' ⟨he, bel⟩ => ?_
  subst he
  exact ⟨_, rfl, _, _, _, [], _, [], hW', trodAll_mk1 (shut_bool Try.underlying4 _), (trodAll_cons_mk (Below.trod laidOut (by kernel_rfl) (of_decide_eq_true (by kernel_rfl)) k0 bel lt0) (trodAll_cons_mk (shut_int Try.underlying3 w1) trodAll_mk0)), rfl, bel.frame _, fun h => by cases h⟩

theorem over_OrderOne : Rows.orderOneRow.holds Try.pinned (OpenSpec.ofChange Rows.orderOneSpec) :=
  OpenClaim.holds_of_wide 4 Try.f4 rfl rfl rfl rfl rfl rfl rfl ⟨rfl, rfl, rfl, rfl, rfl⟩ rfl rfl rfl rfl rfl (by kernel_rfl) Try.func4 (by kernel_rfl)
    (of_decide_eq_true (by kernel_rfl)) (by unfold Func.isWrapper; first | (rw [if_pos (by decide +kernel)]; kernel_rfl) | (rw [if_neg (by decide +kernel)]; exact ⟨rfl, rfl⟩))
    (fun os started H enc _ => lifted_OrderOne os started H enc)

/-- The statement. -/
theorem orderOne_holds : Rows.OrderOneSaid := over_OrderOne
#print axioms orderOne_holds

end Go.Proofs.Ytciolgnmdlgilaa

/-
  Contracts of slices.Clone at []order.Key and of package order's runs.
-/
import Derived.Test.YtomhmndpjkfppaaDoorOrderLR
import Derived.Test.YtomhmndpjkfppaaDoorRowsKit
import Derived.Deep.RegionHeld3
import Derived.Deep.LoopGhost
import Derived.WalkMore
namespace Go.Proofs.YtomhmndpjkfppaaDoor
open Go.RowKit

set_option maxRecDepth 100000 in
set_option maxHeartbeats 1000000 in
theorem clone_any (ks : Row) (v : Value) (w : World) (hv : IsKeys w v ks) (hlen : ks.length ≤ 1000000) :
    Calls Tryd.prog 31 #[v] w fun e w' => ∃ v', e = .returned v' ∧ IsKeys w' v' ks ∧ Below w.heap.size w w' := by
  obtain ⟨ao, c1, rfl⟩ := hv.shape
  obtain ⟨i0, hi, hz0, hz1, hz2⟩ := info_parts infoKey
  have HV : Hid (IsKeys w (.slice ao ks.length c1) ks) := hv
  have q22 : ∀ (w : World) (a : Option Addr) (n c n' c' : Nat), (binOp .eql 50 (.slice a n c) (.slice none n' c')).run Tryd.prog w = .ok (.bool a.isNone) w := fun w a n c n' c' => Lib.run_eql_slice_nil w _ _ a n c n' c' Tryd.underlying50
  cases ao with
  | none =>
    have h0 : ks = [] ∧ c1 = 0 := by
      rcases hv.2.2 with ⟨h0, ao, cap, e, hn⟩ | ⟨_, b, off, cap, e, _⟩
      · simp only [Value.slice.injEq] at e
        obtain ⟨rfl, _, rfl⟩ := e
        exact ⟨h0, hn rfl⟩
      · simp at e
    obtain ⟨rfl, rfl⟩ := h0
    clear hv
    go_enter Tryd.func31, Tryd.ntmps31
    go_wp2
    go_ret
    exact ⟨_, rfl, isKeys_nil _, Below.refl _ _⟩
  | some x =>
    clear hv
    go_enter Tryd.func31, Tryd.ntmps31
    go_wp2_with (at_builtin; refine wpList_append_row rfl (.tmp 5) (.tmp 6) 50 rfl w.heap.size 54 i0 _ 2 16 Tryd.underlying50 hi hz0 hz1 hz2 rfl (by decide) _ 0 _ rfl (own_empty w _ 2 _ (Nat.le_refl _)) _ ks.length (keyCells ks) rfl (HV.out.below ((Below.refl _ _).alloc (Nat.le_refl _) _)).row (keyCells_one _) (by unfold maxLen; omega) (by omega) (by simp) ?_)
    intro v' w1 hown hgrow hat
    have HO1 : Hid (w1.ownsRow w.heap.size 54 2 v' ks.length (keyCells ks)) := by
      show World.ownsRow _ _ _ _ _ _ _
      simpa using hown
    have HB1 : Hid (Below w.heap.size w w1) := ((Below.refl _ _).alloc (Nat.le_refl _) _).grown hgrow (by simp) (fun q hq => by simp [Value.ownBlock] at hq; omega)
    clear hown hgrow hat
    go_wp2
    go_ret
    exact ⟨_, rfl, isKeys_own HO1.out rfl (by omega) HV.out.1, HB1.out⟩

theorem infoRow : (Tryd.prog.info? 50).map (fun i => (i.zero, i.size, i.bytes)) = some (some (.slice none 0 0), 1, 24) := by kernel_rfl

set_option maxRecDepth 100000 in
set_option maxHeartbeats 2000000 in
theorem runs_any (ks : Row) (v : Value) (w : World) (hv : IsKeys w v ks) (hlen : ks.length ≤ 1000000) :
    Calls Tryd.prog 30 #[v] w fun e w' => ∃ v' vs R, e = .returned v' ∧ IsRows w' v' vs R ∧ (∀ r ∈ R, SortedK r) ∧ R.flatten = ks ∧ R ≠ [] ∧ R.length ≤ ks.length + 1 ∧ Below w.heap.size w w' := by
  obtain ⟨ao, c1, rfl⟩ := hv.shape
  obtain ⟨i0, hi, hz0, hz1, hz2⟩ := info_parts infoRow
  have HV : Hid (IsKeys w (.slice ao ks.length c1) ks) := hv
  clear hv
  go_enter Tryd.func30, Tryd.ntmps30
  go_wp2
  go_step3
  go_wp2
  go_step3
  go_wp2
  go_loopg [0, 3] (ks.length) (fun gq l o wr => ∃ (L : Row) (R : List Row) (vs : List Value), L.length ≤ gq ∧ IsKeys w l L ∧ vs.length = R.length ∧ wr.ownsRow w.heap.size 50 1 o R.length vs ∧ (∀ i, i < R.length → IsKeys w (vs.getD i nilV) (R.getD i [])) ∧ (∀ u ∈ vs, u.oneCell' = true) ∧ Below w.heap.size w wr ∧ Cut ks R L)
  case atStart => exact ⟨ks, [], [], Nat.le_refl _, HV.out, rfl, World.ownsRow_nil _ _ _ _, fun i h => by simp at h, by simp, Below.refl _ _, cut_start ks⟩
  case round =>
    obtain ⟨L, R, vs, hg, hl, hvl, ho, hea, hone, hb, hcut⟩ := hrel
    have HL : Hid (IsKeys w u0 L) := hl
    have HVL : Hid (vs.length = R.length) := hvl
    have HO : Hid (wr.ownsRow w.heap.size 50 1 u3 R.length vs) := ho
    have HE : Hid (∀ i, i < R.length → IsKeys w (vs.getD i nilV) (R.getD i [])) := hea
    have HON : Hid (∀ u ∈ vs, u.oneCell' = true) := hone
    have HB : Hid (Below w.heap.size w wr) := hb
    have HC : Hid (Cut ks R L) := hcut
    have hLl : R.length + L.length ≤ ks.length := hcut.2.2
    obtain ⟨lo, lc, rfl⟩ := hl.shape
    have hlc : L.length ≤ lc ∧ lc ≤ maxLen := hl.2.1.2
    unfold maxLen at hlc
    obtain ⟨hlc1, hlc2⟩ := hlc
    clear hl hvl ho hea hone hb hcut
    go_wp2
    generalize wr = wo at *
    generalize gk = go at *
    go_loopg [0, 3, 4] (L.length) (fun gi c0 c3 c4 wq => ∃ k : Nat, c0 = .slice lo L.length lc ∧ c3 = u3 ∧ (k ≤ L.length) ∧ L.length - k ≤ gi ∧ c4 = .int .i64 (k + 1 : Nat) ∧ SortedK (L.take (k + 1)) ∧ Below wo.heap.size wo wq)
    case atStart => exact ⟨0, rfl, rfl, Nat.zero_le _, Nat.le_refl _, rfl, sorted_take_one L, Below.refl _ _⟩
    case round =>
      obtain ⟨k, rfl, rfl, hk, hgi, rfl, hsort, hbq⟩ := hrel
      have HB2 : Hid (Below w.heap.size w wr) := HB.out.trans (hbq.mono HB.out.size)
      have HO2 : Hid (wr.ownsRow w.heap.size 50 1 u3 R.length vs) := own_below HO.out hbq
      have HS : Hid (SortedK (L.take (k + 1))) := hsort
      have HQ : Hid (Below wo.heap.size wo wr) := hbq
      clear hbq hsort HO HB
      by_cases hlt : k + 1 < L.length
      · obtain ⟨b, off, rfl, hblw, e1, e2⟩ := HL.out.at k (by omega)
        obtain ⟨b', off', e, _, e3, e4⟩ := HL.out.at (k + 1) hlt
        simp only [Option.some.injEq, Addr.mk.injEq, and_true] at e
        obtain ⟨rfl, rfl⟩ := e
        have HN : Hid (ltK (L.getD (k + 1) (0, 0)) (L.getD k (0, 0)) = false → SortedK (L.take (k + 1 + 1))) := sorted_take_next HS.out hlt
        have HFL := keys_from HL.out (k + 1) (by omega)
        have HUL : Hid (IsKeys w (.slice (some ⟨b, off, none⟩) (k + 1) lc) (L.take (k + 1))) := keys_upto HL.out (k + 1) (by omega)
        have HC1 : Hid (Cut ks (R ++ [L.take (k + 1)]) (L.drop (k + 1))) := cut_step HC.out (by omega) (by omega) HS.out
        generalize L.getD k (0, 0) = x at e1 e2 HN
        generalize L.getD (k + 1) (0, 0) = y at e3 e4 HN
        have : Nonempty (WB wr.heap.size wr) := ⟨⟨wr, Below.refl _ _⟩⟩
        have hW : ∀ s : WB wr.heap.size wr, Below w.heap.size w s.w := fun s => HB2.out.trans (s.h.mono HB2.out.size)
        have c1 : ∀ s : WB wr.heap.size wr, s.w.cell? ⟨b, off + k * 2, none⟩ = some (.int .i64 x.1) := fun s => ((hW s).cell (p := ⟨b, off + k * 2, none⟩) hblw).trans e1
        have c2 : ∀ s : WB wr.heap.size wr, s.w.cell? ⟨b, off + k * 2 + 1, none⟩ = some (.int .i64 x.2) := fun s => ((hW s).cell (p := ⟨b, off + k * 2 + 1, none⟩) hblw).trans e2
        have c3 : ∀ s : WB wr.heap.size wr, s.w.cell? ⟨b, off + (k + 1) * 2, none⟩ = some (.int .i64 y.1) := fun s => ((hW s).cell (p := ⟨b, off + (k + 1) * 2, none⟩) hblw).trans e3
        have c4 : ∀ s : WB wr.heap.size wr, s.w.cell? ⟨b, off + (k + 1) * 2 + 1, none⟩ = some (.int .i64 y.2) := fun s => ((hW s).cell (p := ⟨b, off + (k + 1) * 2 + 1, none⟩) hblw).trans e4
        have hls : ∀ s : WB wr.heap.size wr, Calls Tryd.prog 37 #[.agg #[.int .i64 y.1, .int .i64 y.2], .agg #[.int .i64 x.1, .int .i64 x.2]] s.w fun e w' => e = .returned (.bool (ltK y x)) ∧ Below s.w.heap.size s.w w' := fun s => less_any y x s.w
        generalize ltK y x = lt at HN hls
        have HL1 : Hid ((lc = k + 1 → IsKeys w (.slice (some ⟨b, off, none⟩) (L.length - (k + 1)) 0) (L.drop (k + 1))) ∧ (¬ lc = k + 1 → IsKeys w (.slice (some ⟨b, off + (k + 1) * 2, none⟩) (L.length - (k + 1)) (lc - (k + 1))) (L.drop (k + 1)))) :=
          ⟨fun h => by rw [h] at HFL; simpa using HFL, fun h => by rw [if_neg h] at HFL; simpa [addr_add] using HFL⟩
        clear HFL e1 e2 e3 e4
        go_wp2
        refine wp_region_below wr.heap.size wr (by kernel_rfl) (by kernel_rfl) (Below.refl _ _) ?_
        repeat (go_big_quiet_step (first
          | (go_at_call 37; exact calls_below (Nat.le_refl _) (hls _))))
        refine wpQuiet_nil ?_
        rintro _ ⟨s, rfl⟩
        have HB4 : Hid (Below w.heap.size w s.w) := hW s
        have HBo : Hid (Below wo.heap.size wo s.w) := HQ.out.trans (s.h.mono HQ.out.size)
        have HO4 : Hid (s.w.ownsRow w.heap.size 50 1 u3 R.length vs) := own_below HO2.out s.h
        clear c1 c2 c3 c4 hls hW HB2 HO2 HQ
        generalize s.w = ws at *
        have j1 : (0 : Int) ≤ (k : Int) + 1 := by omega
        have j2 : (k : Int) + 1 ≤ (L.length : Int) := by omega
        have j3 : (k : Int) + 1 ≤ (lc : Int) := by omega
        have j4 : (L.length : Int) ≤ (lc : Int) := by omega
        cases lt
        · go_wp2
          go_roundg (L.length - (k + 1))
          case measure => omega
          case rel => exact ⟨k + 1, rfl, rfl, by omega, Nat.le_refl _, by go_num, HN.out (by first | rfl | trivial), HBo.out⟩
        · have j5 : ((k + 1 : Nat) : Int) ≤ (L.length : Int) := by omega
          have j6 : ((k + 1 : Nat) : Int) ≤ (lc : Int) := by omega
          have j7 : (0 : Int) ≤ ((k + 1 : Nat) : Int) := by omega
          have n1 : k + 1 ≤ L.length := by omega
          have n2 : k + 1 ≤ lc := by omega
          go_wp2
          go_region_held3 (fun _ => True) (trivial) (first
            | ((refine step_append_row (by rfl) (.tmp 21) (.tmp 25) 60 (by rfl) w.heap.size 50 i0 _ 1 24 Tryd.underlying60 hi hz0 hz1 hz2 (by rfl) (by decide) _ R.length _ (by rfl) (HO4.out.drew.alloc _) _ 1 [.slice (some ⟨b, off, none⟩) (k + 1) lc] (by rfl) (one_row _ _ _ _ (by simp)) (by simp [Value.oneCell']) (by unfold maxLen; omega) (by omega) (by have := HB4.out.size; simp; omega) ?_; intro v2 w2 hown2 hgrow2 hat2; have HO5 : Hid (w2.ownsRow w.heap.size 50 1 v2 (R.length + 1) (vs ++ [.slice (some ⟨b, off, none⟩) (k + 1) lc])) := hown2; have HB5 : Hid (Below w.heap.size w w2) := (HB4.out.drew.alloc HB4.out.size _).grown hgrow2 (by have := HB4.out.size; simp; omega) (own_base HO4.out); clear hown2 hgrow2 hat2)))
          go_wp2
          all_goals
            go_roundg (L.length - (k + 1))
            case measure => omega
            case rel => exact ⟨L.drop (k + 1), R ++ [L.take (k + 1)], vs ++ [.slice (some ⟨b, off, none⟩) (k + 1) lc], by simp, (by first | exact HL1.out.1 (by assumption) | exact HL1.out.2 (by assumption)), by simp [HVL.out], by rw [List.length_append]; exact HO5.out, each_snoc HVL.out HE.out HUL.out, fun u hu => by
                rcases List.mem_append.1 hu with h | h
                · exact HON.out u h
                · rw [List.mem_singleton] at h; rw [h]; rfl, HB5.out, HC1.out⟩
      · have hLt : L.take (k + 1) = L := List.take_of_length_le (by omega)
        have HSL : Hid (SortedK L) := by
          show SortedK L
          rw [← hLt]; exact HS.out
        clear hLt
        go_wp2_with (at_builtin; refine wpList_append_row rfl (.tmp 30) (.tmp 32) 60 rfl w.heap.size 50 i0 _ 1 24 Tryd.underlying60 hi hz0 hz1 hz2 rfl (by decide) _ R.length _ rfl (HO2.out.alloc _) _ 1 [.slice lo L.length lc] rfl (one_row _ _ _ _ (by simp)) (by simp [Value.oneCell']) (by unfold maxLen; omega) (by omega) (by have := HB2.out.size; simp; omega) ?_)
        intro v' w1 hown hgrow hat
        have HO1 : Hid (w1.ownsRow w.heap.size 50 1 v' (R.length + 1) (vs ++ [.slice lo L.length lc])) := hown
        have HB1 : Hid (Below w.heap.size w w1) := (HB2.out.alloc HB2.out.size _).grown hgrow (by have := HB2.out.size; simp; omega) (own_base HO2.out)
        clear hown hgrow hat
        go_wp2
        try rw [Exit.noGoto_ret]
        go_ret
        have hc := HC.out
        refine ⟨_, vs ++ [.slice lo L.length lc], R ++ [L], rfl, ⟨by simp [HVL.out], by rw [List.length_append]; exact isRow_own HO1.out, fun i hi => (each_snoc HVL.out HE.out HL.out i hi).below HB1.out⟩, fun r hr => ?_, ?_, by simp, by simp; omega, HB1.out⟩
        · rcases List.mem_append.1 hr with h | h
          · exact hc.2.1 r h
          · rw [List.mem_singleton] at h; rw [h]; exact HSL.out
        · rw [List.flatten_append]; simpa using hc.1

end Go.Proofs.YtomhmndpjkfppaaDoor

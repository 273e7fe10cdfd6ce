/-
  HostCopies, for every host and every text: what is written into a copy's Meta leaves the host as it was. No condition.
-/
import Derived.Test.YtgjancpogblakaaHostFrame
namespace Go.Proofs.Ytgjancpogblakaa
open Go.ChangeShapes Go.WideShapes Go.ChangeAt Go.RowKit
open Go.ChangeMaps (open_string shut_string)

/-- The row that a copy's pairs lie in: a block of its own, between two others. -/
def CopyRow (w : World) (lo hi : Nat) (co : Option Addr) (n cc : Nat) : Prop :=
  n = 0 ∨ ∃ g cur, co = some ⟨g, 0, none⟩ ∧ lo ≤ g ∧ g < hi ∧ n ≤ cc ∧ HasBox w g 34 cur ∧ cur.size = cc * 2
theorem copyRow_own {w : World} {base n cc : Nat} {co : Option Addr} {xs : List Value} (h : w.ownsRow base 34 2 (.slice co n cc) n xs) : CopyRow w base w.heap.size co n cc := by
  rcases h.2 with ⟨_, h0⟩ | ⟨g, cap, cur, e, hg, hh, hn, _, hs, _⟩
  · exact .inl h0
  · simp only [Value.slice.injEq, true_and] at e
    obtain ⟨rfl, rfl⟩ := e
    exact .inr ⟨g, cur, rfl, hg, (Array.getElem?_eq_some_iff.1 hh).1, hn, hh, hs⟩
theorem CopyRow.alloc {w : World} {lo hi n cc : Nat} {co : Option Addr} (h : CopyRow w lo hi co n cc) (o : Obj) : CopyRow (w.alloc o) lo hi co n cc := by
  rcases h with h | ⟨g, cur, h1, h2, h3, h4, h5, h6⟩
  · exact .inl h
  · exact .inr ⟨g, cur, h1, h2, h3, h4, h5.alloc o, h6⟩

set_option maxRecDepth 100000 in
set_option maxHeartbeats 4000000 in
theorem walk_HostCopies (h : HostT) (mv : Value) (_ : okHost h) (_ : inI h.id ∧ inI h.prio ∧ inI h.weight) (zh : h.tags.length ≤ 4398046510976) (s : ByteArray) (hs : s.size ≤ maxLen) (w : World) (hm : IsPairs w mv h.tags) :
    Calls Try.prog 5 #[hval h mv, .string s] w fun e w' => e = .returned (.bool true) ∧ Below w.heap.size w w' := by
  have HM : Hid (IsPairs w mv h.tags) := hm
  unfold maxLen at hs
  clear hm
  go_enter Try.func5, Try.ntmps5
  go_wp2_with fail
  refine (light_any h mv _ (HM.out.below ((Below.refl _ _).alloc (Nat.le_refl _) _))).mono ?_
  rintro e w1 ⟨r, hr, rfl, hb⟩
  have HX1 : Hid (HasBox w1 w.heap.size 24 (hcells h mv)) := (hasBox_new w _ _).below hb
  have HB1 : Hid (Below w.heap.size w w1) := ((Below.refl _ _).alloc (Nat.le_refl _) _).trans (hb.mono (by simp))
  clear hb
  by_cases hc : 0 < r ∨ 50 < s.size
  · have : (0 < r) ∨ (¬ 0 < r ∧ (50 : Int) < s.size) := by omega
    rcases this with h1 | ⟨h1, h2⟩
    all_goals
      go_wp2_with fail
      refine (awake_any _).mono ?_
      rintro e w2 ⟨rfl, hb⟩
      have HB2 : Hid (Below w.heap.size w w2) := HB1.out.trans (hb.mono HB1.out.size)
      clear hb
      go_wp2
      go_ret
      exact ⟨rfl, HB2.out⟩
  have h1 : ¬ 0 < r := by omega
  have h2 : ¬ (50 : Int) < s.size := by omega
  clear hc
  have hlen := HM.out.len
  go_wp2_with (first | (refine wpList_load_row rfl 24 (.tmp 2) rfl w.heap.size rfl 24 (hcells h mv) (0, 0) _ HX1.out Try.underlying24 rfl sizeHost ?_) | fail)
  refine (rCopy_any h mv _ (HM.out.below HB1.out) zh).mono ?_
  rintro e w2 ⟨wv, rfl, hown, hb⟩
  obtain ⟨wo, wc, rfl⟩ := (isRow_own hown).shaped
  have HW2 : Hid (IsPairs w2 (.slice wo h.tags.length wc) h.tags) := own_pairs hown rfl HM.out.1
  have HX2 : Hid (HasBox w2 w.heap.size 24 (hcells h mv)) := HX1.out.below hb
  have HB2 : Hid (Below w.heap.size w w2) := HB1.out.trans (hb.mono HB1.out.size)
  clear hown hb HX1 HB1
  have HF := fun o => And.intro (HX2.out.alloc o) (And.intro (HB2.out.alloc (by exact HB2.out.size) o) (HW2.out.below ((Below.refl _ _).alloc (Nat.le_refl _) o)))
  have HN := hasBox_new w2 24 (hcells h (.slice wo h.tags.length wc))
  go_wp2_with (first | (refine wpList_load_row rfl 24 (.tmp 2) rfl w.heap.size rfl 24 (hcells h mv) (0, 0) _ (HF _).1 Try.underlying24 rfl sizeHost ?_) | fail)
  refine (copy_any h mv _ (HM.out.below (HF _).2.1) zh).mono ?_
  rintro e w4 ⟨cv, rfl, hown, hb⟩
  obtain ⟨co, cc, rfl⟩ := (isRow_own hown).shaped
  generalize hW3 : w2.alloc _ = W3 at hown hb HN
  have HR4 : Hid (CopyRow w4 W3.heap.size w4.heap.size co h.tags.length cc) := copyRow_own hown
  have HB3 : Hid (Below w.heap.size w W3) := by show Below _ _ _; rw [← hW3]; exact (HF _).2.1
  have HX3 : Hid (HasBox W3 w.heap.size 24 (hcells h mv)) := by show HasBox _ _ _ _; rw [← hW3]; exact (HF _).1
  have HW3 : Hid (IsPairs W3 (.slice wo h.tags.length wc) h.tags) := by show IsPairs _ _ _; rw [← hW3]; exact (HF _).2.2
  have HN3 : Hid (HasBox W3 w2.heap.size 24 (hcells h (.slice wo h.tags.length wc))) := HN
  have HB4 : Hid (Below W3.heap.size W3 w4) := hb
  clear HF HN hW3 hown hb HX2 HB2 HW2
  go_wp2
  generalize hW5 : w4.alloc _ = W5
  have HC5 : Hid (HasBox W5 w4.heap.size 24 (hcells h (.slice co h.tags.length cc))) := by show HasBox _ _ _ _; rw [← hW5]; exact hasBox_new w4 _ _
  have HB5 : Hid (Below W3.heap.size W3 W5) := by show Below _ _ _; rw [← hW5]; exact HB4.out.alloc HB4.out.size _
  have HR5 : Hid (CopyRow W5 W3.heap.size w4.heap.size co h.tags.length cc) := by show CopyRow _ _ _ _ _ _; rw [← hW5]; exact HR4.out.alloc _
  have HS4 : Hid (W3.heap.size ≤ w4.heap.size) := HB4.out.size
  clear hW5 HB4 HR4
  go_loopw [7, 24] (fun _ i wr => ∃ k : Nat, k ≤ h.tags.length ∧ i = .int .i64 k ∧ Below W3.heap.size W3 wr ∧ HasBox wr w4.heap.size 24 (hcells h (.slice co h.tags.length cc)) ∧ CopyRow wr W3.heap.size w4.heap.size co h.tags.length cc) (fun _ i _ => h.tags.length - (intOf i).toNat)
  case atStart => exact ⟨0, Nat.zero_le _, rfl, HB5.out, HC5.out, HR5.out⟩
  case round =>
    obtain ⟨k, hk, rfl, hb, hc, hr⟩ := hrel
    have HB : Hid (Below W3.heap.size W3 wr) := hb
    have HC : Hid (HasBox wr w4.heap.size 24 (hcells h (.slice co h.tags.length cc))) := hc
    clear hb hc
    by_cases hlt : k < h.tags.length
    · rcases hr with h0 | ⟨g, cur, rfl, hlo, hhi, hn, hg, hsz⟩
      · omega
      have HG : Hid (HasBox wr g 34 cur) := hg
      have hne : w4.heap.size ≠ g := by omega
      have f0 : wr.frozen? ⟨g, k * 2, none⟩ = false := hg.frozen _
      have f1 : wr.frozen? ⟨g, k * 2 + 1, none⟩ = false := hg.frozen _
      have c0 : wr.cell? ⟨g, k * 2, none⟩ = some (cur[k * 2]'(by omega)) := by rw [hg.cell, Array.getElem?_eq_getElem]
      have c1 : wr.cell? ⟨g, k * 2 + 1, none⟩ = some (cur[k * 2 + 1]'(by omega)) := by rw [hg.cell, Array.getElem?_eq_getElem]
      generalize cur[k * 2]'(by omega) = x0 at c0
      generalize cur[k * 2 + 1]'(by omega) = x1 at c1
      have c5 : wr.cell? ⟨w4.heap.size, 5, none⟩ = some (.slice (some ⟨g, 0, none⟩) h.tags.length cc) := HC.out.cell 5
      clear hg
      go_wp2
      go_roundw
      case rel => exact ⟨k + 1, by omega, by go_num, (HB.out.setCell hlo _).setCell hlo _, (HC.out.setOther _ hne _).setOther _ hne _, .inr ⟨g, _, rfl, hlo, hhi, hn, (HG.out.set _ _).set _ _, by simp [hsz]⟩⟩
      case measure => simp [intOf]; omega
    · have HX6 : Hid (HasBox wr w.heap.size 24 (hcells h mv)) := HX3.out.below HB.out
      have HN6 : Hid (HasBox wr w2.heap.size 24 (hcells h (.slice wo h.tags.length wc))) := HN3.out.below HB.out
      have HW6 : Hid (IsPairs wr (.slice wo h.tags.length wc) h.tags) := HW3.out.below HB.out
      have HB6 : Hid (Below w.heap.size w wr) := HB3.out.trans (HB.out.mono HB3.out.size)
      have HM6 : Hid (IsPairs wr mv h.tags) := HM.out.below HB6.out
      have HK := fun W hA hB => rSameHost_any h h mv (.slice wo h.tags.length wc) W hA hB
      rw [show sameH h h = true from decide_eq_true rfl] at HK
      go_wp2_with (first | (refine wpList_load_row rfl 24 (.tmp 2) rfl w.heap.size rfl 24 (hcells h mv) (0, 0) _ HX6.out Try.underlying24 rfl sizeHost ?_) | (refine wpList_load_row rfl 24 (.tmp 5) rfl w2.heap.size rfl 24 (hcells h (.slice wo h.tags.length wc)) (0, 0) _ HN6.out Try.underlying24 rfl sizeHost ?_) | fail)
      refine (HK _ HM6.out HW6.out).mono ?_
      rintro e w7 ⟨rfl, hb⟩
      have HB7 : Hid (Below w.heap.size w w7) := HB6.out.trans (hb.mono HB6.out.size)
      clear hb
      go_wp2_with fail
      refine (awake_any _).mono ?_
      rintro e w8 ⟨rfl, hb⟩
      have HB8 : Hid (Below w.heap.size w w8) := HB7.out.trans (hb.mono HB7.out.size)
      clear hb
      go_wp2
      go_ret
      exact ⟨rfl, HB8.out⟩

set_option maxRecDepth 100000 in
theorem lifted_HostCopies (os : Os) (started : os.Started) (H : Type) (enc : TypeId × Value → H) :
    ReturnsInHanded {} Try.checked os 5 .any (Rows.hostCopiesSpec.pre6 enc Try.prog Try.f5 Rows.hostCopiesRow.domain false) (Rows.hostCopiesSpec.post enc Try.prog Try.f5 false true false false) := by
  refine returnsInHanded_of_change_sized (C := Try.checked) own started (by kernel_rfl) Try.func5
    (ChangeSpec.witness6 (enc := enc) (C := Try.checked) false ⟨#[], #[.agg #[.int .i64 0, .string ByteArray.empty, .int .i64 0, .string ByteArray.empty, .int .i64 0, .slice none 0 0], .string ByteArray.empty], []⟩ 8 (by kernel_rfl) (by kernel_rfl) (by kernel_rfl) (by kernel_rfl)) ?_
  intro W base args ds gs before hval0 hW hcnd hsz0 hholds
  have hval : ∀ (j : Nat) t v, Try.f5.params[j]? = some t → args[j]? = some v → Value.okWide Try.prog W .any base t v := hval0
  have hW' := hW
  obtain ⟨p, q, hA0, hV, rfl, hfz, hnd⟩ := hW
  have hA : DataW.TrodAll enc Try.prog W 0 (fun _ => true) true Try.f5.params.toList args.toList ds p := hA0
  have hsz : (DataW.weightsEach Try.prog (Try.f5.params.toList ++ Rows.hostCopiesSpec.plain.varTypes Try.prog) (ds ++ gs)).all (· ≤ reachBytes) = true := hsz0
  rw [Try.params5] at hA hval hsz
  obtain ⟨v0, vs0, d0, ds0, p0, q0, hargs, rfl, rfl, h0, r0⟩ := trodAll_cons hA
  obtain ⟨v1, vs1, d1, ds1, p1, q1, rfl, rfl, rfl, h1, r1⟩ := trodAll_cons r0
  obtain ⟨rfl, rfl, rfl⟩ := trodAll_nil r1
  obtain rfl : args = #[v0, v1] := by cases args; simp_all
  obtain ⟨rfl, rfl⟩ := trodVars_none hV
  have k0 := h0
  have lt0 : ∀ x ∈ p0, x.block < W.heap.size := by obtain ⟨m, hm⟩ := k0; exact DataW.trod_lt m _ _ _ hm
  obtain ⟨c0, m0, dm0, rfl, o0, i0, w0, rfl, x0⟩ := open_host (hval 0 24 v0 rfl rfl) h0
  have z0 : c0.tags.length ≤ 4398046510976 := sized_host hsz (j := 0) rfl rfl x0
  obtain ⟨a1, rfl, rfl, rfl, w1⟩ := open_string Try.underlying9 (hval 1 9 v1 rfl rfl) h1
  clear hA0 hval0
  refine (walk_HostCopies c0 m0 o0 i0 z0 a1 w1 W w0).mono fun e W' ⟨he, bel⟩ => ?_
  subst he
  exact ⟨_, rfl, _, _, _, [], _, [], hW', trodAll_mk1 (shut_bool Try.underlying4 _), (trodAll_cons_mk (Below.trod laidOut (by kernel_rfl) (of_decide_eq_true (by kernel_rfl)) k0 bel lt0) (trodAll_cons_mk (shut_string Try.underlying9 w1) trodAll_mk0)), rfl, bel.frame _, fun h => by cases h⟩

theorem over_HostCopies : Rows.hostCopiesRow.holds Try.pinned (OpenSpec.ofChange Rows.hostCopiesSpec) :=
  OpenClaim.holds_of_wide 5 Try.f5 rfl rfl rfl rfl rfl rfl rfl ⟨rfl, rfl, rfl, rfl, rfl⟩ rfl rfl rfl rfl rfl (by kernel_rfl) Try.func5 (by kernel_rfl)
    (of_decide_eq_true (by kernel_rfl)) (by unfold Func.isWrapper; first | (rw [if_pos (by decide +kernel)]; kernel_rfl) | (rw [if_neg (by decide +kernel)]; exact ⟨rfl, rfl⟩))
    (fun os started H enc _ => lifted_HostCopies os started H enc)

/-- The statement. -/
theorem hostCopies_holds : Rows.HostCopiesSaid := over_HostCopies
#print axioms hostCopies_holds

end Go.Proofs.Ytgjancpogblakaa

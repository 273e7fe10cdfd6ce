/-
  HostTurned, for every host and every number, of bulk at most 1048576: with any field turned it is another host.
-/
import Derived.Test.YtgjancpogblakaaHostUpto
import Derived.Test.YtgjancpogblakaaTurnBox
import Derived.Deep.CutRange
namespace Go.Proofs.Ytgjancpogblakaa
open Go.ChangeShapes Go.WideShapes Go.ChangeAt Go.RowKit

theorem relUpon_mono {P : Program} {post post' : Value → World → Prop} {r : Result Next} (h : relUpon P post r) (hp : ∀ v w, post v w → post' v w) : relUpon P post' r := by
  cases r with
  | ok n w' =>
    cases n <;> simp only [relUpon] at h ⊢
    case value u => exact hp _ _ h
    case skip => exact hp _ _ h
    case enter f args => exact h.mono fun e w'' ⟨v, he, hq⟩ => ⟨v, he, hp _ _ hq⟩
  | halt x w' => simp only [relUpon] at h
theorem replicate_no (n k : Nat) : ¬ (Array.replicate n false).getD k false = true := by
  simp [Array.getD_eq_getD_getElem?, Array.getElem?_replicate]
  split <;> simp

theorem xor_ne {a x : Int} (hx : inI x) (h0 : ¬ x = 0) : bits .xor .i64 a x ≠ a := by
  intro e
  unfold inI at hx
  have h1 : (BitVec.ofInt 64 a).toNat = (a % 18446744073709551616).toNat := BitVec.toNat_ofInt ..
  have h2 : (BitVec.ofInt 64 x).toNat = (x % 18446744073709551616).toNat := BitVec.toNat_ofInt ..
  have h3 := (BitVec.ofInt 64 a ^^^ BitVec.ofInt 64 x).isLt
  have e' : IntKind.i64.wrap ((BitVec.ofInt 64 a ^^^ BitVec.ofInt 64 x).toNat : Int) = a := e
  rw [IntKind.wrap_i64] at e'
  have h4 : (BitVec.ofInt 64 a ^^^ BitVec.ofInt 64 x).toNat = (BitVec.ofInt 64 a).toNat := by omega
  have h5 : BitVec.ofInt 64 a ^^^ BitVec.ofInt 64 x = BitVec.ofInt 64 a := BitVec.eq_of_toNat_eq h4
  have h6 : BitVec.ofInt 64 x = 0#64 := by
    have : BitVec.ofInt 64 x = BitVec.ofInt 64 a ^^^ (BitVec.ofInt 64 a ^^^ BitVec.ofInt 64 x) := by rw [← BitVec.xor_assoc, BitVec.xor_self, BitVec.zero_xor]
    rw [this, h5, BitVec.xor_self]
  rw [h6] at h2
  simp at h2
  omega
theorem own_cellOther {w : World} {base e sz n g t : Nat} {v : Value} {xs : List Value} {cs : Array Value} (ho : w.ownsRow base e sz v n xs) (hg : HasBox w g t cs) (hne : t ≠ e) (u : Value) (p : Addr) (hp : p.block = g) : (w.setCell p u).ownsRow base e sz v n xs := by
  refine ⟨ho.1, ?_⟩
  rcases ho.2 with h | ⟨k, cap, cur, h1, h2, h3, h4⟩
  · exact .inl h
  · refine .inr ⟨k, cap, cur, h1, h2, ?_, h4⟩
    rw [Below.heap_setCell _ _ _ _ (fun e => ?_)]
    · exact h3
    · rw [hp] at e
      subst e
      unfold HasBox at hg
      rw [hg] at h3
      simp only [Option.some.injEq, Obj.cells.injEq] at h3
      exact hne h3.2.1
theorem own_ne_box {w : World} {base e sz n g t : Nat} {v : Value} {xs : List Value} {cs : Array Value} (ho : w.ownsRow base e sz v n xs) (hg : HasBox w g t cs) (hne : t ≠ e) : some g ≠ v.ownBlock := by
  rcases ho.2 with ⟨rfl, _⟩ | ⟨k, cap, cur, rfl, h2, h3, h4⟩
  · simp [Value.ownBlock]
  · simp only [Value.ownBlock, ne_eq, Option.some.injEq]
    intro e
    subst e
    unfold HasBox at hg
    rw [hg] at h3
    simp only [Option.some.injEq, Obj.cells.injEq] at h3
    exact hne h3.2.1
abbrev morP : PairT := (⟨#[109, 111, 114, 101]⟩, ⟨#[109]⟩)
theorem sameH_ne {a b : HostT} (h : a ≠ b) : sameH a b = false := decide_eq_false h

set_option maxRecDepth 100000 in
set_option maxHeartbeats 8000000 in
theorem walk_HostTurned (h : HostT) (mv : Value) (_ : okHost h) (_ : inI h.id ∧ inI h.prio ∧ inI h.weight) (x : Int) (hx : inI x) (w : World) (hm : IsPairs w mv h.tags) (hlen : h.addr.size + h.zone.size + h.tags.length ≤ 1048576) :
    Calls Try.prog 7 #[hval h mv, .int .i64 x] w fun e w' => e = .returned (.bool true) ∧ Below w.heap.size w w' := by
  obtain ⟨mo, mc, rfl⟩ := hm.shaped
  have HM0 : Hid (IsPairs w (.slice mo h.tags.length mc) h.tags) := hm
  have hlen := hlen
  clear hm
  go_enter Try.func7, Try.ntmps7
  go_wp2_with fail
  refine (light_any h (.slice mo h.tags.length mc) _ (HM0.out.below ((Below.refl _ _).alloc (Nat.le_refl _) _))).mono ?_
  rintro e w1 ⟨r, _, rfl, hb⟩
  have HX1 : Hid (HasBox w1 w.heap.size 24 (hcells h (.slice mo h.tags.length mc))) := (hasBox_new w _ _).below hb
  have HB1 : Hid (Below w.heap.size w w1) := ((Below.refl _ _).alloc (Nat.le_refl _) _).trans (hb.mono (by simp))
  have HBL : Hid (w.heap.size < w1.heap.size) := by have := hb.size; simp at this; exact this
  clear hb
  by_cases hpos : 0 < r ∨ x = 0
  · have : (0 < r) ∨ (¬ 0 < r ∧ (x == 0) = true) := by rcases hpos with h | h; exact .inl h; by_cases h0 : 0 < r; exact .inl h0; exact .inr ⟨h0, by rw [beq_iff_eq]; exact h⟩
    rcases this with h1 | ⟨h1, h2⟩
    all_goals
      go_wp2_with fail
      refine (awake_any _).mono ?_
      rintro e w4 ⟨rfl, hb⟩
      have HB4 : Hid (Below w.heap.size w w4) := HB1.out.trans (hb.mono HB1.out.size)
      clear hb
      go_wp2
      go_ret
      exact ⟨rfl, HB4.out⟩
  have h1 : ¬ 0 < r := fun h => hpos (.inl h)
  have hx0 : ¬ x = 0 := fun h => hpos (.inr h)
  have h2 : (x == 0) = false := by rw [beq_eq_false_iff_ne]; exact hx0
  clear hpos
  have HX : ∀ W, Below w1.heap.size w1 W → HasBox W w.heap.size 24 (hcells h (.slice mo h.tags.length mc)) := fun W q => HX1.out.below q
  have HMp : ∀ W, Below w1.heap.size w1 W → IsPairs W (.slice mo h.tags.length mc) h.tags := fun W q => (HM0.out.below HB1.out).below q
  go_wp2
  refine wp_region_inv (TA h (.slice mo h.tags.length mc) w1 _) (by kernel_rfl) (by kernel_rfl) ⟨rfl, rfl, TI.start (fun _ => rfl) (replicate_no _) (Below.refl _ _).drew⟩ ?_ ?_
  · simp only [stepsI]
    refine ⟨fun listed a W _ hI hn hd => ?_, fun listed a W _ hI hn hd => ?_, fun listed a W _ hI hn hd => ?_, fun listed a W _ hI hn hd => ?_, fun listed a W _ hI hn hd => ?_, fun listed a W _ hI hn hd => ?_, fun listed a W _ hI hn hd => ?_, fun listed a W _ hI hn hd => ?_, fun listed a W _ hI hn hd => ?_, fun listed a W _ hI hn hd => ?_, fun listed a W _ hI hn hd => ?_, fun listed a W _ hI hn hd => ?_, fun listed a W _ hI hn hd => ?_, fun listed a W _ hI hn hd => ?_, fun listed a W _ hI hn hd => ?_, fun listed a W _ hI hn hd => ?_, trivial⟩
    all_goals obtain ⟨s1, s2, H⟩ := hI
    · have ht : a.eval (.tmp 2) = ptrB w.heap.size := H.frame 2 (by omega)
      refine .inl ⟨rfl, ?_⟩
      rw [run_obox _ _ 24 (.tmp 2) rfl w.heap.size ht 24 (hcells h (.slice mo h.tags.length mc)) _ (HX W H.below) Try.underlying24 rfl sizeHost]
      exact ⟨by rw [Act.size_put]; exact s1, by rw [Act.defers_put']; exact s2, H.load1 (j := 0) (by omega) (by rw [getD_true_false hn]; decide) (listed_set hn) (eval_put_if (by rw [s1]; exact (by decide : 19 < 97)) _)⟩
    · have ht : a.eval (.tmp 2) = ptrB w.heap.size := H.frame 2 (by omega)
      refine .inl ⟨rfl, ?_⟩
      rw [run_obox _ _ 24 (.tmp 2) rfl w.heap.size ht 24 (hcells h (.slice mo h.tags.length mc)) _ (HX W H.below) Try.underlying24 rfl sizeHost]
      exact ⟨by rw [Act.size_put]; exact s1, by rw [Act.defers_put']; exact s2, H.load1 (j := 1) (by omega) (by rw [getD_true_false hn]; decide) (listed_set hn) (eval_put_if (by rw [s1]; exact (by decide : 20 < 97)) _)⟩
    · have ht : a.eval (.tmp 2) = ptrB w.heap.size := H.frame 2 (by omega)
      refine .inl ⟨rfl, ?_⟩
      rw [run_obox _ _ 24 (.tmp 2) rfl w.heap.size ht 24 (hcells h (.slice mo h.tags.length mc)) _ (HX W H.below) Try.underlying24 rfl sizeHost]
      exact ⟨by rw [Act.size_put]; exact s1, by rw [Act.defers_put']; exact s2, H.load1 (j := 2) (by omega) (by rw [getD_true_false hn]; decide) (listed_set hn) (eval_put_if (by rw [s1]; exact (by decide : 21 < 97)) _)⟩
    · have ht : a.eval (.tmp 2) = ptrB w.heap.size := H.frame 2 (by omega)
      refine .inl ⟨rfl, ?_⟩
      rw [run_obox _ _ 24 (.tmp 2) rfl w.heap.size ht 24 (hcells h (.slice mo h.tags.length mc)) _ (HX W H.below) Try.underlying24 rfl sizeHost]
      exact ⟨by rw [Act.size_put]; exact s1, by rw [Act.defers_put']; exact s2, H.load1 (j := 3) (by omega) (by rw [getD_true_false hn]; decide) (listed_set hn) (eval_put_if (by rw [s1]; exact (by decide : 22 < 97)) _)⟩
    · have ht : a.eval (.tmp 2) = ptrB w.heap.size := H.frame 2 (by omega)
      refine .inl ⟨rfl, ?_⟩
      rw [run_obox _ _ 24 (.tmp 2) rfl w.heap.size ht 24 (hcells h (.slice mo h.tags.length mc)) _ (HX W H.below) Try.underlying24 rfl sizeHost]
      exact ⟨by rw [Act.size_put]; exact s1, by rw [Act.defers_put']; exact s2, H.load1 (j := 4) (by omega) (by rw [getD_true_false hn]; decide) (listed_set hn) (eval_put_if (by rw [s1]; exact (by decide : 23 < 97)) _)⟩
    · have ht : a.tmps.getD 23 undef = hval h (.slice mo h.tags.length mc) := H.load 4 (by omega) (hd { on := 4, ground := .data } (by simp) rfl)
      rw [Array.getD_eq_getD_getElem?] at ht
      refine .inl ⟨rfl, relUpon_mono (post := fun v w' => ∃ ev, v = hval h ev ∧ w'.ownsRow W.heap.size 34 2 ev h.tags.length (pairCells h.tags) ∧ Below W.heap.size W w') ?_ ?_⟩
      · clear s1 s2 hd hn
        have hz : h.tags.length ≤ maxRow := by show h.tags.length ≤ 4398046510976; omega
        have hc := rCopy_any h (.slice mo h.tags.length mc) W (HMp W H.below) hz
        go_simp
        exact hc.mono fun e w2 ⟨ev, q1, q2, q3⟩ => ⟨_, q1, ev, rfl, q2, q3⟩
      · rintro v w' ⟨ev, rfl, q1, q2⟩
        exact ⟨by rw [Act.size_put]; exact s1, by rw [Act.defers_put']; exact s2, H.copy1 (by rw [getD_true_false hn]; decide) (listed_set hn) (eval_put_if (by rw [s1]; exact (by decide : 24 < 97)) _) q2 q1⟩
    · refine .inl ⟨rfl, relUpon_mono (post := fun v w' => v = ptrB W.heap.size ∧ ∃ cs, cs.size = 6 ∧ w' = W.alloc (.cells cs 24 (0, 0))) ?_ ?_⟩
      · go_simp
        exact ⟨rfl, _, rfl, rfl⟩
      · rintro v w' ⟨rfl, cs, hcs, rfl⟩
        exact ⟨by rw [Act.size_put]; exact s1, by rw [Act.defers_put']; exact s2, H.alloc1 (j := 0) (by omega) (by rw [getD_true_false hn]; decide) hcs (listed_set hn) (eval_put_if (by rw [s1]; exact (by decide : 5 < 97)) _)⟩
    · refine .inl ⟨rfl, relUpon_mono (post := fun v w' => v = ptrB W.heap.size ∧ ∃ cs, cs.size = 6 ∧ w' = W.alloc (.cells cs 24 (0, 0))) ?_ ?_⟩
      · go_simp
        exact ⟨rfl, _, rfl, rfl⟩
      · rintro v w' ⟨rfl, cs, hcs, rfl⟩
        exact ⟨by rw [Act.size_put]; exact s1, by rw [Act.defers_put']; exact s2, H.alloc1 (j := 1) (by omega) (by rw [getD_true_false hn]; decide) hcs (listed_set hn) (eval_put_if (by rw [s1]; exact (by decide : 6 < 97)) _)⟩
    · refine .inl ⟨rfl, relUpon_mono (post := fun v w' => v = ptrB W.heap.size ∧ ∃ cs, cs.size = 6 ∧ w' = W.alloc (.cells cs 24 (0, 0))) ?_ ?_⟩
      · go_simp
        exact ⟨rfl, _, rfl, rfl⟩
      · rintro v w' ⟨rfl, cs, hcs, rfl⟩
        exact ⟨by rw [Act.size_put]; exact s1, by rw [Act.defers_put']; exact s2, H.alloc1 (j := 2) (by omega) (by rw [getD_true_false hn]; decide) hcs (listed_set hn) (eval_put_if (by rw [s1]; exact (by decide : 7 < 97)) _)⟩
    · refine .inl ⟨rfl, relUpon_mono (post := fun v w' => v = ptrB W.heap.size ∧ ∃ cs, cs.size = 6 ∧ w' = W.alloc (.cells cs 24 (0, 0))) ?_ ?_⟩
      · go_simp
        exact ⟨rfl, _, rfl, rfl⟩
      · rintro v w' ⟨rfl, cs, hcs, rfl⟩
        exact ⟨by rw [Act.size_put]; exact s1, by rw [Act.defers_put']; exact s2, H.alloc1 (j := 3) (by omega) (by rw [getD_true_false hn]; decide) hcs (listed_set hn) (eval_put_if (by rw [s1]; exact (by decide : 8 < 97)) _)⟩
    · refine .inl ⟨rfl, relUpon_mono (post := fun v w' => v = ptrB W.heap.size ∧ ∃ cs, cs.size = 6 ∧ w' = W.alloc (.cells cs 24 (0, 0))) ?_ ?_⟩
      · go_simp
        exact ⟨rfl, _, rfl, rfl⟩
      · rintro v w' ⟨rfl, cs, hcs, rfl⟩
        exact ⟨by rw [Act.size_put]; exact s1, by rw [Act.defers_put']; exact s2, H.alloc1 (j := 4) (by omega) (by rw [getD_true_false hn]; decide) hcs (listed_set hn) (eval_put_if (by rw [s1]; exact (by decide : 9 < 97)) _)⟩
    · obtain ⟨g, cs0, hg, _, hbx, hsz0, _⟩ := H.box 0 (by omega) (hd { on := 6, ground := .data } (by simp) rfl)
      have hv : a.eval (.tmp 19) = .agg (hcells h (.slice mo h.tags.length mc)) := H.load 0 (by omega) (hd { on := 0, ground := .data } (by simp) rfl)
      refine .inl ⟨rfl, ?_⟩
      rw [run_obstore _ _ 24 (.tmp 5) (.tmp 19) rfl g (hcells h (.slice mo h.tags.length mc)) hg hv 24 cs0 hbx sizeHost (by rw [hsz0]; rfl) (one_host _ _ _ _)]
      exact ⟨s1, s2, H.store1 (j := 0) (by omega) rfl hg hv (hd { on := 6, ground := .data } (by simp) rfl) (hd { on := 0, ground := .data } (by simp) rfl) (by decide) (listed_set hn) (fun _ => rfl)⟩
    · obtain ⟨g, cs0, hg, _, hbx, hsz0, _⟩ := H.box 1 (by omega) (hd { on := 7, ground := .data } (by simp) rfl)
      have hv : a.eval (.tmp 20) = .agg (hcells h (.slice mo h.tags.length mc)) := H.load 1 (by omega) (hd { on := 1, ground := .data } (by simp) rfl)
      refine .inl ⟨rfl, ?_⟩
      rw [run_obstore _ _ 24 (.tmp 6) (.tmp 20) rfl g (hcells h (.slice mo h.tags.length mc)) hg hv 24 cs0 hbx sizeHost (by rw [hsz0]; rfl) (one_host _ _ _ _)]
      exact ⟨s1, s2, H.store1 (j := 1) (by omega) rfl hg hv (hd { on := 7, ground := .data } (by simp) rfl) (hd { on := 1, ground := .data } (by simp) rfl) (by decide) (listed_set hn) (fun _ => rfl)⟩
    · obtain ⟨g, cs0, hg, _, hbx, hsz0, _⟩ := H.box 2 (by omega) (hd { on := 8, ground := .data } (by simp) rfl)
      have hv : a.eval (.tmp 21) = .agg (hcells h (.slice mo h.tags.length mc)) := H.load 2 (by omega) (hd { on := 2, ground := .data } (by simp) rfl)
      refine .inl ⟨rfl, ?_⟩
      rw [run_obstore _ _ 24 (.tmp 7) (.tmp 21) rfl g (hcells h (.slice mo h.tags.length mc)) hg hv 24 cs0 hbx sizeHost (by rw [hsz0]; rfl) (one_host _ _ _ _)]
      exact ⟨s1, s2, H.store1 (j := 2) (by omega) rfl hg hv (hd { on := 8, ground := .data } (by simp) rfl) (hd { on := 2, ground := .data } (by simp) rfl) (by decide) (listed_set hn) (fun _ => rfl)⟩
    · obtain ⟨g, cs0, hg, _, hbx, hsz0, _⟩ := H.box 3 (by omega) (hd { on := 9, ground := .data } (by simp) rfl)
      have hv : a.eval (.tmp 22) = .agg (hcells h (.slice mo h.tags.length mc)) := H.load 3 (by omega) (hd { on := 3, ground := .data } (by simp) rfl)
      refine .inl ⟨rfl, ?_⟩
      rw [run_obstore _ _ 24 (.tmp 8) (.tmp 22) rfl g (hcells h (.slice mo h.tags.length mc)) hg hv 24 cs0 hbx sizeHost (by rw [hsz0]; rfl) (one_host _ _ _ _)]
      exact ⟨s1, s2, H.store1 (j := 3) (by omega) rfl hg hv (hd { on := 9, ground := .data } (by simp) rfl) (hd { on := 3, ground := .data } (by simp) rfl) (by decide) (listed_set hn) (fun _ => rfl)⟩
    · obtain ⟨g, cs0, hg, _, hbx, hsz0, _⟩ := H.box 4 (by omega) (hd { on := 10, ground := .data } (by simp) rfl)
      obtain ⟨ev, hv, hown⟩ := H.copy (hd { on := 5, ground := .data } (by simp) rfl)
      obtain ⟨eo, ec, rfl⟩ := (isRow_own hown).shaped
      refine .inl ⟨rfl, ?_⟩
      rw [run_obstore _ _ 24 (.tmp 9) (.tmp 24) rfl g (hcells h (.slice eo h.tags.length ec)) hg hv 24 cs0 hbx sizeHost (by rw [hsz0]; rfl) (one_host _ _ _ _)]
      exact ⟨s1, s2, H.store1 (j := 4) (by omega) rfl hg hv (hd { on := 10, ground := .data } (by simp) rfl) (hd { on := 5, ground := .data } (by simp) rfl) (by decide) (listed_set hn) (fun _ => rfl)⟩
  · intro listed a W hA hI
    obtain ⟨s1, s2, H⟩ := hI
    have hA' : ∀ i, i < 16 → listed.getD i false = true := hA
    obtain ⟨ev, hev, hown⟩ := H.copy (hA' 5 (by omega))
    obtain ⟨eo, ec, rfl⟩ := (isRow_own hown).shaped
    obtain ⟨g0, cs, p0, b0, x0, _, e0⟩ := H.box 0 (by omega) (hA' 6 (by omega))
    have e0' := e0 (hA' 11 (by omega))
    obtain rfl : cs = hcells h (.slice mo h.tags.length mc) := Value.agg.inj (e0'.symm.trans (H.load 0 (by omega) (hA' 0 (by omega))))
    obtain ⟨g1, cs, p1, b1, x1, _, e1⟩ := H.box 1 (by omega) (hA' 7 (by omega))
    have e1' := e1 (hA' 12 (by omega))
    obtain rfl : cs = hcells h (.slice mo h.tags.length mc) := Value.agg.inj (e1'.symm.trans (H.load 1 (by omega) (hA' 1 (by omega))))
    obtain ⟨g2, cs, p2, b2, x2, _, e2⟩ := H.box 2 (by omega) (hA' 8 (by omega))
    have e2' := e2 (hA' 13 (by omega))
    obtain rfl : cs = hcells h (.slice mo h.tags.length mc) := Value.agg.inj (e2'.symm.trans (H.load 2 (by omega) (hA' 2 (by omega))))
    obtain ⟨g3, cs, p3, b3, x3, _, e3⟩ := H.box 3 (by omega) (hA' 9 (by omega))
    have e3' := e3 (hA' 14 (by omega))
    obtain rfl : cs = hcells h (.slice mo h.tags.length mc) := Value.agg.inj (e3'.symm.trans (H.load 3 (by omega) (hA' 3 (by omega))))
    obtain ⟨g4, cs, p4, b4, x4, _, e4⟩ := H.box 4 (by omega) (hA' 10 (by omega))
    have e4' := e4 (hA' 15 (by omega))
    obtain rfl : cs = hcells h (.slice eo h.tags.length ec) := Value.agg.inj (e4'.symm.trans hev)
    have nes : ∀ j k gj gk : Nat, j < 5 → k < 5 → j ≠ k → a.eval (.tmp (5 + j)) = ptrB gj → a.eval (.tmp (5 + k)) = ptrB gk → gj ≠ gk := fun j k gj gk hj hk hjk q1 q2 e => H.ne j k hj hk hjk (hA' (6 + j) (by omega)) (hA' (6 + k) (by omega)) (by show a.eval _ = a.eval _; rw [q1, q2, e])
    have n01 := nes 0 1 _ _ (by omega) (by omega) (by omega) p0 p1
    have n02 := nes 0 2 _ _ (by omega) (by omega) (by omega) p0 p2
    have n03 := nes 0 3 _ _ (by omega) (by omega) (by omega) p0 p3
    have n04 := nes 0 4 _ _ (by omega) (by omega) (by omega) p0 p4
    have n12 := nes 1 2 _ _ (by omega) (by omega) (by omega) p1 p2
    have n13 := nes 1 3 _ _ (by omega) (by omega) (by omega) p1 p3
    have n14 := nes 1 4 _ _ (by omega) (by omega) (by omega) p1 p4
    have n23 := nes 2 3 _ _ (by omega) (by omega) (by omega) p2 p3
    have n24 := nes 2 4 _ _ (by omega) (by omega) (by omega) p2 p4
    have n34 := nes 3 4 _ _ (by omega) (by omega) (by omega) p3 p4
    have q1 : ∀ x ∈ ([(some 5, ptrB g0), (some 6, ptrB g1), (some 7, ptrB g2), (some 8, ptrB g3), (some 9, ptrB g4), (some 19, hval h (.slice mo h.tags.length mc)), (some 20, hval h (.slice mo h.tags.length mc)), (some 21, hval h (.slice mo h.tags.length mc)), (some 22, hval h (.slice mo h.tags.length mc)), (some 23, hval h (.slice mo h.tags.length mc)), (some 24, hval h (.slice eo h.tags.length ec))] : List (Option Nat × Value)), ∀ d, x.1 = some d → a.eval (.tmp d) = x.2 := by
        have l0 := H.load 0 (by omega) (hA' 0 (by omega))
        have l1 := H.load 1 (by omega) (hA' 1 (by omega))
        have l2 := H.load 2 (by omega) (hA' 2 (by omega))
        have l3 := H.load 3 (by omega) (hA' 3 (by omega))
        have l4 := H.load 4 (by omega) (hA' 4 (by omega))
        intro q hq d hd
        simp only [List.mem_cons, List.not_mem_nil, or_false] at hq
        rcases hq with rfl | rfl | rfl | rfl | rfl | rfl | rfl | rfl | rfl | rfl | rfl <;> (obtain rfl := Option.some.inj hd; assumption)
    have eA := act_puts3 [(some 5, ptrB g0), (some 6, ptrB g1), (some 7, ptrB g2), (some 8, ptrB g3), (some 9, ptrB g4), (some 19, hval h (.slice mo h.tags.length mc)), (some 20, hval h (.slice mo h.tags.length mc)), (some 21, hval h (.slice mo h.tags.length mc)), (some 22, hval h (.slice mo h.tags.length mc)), (some 23, hval h (.slice mo h.tags.length mc)), (some 24, hval h (.slice eo h.tags.length ec))] _ s1 s2 (fun q hq d hd => ⟨(by decide : ∀ q ∈ [5, 6, 7, 8, 9, 19, 20, 21, 22, 23, 24], q < 97) d (by simp only [List.mem_cons, List.not_mem_nil, or_false] at hq ⊢; rcases hq with rfl | rfl | rfl | rfl | rfl | rfl | rfl | rfl | rfl | rfl | rfl <;> (obtain rfl := Option.some.inj hd; simp)), q1 q hq d hd⟩) (by
        intro t ht
        refine H.frame t ?_
        have f5 := ht (some 5, ptrB g0) (by simp)
        have f6 := ht (some 6, ptrB g1) (by simp)
        have f7 := ht (some 7, ptrB g2) (by simp)
        have f8 := ht (some 8, ptrB g3) (by simp)
        have f9 := ht (some 9, ptrB g4) (by simp)
        have f19 := ht (some 19, hval h (.slice mo h.tags.length mc)) (by simp)
        have f20 := ht (some 20, hval h (.slice mo h.tags.length mc)) (by simp)
        have f21 := ht (some 21, hval h (.slice mo h.tags.length mc)) (by simp)
        have f22 := ht (some 22, hval h (.slice mo h.tags.length mc)) (by simp)
        have f23 := ht (some 23, hval h (.slice mo h.tags.length mc)) (by simp)
        have f24 := ht (some 24, hval h (.slice eo h.tags.length ec)) (by simp)
        simp only [ne_eq, Option.some.injEq] at f5 f6 f7 f8 f9 f19 f20 f21 f22 f23 f24
        omega)
    have hB := H.below
    clear H hA hA' hev e0 e1 e2 e3 e4 e0' e1' e2' e3' e4' nes p0 p1 p2 p3 p4 s1 s2 q1
    rw [eA]
    clear eA
    simp only [putsV, List.foldl, Act.put, List.setIfInBounds_toArray, List.set_cons_succ, List.set_cons_zero]
    have X0 : Hid (HasBox W g0 24 (hcells h (.slice mo h.tags.length mc))) := x0
    have X1 : Hid (HasBox W g1 24 (hcells h (.slice mo h.tags.length mc))) := x1
    have X2 : Hid (HasBox W g2 24 (hcells h (.slice mo h.tags.length mc))) := x2
    have X3 : Hid (HasBox W g3 24 (hcells h (.slice mo h.tags.length mc))) := x3
    have X4 : Hid (HasBox W g4 24 (hcells h (.slice eo h.tags.length ec))) := x4
    have XH : Hid (HasBox W w.heap.size 24 (hcells h (.slice mo h.tags.length mc))) := HX W hB
    have XO : Hid (W.ownsRow w1.heap.size 34 2 (.slice eo h.tags.length ec) h.tags.length (pairCells h.tags)) := hown
    have XB : Hid (Below w1.heap.size w1 W) := hB
    clear x0 x1 x2 x3 x4 hown hB HX HMp HX1
    refine ‹∀ (a : Act) (w : World), Code.wp Try.prog (Code.seq _ _) _ a w → _› _ _ ?_
    have hw1 : w.heap.size < w1.heap.size := HBL.out
    have hc : W.cell? ⟨g0, 0, none⟩ = some (.int .i64 h.id) := X0.out.cell 0
    have hf : W.frozen? ⟨g0, 0, none⟩ = false := X0.out.frozen 0
    go_upto_region 5 with fail
    clear hc hf
    generalize hW : World.setCell _ _ _ = W4
    have Y0 : Hid (HasBox W4 g0 24 (hcells { h with id := bits .xor .i64 h.id x } (.slice mo h.tags.length mc))) := by show HasBox _ _ _ _; rw [← hW]; exact X0.out.set 0 _
    have Y1 : Hid (HasBox W4 g1 24 (hcells h (.slice mo h.tags.length mc))) := by show HasBox _ _ _ _; rw [← hW]; exact X1.out.setOther _ (by show _ ≠ g0; omega) _
    have Y2 : Hid (HasBox W4 g2 24 (hcells h (.slice mo h.tags.length mc))) := by show HasBox _ _ _ _; rw [← hW]; exact X2.out.setOther _ (by show _ ≠ g0; omega) _
    have Y3 : Hid (HasBox W4 g3 24 (hcells h (.slice mo h.tags.length mc))) := by show HasBox _ _ _ _; rw [← hW]; exact X3.out.setOther _ (by show _ ≠ g0; omega) _
    have Y4 : Hid (HasBox W4 g4 24 (hcells h (.slice eo h.tags.length ec))) := by show HasBox _ _ _ _; rw [← hW]; exact X4.out.setOther _ (by show _ ≠ g0; omega) _
    have YH : Hid (HasBox W4 w.heap.size 24 (hcells h (.slice mo h.tags.length mc))) := by show HasBox _ _ _ _; rw [← hW]; exact XH.out.setOther _ (by show _ ≠ g0; omega) _
    have YO : Hid (W4.ownsRow w1.heap.size 34 2 (.slice eo h.tags.length ec) h.tags.length (pairCells h.tags)) := by show World.ownsRow _ _ _ _ _ _ _; rw [← hW]; exact own_cellOther XO.out X0.out (by decide) _ _ rfl
    have YB : Hid (Below w1.heap.size w1 W4) := by show Below _ _ _; rw [← hW]; exact XB.out.setCell b0 _
    clear hW X0 X1 X2 X3 X4 XH XO XB
    have X0 := Y0
    have X1 := Y1
    have X2 := Y2
    have X3 := Y3
    have X4 := Y4
    have XH := YH
    have XO := YO
    have XB := YB
    clear Y0 Y1 Y2 Y3 Y4 YH YO YB
    have hc : W4.cell? ⟨g1, 1, none⟩ = some (.string h.addr) := X1.out.cell 1
    have hf : W4.frozen? ⟨g1, 1, none⟩ = false := X1.out.frozen 1
    go_upto_region 6 with fail
    clear hc hf
    generalize hW : World.setCell _ _ _ = W5
    have Y0 : Hid (HasBox W5 g0 24 (hcells { h with id := bits .xor .i64 h.id x } (.slice mo h.tags.length mc))) := by show HasBox _ _ _ _; rw [← hW]; exact X0.out.setOther _ (by show _ ≠ g1; omega) _
    have Y1 : Hid (HasBox W5 g1 24 (hcells { h with addr := h.addr ++ ⟨#[120]⟩ } (.slice mo h.tags.length mc))) := by show HasBox _ _ _ _; rw [← hW]; exact X1.out.set 1 _
    have Y2 : Hid (HasBox W5 g2 24 (hcells h (.slice mo h.tags.length mc))) := by show HasBox _ _ _ _; rw [← hW]; exact X2.out.setOther _ (by show _ ≠ g1; omega) _
    have Y3 : Hid (HasBox W5 g3 24 (hcells h (.slice mo h.tags.length mc))) := by show HasBox _ _ _ _; rw [← hW]; exact X3.out.setOther _ (by show _ ≠ g1; omega) _
    have Y4 : Hid (HasBox W5 g4 24 (hcells h (.slice eo h.tags.length ec))) := by show HasBox _ _ _ _; rw [← hW]; exact X4.out.setOther _ (by show _ ≠ g1; omega) _
    have YH : Hid (HasBox W5 w.heap.size 24 (hcells h (.slice mo h.tags.length mc))) := by show HasBox _ _ _ _; rw [← hW]; exact XH.out.setOther _ (by show _ ≠ g1; omega) _
    have YO : Hid (W5.ownsRow w1.heap.size 34 2 (.slice eo h.tags.length ec) h.tags.length (pairCells h.tags)) := by show World.ownsRow _ _ _ _ _ _ _; rw [← hW]; exact own_cellOther XO.out X1.out (by decide) _ _ rfl
    have YB : Hid (Below w1.heap.size w1 W5) := by show Below _ _ _; rw [← hW]; exact XB.out.setCell b1 _
    clear hW X0 X1 X2 X3 X4 XH XO XB
    have X0 := Y0
    have X1 := Y1
    have X2 := Y2
    have X3 := Y3
    have X4 := Y4
    have XH := YH
    have XO := YO
    have XB := YB
    clear Y0 Y1 Y2 Y3 Y4 YH YO YB
    have hc : W5.cell? ⟨g2, 2, none⟩ = some (.int .i64 h.prio) := X2.out.cell 2
    have hf : W5.frozen? ⟨g2, 2, none⟩ = false := X2.out.frozen 2
    go_upto_region 7 with fail
    clear hc hf
    generalize hW : World.setCell _ _ _ = W6
    have Y0 : Hid (HasBox W6 g0 24 (hcells { h with id := bits .xor .i64 h.id x } (.slice mo h.tags.length mc))) := by show HasBox _ _ _ _; rw [← hW]; exact X0.out.setOther _ (by show _ ≠ g2; omega) _
    have Y1 : Hid (HasBox W6 g1 24 (hcells { h with addr := h.addr ++ ⟨#[120]⟩ } (.slice mo h.tags.length mc))) := by show HasBox _ _ _ _; rw [← hW]; exact X1.out.setOther _ (by show _ ≠ g2; omega) _
    have Y2 : Hid (HasBox W6 g2 24 (hcells { h with prio := bits .xor .i64 h.prio x } (.slice mo h.tags.length mc))) := by show HasBox _ _ _ _; rw [← hW]; exact X2.out.set 2 _
    have Y3 : Hid (HasBox W6 g3 24 (hcells h (.slice mo h.tags.length mc))) := by show HasBox _ _ _ _; rw [← hW]; exact X3.out.setOther _ (by show _ ≠ g2; omega) _
    have Y4 : Hid (HasBox W6 g4 24 (hcells h (.slice eo h.tags.length ec))) := by show HasBox _ _ _ _; rw [← hW]; exact X4.out.setOther _ (by show _ ≠ g2; omega) _
    have YH : Hid (HasBox W6 w.heap.size 24 (hcells h (.slice mo h.tags.length mc))) := by show HasBox _ _ _ _; rw [← hW]; exact XH.out.setOther _ (by show _ ≠ g2; omega) _
    have YO : Hid (W6.ownsRow w1.heap.size 34 2 (.slice eo h.tags.length ec) h.tags.length (pairCells h.tags)) := by show World.ownsRow _ _ _ _ _ _ _; rw [← hW]; exact own_cellOther XO.out X2.out (by decide) _ _ rfl
    have YB : Hid (Below w1.heap.size w1 W6) := by show Below _ _ _; rw [← hW]; exact XB.out.setCell b2 _
    clear hW X0 X1 X2 X3 X4 XH XO XB
    have X0 := Y0
    have X1 := Y1
    have X2 := Y2
    have X3 := Y3
    have X4 := Y4
    have XH := YH
    have XO := YO
    have XB := YB
    clear Y0 Y1 Y2 Y3 Y4 YH YO YB
    have hc : W6.cell? ⟨g3, 3, none⟩ = some (.string h.zone) := X3.out.cell 3
    have hf : W6.frozen? ⟨g3, 3, none⟩ = false := X3.out.frozen 3
    go_upto_region 8 with fail
    clear hc hf
    generalize hW : World.setCell _ _ _ = W7
    have Y0 : Hid (HasBox W7 g0 24 (hcells { h with id := bits .xor .i64 h.id x } (.slice mo h.tags.length mc))) := by show HasBox _ _ _ _; rw [← hW]; exact X0.out.setOther _ (by show _ ≠ g3; omega) _
    have Y1 : Hid (HasBox W7 g1 24 (hcells { h with addr := h.addr ++ ⟨#[120]⟩ } (.slice mo h.tags.length mc))) := by show HasBox _ _ _ _; rw [← hW]; exact X1.out.setOther _ (by show _ ≠ g3; omega) _
    have Y2 : Hid (HasBox W7 g2 24 (hcells { h with prio := bits .xor .i64 h.prio x } (.slice mo h.tags.length mc))) := by show HasBox _ _ _ _; rw [← hW]; exact X2.out.setOther _ (by show _ ≠ g3; omega) _
    have Y3 : Hid (HasBox W7 g3 24 (hcells { h with zone := h.zone ++ ⟨#[122]⟩ } (.slice mo h.tags.length mc))) := by show HasBox _ _ _ _; rw [← hW]; exact X3.out.set 3 _
    have Y4 : Hid (HasBox W7 g4 24 (hcells h (.slice eo h.tags.length ec))) := by show HasBox _ _ _ _; rw [← hW]; exact X4.out.setOther _ (by show _ ≠ g3; omega) _
    have YH : Hid (HasBox W7 w.heap.size 24 (hcells h (.slice mo h.tags.length mc))) := by show HasBox _ _ _ _; rw [← hW]; exact XH.out.setOther _ (by show _ ≠ g3; omega) _
    have YO : Hid (W7.ownsRow w1.heap.size 34 2 (.slice eo h.tags.length ec) h.tags.length (pairCells h.tags)) := by show World.ownsRow _ _ _ _ _ _ _; rw [← hW]; exact own_cellOther XO.out X3.out (by decide) _ _ rfl
    have YB : Hid (Below w1.heap.size w1 W7) := by show Below _ _ _; rw [← hW]; exact XB.out.setCell b3 _
    clear hW X0 X1 X2 X3 X4 XH XO XB
    have X0 := Y0
    have X1 := Y1
    have X2 := Y2
    have X3 := Y3
    have X4 := Y4
    have XH := YH
    have XO := YO
    have XB := YB
    clear Y0 Y1 Y2 Y3 Y4 YH YO YB
    have hc : W7.cell? ⟨g4, 5, none⟩ = some (.slice eo h.tags.length ec) := X4.out.cell 5
    obtain ⟨i0, hi, hz0, hz1, hz2⟩ := info_of infoPair
    have ho4 : some g4 ≠ (Value.slice eo h.tags.length ec).ownBlock := own_ne_box XO.out X4.out (by decide)
    go_upto_region 9 with (at_builtin; refine wpList_append_row rfl (.tmp 44) (.tmp 46) 22 rfl w1.heap.size 34 i0 _ 2 32 Try.underlying22 hi hz0 hz1 hz2 rfl (by decide) _ h.tags.length _ rfl (XO.out.alloc _) _ 1 (pairCells [morP]) rfl (one_pair W7 morP _ _ rfl (by unfold okPair maxLen; decide)).2 (pairCells_one _) (by unfold maxLen; omega) (by omega) (by have := XB.out.size; simp; omega) ?_)
    intro v' w8 hown hgrow hat
    rw [← pairCells_append] at hown
    obtain ⟨vo, vc, rfl⟩ := (isRow_own hown).shaped
    have hsz : W7.heap.size ≤ w8.heap.size := by have := hgrow.size; simp at this; omega
    have Y0 : Hid (HasBox w8 g0 24 (hcells { h with id := bits .xor .i64 h.id x } (.slice mo h.tags.length mc))) := (X0.out.alloc _).grown hgrow (own_ne_box XO.out X0.out (by decide))
    have Y1 : Hid (HasBox w8 g1 24 (hcells { h with addr := h.addr ++ ⟨#[120]⟩ } (.slice mo h.tags.length mc))) := (X1.out.alloc _).grown hgrow (own_ne_box XO.out X1.out (by decide))
    have Y2 : Hid (HasBox w8 g2 24 (hcells { h with prio := bits .xor .i64 h.prio x } (.slice mo h.tags.length mc))) := (X2.out.alloc _).grown hgrow (own_ne_box XO.out X2.out (by decide))
    have Y3 : Hid (HasBox w8 g3 24 (hcells { h with zone := h.zone ++ ⟨#[122]⟩ } (.slice mo h.tags.length mc))) := (X3.out.alloc _).grown hgrow (own_ne_box XO.out X3.out (by decide))
    have Y4 : Hid (HasBox w8 g4 24 (hcells h (.slice eo h.tags.length ec))) := (X4.out.alloc _).grown hgrow ho4
    have YH : Hid (HasBox w8 w.heap.size 24 (hcells h (.slice mo h.tags.length mc))) := (XH.out.alloc _).grown hgrow (own_ne_box XO.out XH.out (by decide))
    have YB : Hid (Below w1.heap.size w1 w8) := (XB.out.alloc XB.out.size _).grown hgrow (by have := XB.out.size; simp; omega) (own_base XO.out)
    have YO : Hid (w8.ownsRow w1.heap.size 34 2 (.slice vo (h.tags.length + 1) vc) (h.tags.length + 1) (pairCells (h.tags ++ [morP]))) := hown
    clear hown hgrow hat hc ho4 X0 X1 X2 X3 X4 XH XO XB hi hz0 hz1 hz2
    have hc : w8.cell? ⟨g4, 5, none⟩ = some (.slice eo h.tags.length ec) := Y4.out.cell 5
    have hf : w8.frozen? ⟨g4, 5, none⟩ = false := Y4.out.frozen 5
    go_upto_region 9 with fail
    generalize hW : World.setCell _ _ _ = W8
    clear hc hf
    have X0 : Hid (HasBox W8 g0 24 (hcells { h with id := bits .xor .i64 h.id x } (.slice mo h.tags.length mc))) := by show HasBox _ _ _ _; rw [← hW]; exact Y0.out.setOther _ (by show _ ≠ g4; omega) _
    have X1 : Hid (HasBox W8 g1 24 (hcells { h with addr := h.addr ++ ⟨#[120]⟩ } (.slice mo h.tags.length mc))) := by show HasBox _ _ _ _; rw [← hW]; exact Y1.out.setOther _ (by show _ ≠ g4; omega) _
    have X2 : Hid (HasBox W8 g2 24 (hcells { h with prio := bits .xor .i64 h.prio x } (.slice mo h.tags.length mc))) := by show HasBox _ _ _ _; rw [← hW]; exact Y2.out.setOther _ (by show _ ≠ g4; omega) _
    have X3 : Hid (HasBox W8 g3 24 (hcells { h with zone := h.zone ++ ⟨#[122]⟩ } (.slice mo h.tags.length mc))) := by show HasBox _ _ _ _; rw [← hW]; exact Y3.out.setOther _ (by show _ ≠ g4; omega) _
    have X4 : Hid (HasBox W8 g4 24 (hcells { h with tags := h.tags ++ [morP] } (.slice vo (h.tags.length + 1) vc))) := by show HasBox _ _ _ _; rw [← hW]; exact Y4.out.set 5 _
    have XH : Hid (HasBox W8 w.heap.size 24 (hcells h (.slice mo h.tags.length mc))) := by show HasBox _ _ _ _; rw [← hW]; exact YH.out.setOther _ (by show _ ≠ g4; omega) _
    have XE : Hid (IsPairs W8 (.slice vo (h.tags.length + 1) vc) (h.tags ++ [morP])) := by
      show IsPairs _ _ _
      rw [← hW]
      exact own_pairs (own_cellOther YO.out Y4.out (by decide) _ _ rfl) (by rw [List.length_append]; rfl) (fun p hp => (List.mem_append.1 hp).elim (HM0.out.1 p) (fun hp => by simp only [List.mem_singleton] at hp; subst hp; unfold okPair maxLen; decide))
    have XB : Hid (Below w1.heap.size w1 W8) := by show Below _ _ _; rw [← hW]; exact YB.out.setCell b4 _
    have XM : Hid (IsPairs W8 (.slice mo h.tags.length mc) h.tags) := (HM0.out.below HB1.out).below XB.out
    clear hW Y0 Y1 Y2 Y3 Y4 YH YO YB
    go_upto_region 11 with (first | (refine wpList_load_box rfl 24 (.tmp 2) rfl (w.heap.size) rfl 24 _ _ XH.out Try.underlying24 rfl sizeHost ?_) | fail)
    generalize hW : World.alloc _ _ = W9
    have Y0 : HasBox W9 g0 24 (hcells { h with id := bits .xor .i64 h.id x } (.slice mo h.tags.length mc)) := by rw [← hW]; exact X0.out.alloc _
    have Y1 : HasBox W9 g1 24 (hcells { h with addr := h.addr ++ ⟨#[120]⟩ } (.slice mo h.tags.length mc)) := by rw [← hW]; exact X1.out.alloc _
    have Y2 : HasBox W9 g2 24 (hcells { h with prio := bits .xor .i64 h.prio x } (.slice mo h.tags.length mc)) := by rw [← hW]; exact X2.out.alloc _
    have Y3 : HasBox W9 g3 24 (hcells { h with zone := h.zone ++ ⟨#[122]⟩ } (.slice mo h.tags.length mc)) := by rw [← hW]; exact X3.out.alloc _
    have Y4 : HasBox W9 g4 24 (hcells { h with tags := h.tags ++ [morP] } (.slice vo (h.tags.length + 1) vc)) := by rw [← hW]; exact X4.out.alloc _
    have YH : HasBox W9 w.heap.size 24 (hcells h (.slice mo h.tags.length mc)) := by rw [← hW]; exact XH.out.alloc _
    have YF : HasBox W9 W8.heap.size 24 (hcells { h with weight := bits .xor .i64 h.weight x } (.slice mo h.tags.length mc)) := by rw [← hW]; exact hasBox_new _ _ _
    have YE : IsPairs W9 (.slice vo (h.tags.length + 1) vc) (h.tags ++ [morP]) := by rw [← hW]; exact XE.out.below ((Below.refl _ _).alloc (Nat.le_refl _) _)
    have YM : IsPairs W9 (.slice mo h.tags.length mc) h.tags := by rw [← hW]; exact XM.out.below ((Below.refl _ _).alloc (Nat.le_refl _) _)
    have YB : Below w.heap.size w W9 := by rw [← hW]; exact (HB1.out.trans (XB.out.mono HB1.out.size)).alloc (by have := HB1.out.size; have := XB.out.size; omega) _
    have Z0 : ∀ W', Below W9.heap.size W9 W' → HasBox W' g0 24 (hcells { h with id := bits .xor .i64 h.id x } (.slice mo h.tags.length mc)) := fun W' q => Y0.below q
    have Z1 : ∀ W', Below W9.heap.size W9 W' → HasBox W' g1 24 (hcells { h with addr := h.addr ++ ⟨#[120]⟩ } (.slice mo h.tags.length mc)) := fun W' q => Y1.below q
    have Z2 : ∀ W', Below W9.heap.size W9 W' → HasBox W' g2 24 (hcells { h with prio := bits .xor .i64 h.prio x } (.slice mo h.tags.length mc)) := fun W' q => Y2.below q
    have Z3 : ∀ W', Below W9.heap.size W9 W' → HasBox W' g3 24 (hcells { h with zone := h.zone ++ ⟨#[122]⟩ } (.slice mo h.tags.length mc)) := fun W' q => Y3.below q
    have Z4 : ∀ W', Below W9.heap.size W9 W' → HasBox W' g4 24 (hcells { h with tags := h.tags ++ [morP] } (.slice vo (h.tags.length + 1) vc)) := fun W' q => Y4.below q
    have ZH : ∀ W', Below W9.heap.size W9 W' → HasBox W' w.heap.size 24 (hcells h (.slice mo h.tags.length mc)) := fun W' q => YH.below q
    have ZF : ∀ W', Below W9.heap.size W9 W' → HasBox W' W8.heap.size 24 (hcells { h with weight := bits .xor .i64 h.weight x } (.slice mo h.tags.length mc)) := fun W' q => YF.below q
    have ZE : ∀ W', Below W9.heap.size W9 W' → IsPairs W' (.slice vo (h.tags.length + 1) vc) (h.tags ++ [morP]) := fun W' q => YE.below q
    have ZM : ∀ W', Below W9.heap.size W9 W' → IsPairs W' (.slice mo h.tags.length mc) h.tags := fun W' q => YM.below q
    have HBf : Hid (Below w.heap.size w W9) := YB
    clear hW X0 X1 X2 X3 X4 XH XE XB XM Y0 Y1 Y2 Y3 Y4 YH YF YE YM YB HM0 HB1 HBL
    have K1 := fun W' q => same_any h { h with id := bits .xor .i64 h.id x } (.slice mo h.tags.length mc) (.slice mo h.tags.length mc) W' (ZM W' q) (ZM W' q)
    rw [sameH_ne (fun e => xor_ne hx hx0 (congrArg HostT.id e).symm)] at K1
    have K2 := fun W' q => same_any { h with addr := h.addr ++ ⟨#[120]⟩ } h (.slice mo h.tags.length mc) (.slice mo h.tags.length mc) W' (ZM W' q) (ZM W' q)
    rw [sameH_ne (fun e => by have := congrArg ByteArray.size (congrArg HostT.addr e); simp only [ByteArray.size_append] at this; exact absurd this (Nat.ne_of_gt (Nat.lt_succ_self _)))] at K2
    have K3 := fun W' q => same_any h { h with prio := bits .xor .i64 h.prio x } (.slice mo h.tags.length mc) (.slice mo h.tags.length mc) W' (ZM W' q) (ZM W' q)
    rw [sameH_ne (fun e => xor_ne hx hx0 (congrArg HostT.prio e).symm)] at K3
    have K4 := fun W' q => same_any { h with zone := h.zone ++ ⟨#[122]⟩ } h (.slice mo h.tags.length mc) (.slice mo h.tags.length mc) W' (ZM W' q) (ZM W' q)
    rw [sameH_ne (fun e => by have := congrArg ByteArray.size (congrArg HostT.zone e); simp only [ByteArray.size_append] at this; exact absurd this (Nat.ne_of_gt (Nat.lt_succ_self _)))] at K4
    have K5 := fun W' q => same_any h { h with tags := h.tags ++ [morP] } (.slice mo h.tags.length mc) (.slice vo (h.tags.length + 1) vc) W' (ZM W' q) (ZE W' q)
    rw [sameH_ne (fun e => by have := congrArg List.length (congrArg HostT.tags e); simp at this)] at K5
    have K6 := fun W' q => same_any { h with weight := bits .xor .i64 h.weight x } h (.slice mo h.tags.length mc) (.slice mo h.tags.length mc) W' (ZM W' q) (ZM W' q)
    rw [sameH_ne (fun e => xor_ne hx hx0 (congrArg HostT.weight e))] at K6
    have K7 := fun W' q => same_any h h (.slice mo h.tags.length mc) (.slice mo h.tags.length mc) W' (ZM W' q) (ZM W' q)
    rw [show sameH h h = true from decide_eq_true rfl] at K7
    have HQ : Hid (Below W9.heap.size W9 W9) := Below.refl _ _
    go_wp2_with (first | (refine wpList_load_box rfl 24 (.tmp 2) rfl (w.heap.size) rfl 24 _ _ (ZH _ HQ.out) Try.underlying24 rfl sizeHost ?_) | (refine wpList_load_box rfl 24 (.tmp 5) rfl (g0) rfl 24 _ _ (Z0 _ HQ.out) Try.underlying24 rfl sizeHost ?_) | fail)
    refine (K1 _ HQ.out).mono ?_
    rintro e v0 ⟨rfl, hb⟩
    have HQ' : Hid (Below W9.heap.size W9 v0) := HQ.out.trans (hb.mono HQ.out.size)
    clear hb HQ
    have HQ := HQ'
    clear HQ'
    go_wp2_with (first | (refine wpList_load_box rfl 24 (.tmp 6) rfl (g1) rfl 24 _ _ (Z1 _ HQ.out) Try.underlying24 rfl sizeHost ?_) | (refine wpList_load_box rfl 24 (.tmp 2) rfl (w.heap.size) rfl 24 _ _ (ZH _ HQ.out) Try.underlying24 rfl sizeHost ?_) | fail)
    refine (K2 _ HQ.out).mono ?_
    rintro e v1 ⟨rfl, hb⟩
    have HQ' : Hid (Below W9.heap.size W9 v1) := HQ.out.trans (hb.mono HQ.out.size)
    clear hb HQ
    have HQ := HQ'
    clear HQ'
    go_wp2_with (first | (refine wpList_load_box rfl 24 (.tmp 2) rfl (w.heap.size) rfl 24 _ _ (ZH _ HQ.out) Try.underlying24 rfl sizeHost ?_) | (refine wpList_load_box rfl 24 (.tmp 7) rfl (g2) rfl 24 _ _ (Z2 _ HQ.out) Try.underlying24 rfl sizeHost ?_) | fail)
    refine (K3 _ HQ.out).mono ?_
    rintro e v2 ⟨rfl, hb⟩
    have HQ' : Hid (Below W9.heap.size W9 v2) := HQ.out.trans (hb.mono HQ.out.size)
    clear hb HQ
    have HQ := HQ'
    clear HQ'
    go_wp2_with (first | (refine wpList_load_box rfl 24 (.tmp 8) rfl (g3) rfl 24 _ _ (Z3 _ HQ.out) Try.underlying24 rfl sizeHost ?_) | (refine wpList_load_box rfl 24 (.tmp 2) rfl (w.heap.size) rfl 24 _ _ (ZH _ HQ.out) Try.underlying24 rfl sizeHost ?_) | fail)
    refine (K4 _ HQ.out).mono ?_
    rintro e v3 ⟨rfl, hb⟩
    have HQ' : Hid (Below W9.heap.size W9 v3) := HQ.out.trans (hb.mono HQ.out.size)
    clear hb HQ
    have HQ := HQ'
    clear HQ'
    go_wp2_with (first | (refine wpList_load_box rfl 24 (.tmp 2) rfl (w.heap.size) rfl 24 _ _ (ZH _ HQ.out) Try.underlying24 rfl sizeHost ?_) | (refine wpList_load_box rfl 24 (.tmp 9) rfl (g4) rfl 24 _ _ (Z4 _ HQ.out) Try.underlying24 rfl sizeHost ?_) | fail)
    refine (K5 _ HQ.out).mono ?_
    rintro e v4 ⟨rfl, hb⟩
    have HQ' : Hid (Below W9.heap.size W9 v4) := HQ.out.trans (hb.mono HQ.out.size)
    clear hb HQ
    have HQ := HQ'
    clear HQ'
    go_wp2_with (first | (refine wpList_load_box rfl 24 (.tmp 10) rfl (W8.heap.size) rfl 24 _ _ (ZF _ HQ.out) Try.underlying24 rfl sizeHost ?_) | (refine wpList_load_box rfl 24 (.tmp 2) rfl (w.heap.size) rfl 24 _ _ (ZH _ HQ.out) Try.underlying24 rfl sizeHost ?_) | fail)
    refine (K6 _ HQ.out).mono ?_
    rintro e v5 ⟨rfl, hb⟩
    have HQ' : Hid (Below W9.heap.size W9 v5) := HQ.out.trans (hb.mono HQ.out.size)
    clear hb HQ
    have HQ := HQ'
    clear HQ'
    go_wp2_with (first | (refine wpList_load_box rfl 24 (.tmp 2) rfl (w.heap.size) rfl 24 _ _ (ZH _ HQ.out) Try.underlying24 rfl sizeHost ?_) | fail)
    refine (K7 _ HQ.out).mono ?_
    rintro e v6 ⟨rfl, hb⟩
    have HQ' : Hid (Below W9.heap.size W9 v6) := HQ.out.trans (hb.mono HQ.out.size)
    clear hb HQ
    have HQ := HQ'
    clear HQ'
    go_wp2_with fail
    refine (awake_any _).mono ?_
    rintro e w10 ⟨rfl, hb⟩
    have HB10 : Hid (Below w.heap.size w w10) := HBf.out.trans ((HQ.out.trans (hb.mono HQ.out.size)).mono HBf.out.size)
    clear hb
    go_wp2
    go_ret
    exact ⟨rfl, HB10.out⟩

set_option maxRecDepth 100000 in
theorem lifted_HostTurned (os : Os) (started : os.Started) (H : Type) (enc : TypeId × Value → H) (F : Stop.Interp) :
    ReturnsInHanded {} Try.checked os 7 .any ((Rows.OpenSpec.upto Rows.hostTurnedSpec).pre6 enc Try.prog Try.f7 Rows.hostTurnedUptoRow.domain false) (((Rows.OpenSpec.upto Rows.hostTurnedSpec).at F).post enc Try.prog Try.f7 false true false false) := by
  refine returnsInHanded_of_cond (C := Try.checked) (s := Rows.OpenSpec.upto Rows.hostTurnedSpec) (k := Rows.uptoSmall) rfl own started (by kernel_rfl) Try.func7
    (OpenSpec.witness (enc := enc) (C := Try.checked) (s := Rows.OpenSpec.upto Rows.hostTurnedSpec) (k := Rows.uptoSmall) rfl false ⟨#[], #[.agg #[.int .i64 0, .string ByteArray.empty, .int .i64 0, .string ByteArray.empty, .int .i64 0, .slice none 0 0], .int .i64 0], []⟩ 8 (by kernel_rfl) (by kernel_rfl) (by kernel_rfl)
      (x := ([.agg [.lit (.int .i64 0), .lit (.string []), .lit (.int .i64 0), .lit (.string []), .lit (.int .i64 0), .nil], .lit (.int .i64 0)], [], [])) (by kernel_rfl) rfl (by kernel_rfl)) ?_
  intro W base args ds gs before hval0 hW hcnd hk0 hholds
  have hval : ∀ (j : Nat) t v, Try.f7.params[j]? = some t → args[j]? = some v → Value.okWide Try.prog W .any base t v := hval0
  have hW' := hW
  obtain ⟨p, q, hA0, hV, rfl, hfz, hnd⟩ := hW
  have hA : DataW.TrodAll enc Try.prog W 0 (fun _ => true) true Try.f7.params.toList args.toList ds p := hA0
  rw [Try.params7] at hA hval
  obtain ⟨v0, vs0, d0, ds0, p0, q0, hargs, rfl, rfl, h0, r0⟩ := trodAll_cons hA
  obtain ⟨v1, vs1, d1, ds1, p1, q1, rfl, rfl, rfl, h1, r1⟩ := trodAll_cons r0
  obtain ⟨rfl, rfl, rfl⟩ := trodAll_nil r1
  obtain rfl : args = #[v0, v1] := by cases args; simp_all
  obtain ⟨rfl, rfl⟩ := trodVars_none hV
  have k0 := h0
  have lt0 : ∀ x ∈ p0, x.block < W.heap.size := by obtain ⟨m, hm⟩ := k0; exact DataW.trod_lt m _ _ _ hm
  obtain ⟨c0, m0, dm0, rfl, o0, i0, w0, rfl, x0⟩ := open_host (hval 0 24 v0 rfl rfl) h0
  obtain ⟨a1, rfl, rfl, rfl, w1⟩ := open_int Try.underlying3 (hval 1 3 v1 rfl rfl) h1
  clear hA0 hval0
  have hk : Rows.uptoBulkAll (_ ++ []) ≤ 1048576 := of_decide_eq_true hk0
  rw [List.append_nil] at hk
  refine (walk_HostTurned c0 m0 o0 i0 a1 (wf_i64 w1) W w0 (short_HostTurned x0 hk)).mono fun e W' ⟨he, bel⟩ => ?_
  subst he
  exact ⟨_, rfl, _, _, _, [], _, [], hW', trodAll_mk1 (shut_bool Try.underlying4 _), (trodAll_cons_mk (Below.trod laidOut (by kernel_rfl) (of_decide_eq_true (by kernel_rfl)) k0 bel lt0) (trodAll_cons_mk (shut_int Try.underlying3 w1) trodAll_mk0)), rfl, bel.frame _, fun h => by cases h⟩

theorem over_HostTurned : Rows.hostTurnedUptoRow.holds Try.pinned (Rows.OpenSpec.upto Rows.hostTurnedSpec) :=
  OpenClaim.holds_of_cond 7 Try.f7 rfl rfl rfl rfl rfl rfl rfl ⟨rfl, rfl, rfl, rfl, rfl⟩ rfl rfl rfl rfl rfl (by kernel_rfl) Try.func7 (by kernel_rfl)
    (of_decide_eq_true (by kernel_rfl)) (by unfold Func.isWrapper; first | (rw [if_pos (by decide +kernel)]; kernel_rfl) | (rw [if_neg (by decide +kernel)]; exact ⟨rfl, rfl⟩))
    (fun os started H enc _ F => lifted_HostTurned os started H enc F)

/-- The statement. -/
theorem hostTurnedUpto_holds : Rows.HostTurnedUptoSaid := over_HostTurned
#print axioms hostTurnedUpto_holds

end Go.Proofs.Ytgjancpogblakaa

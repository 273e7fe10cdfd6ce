/-
  The contract of package order's Find, over one of sort.Search.
-/
import Derived.Test.YtcafjjfaamjipaaOrderLR
import Derived.Shelf.Abstract
namespace Go.Proofs.Ytcafjjfaamjipaa
open Go.RowKit

set_option maxHeartbeats 1000000 in
/-- sort.Search with a function that makes memory and turns none: the boundary. -/
theorem search_any (g : Nat) (cb : Array Value) (n cnt : Nat) (p : Nat → Bool) (w : World) (eg : ∀ args w, (callFunc g args).run Try.prog w = .ok (.enter g args) w) (hn : n ≤ 1000000) (h1 : cnt ≤ n)
    (h2 : ∀ t, t < n → (p t = decide (cnt ≤ t)))
    (hf : ∀ W, Below w.heap.size w W → ∀ i : Nat, i < n → Calls Try.prog g (#[.int .i64 i] ++ cb) W fun e w' => e = .returned (.bool (p i)) ∧ Below W.heap.size W w') :
    Calls Try.prog 45 #[.int .i64 n, .func (.func g) #[] cb] w fun e w' => e = .returned (.int .i64 (cnt : Nat)) ∧ Below w.heap.size w w' := by
  have HF : Hid (∀ W, Below w.heap.size w W → ∀ i : Nat, i < n → Calls Try.prog g (#[.int .i64 i] ++ cb) W fun e w' => e = .returned (.bool (p i)) ∧ Below W.heap.size W w') := hf
  have H2 : Hid (∀ t, t < n → (p t = decide (cnt ≤ t))) := h2
  clear hf h2
  go_enter Try.func45, Try.ntmps45
  go_wp2
  go_loopw [5, 6] (fun a b wr => ∃ lo hi : Nat, a = .int .i64 lo ∧ b = .int .i64 hi ∧ lo ≤ cnt ∧ cnt ≤ hi ∧ hi ≤ n ∧ Below w.heap.size w wr) (fun a b _ => (intOf b).toNat - (intOf a).toNat)
  case atStart => exact ⟨0, n, rfl, rfl, Nat.zero_le _, h1, Nat.le_refl _, Below.refl _ _⟩
  case round =>
    obtain ⟨lo, hi, rfl, rfl, hl, hh, hin, hb⟩ := hrel
    have HB : Hid (Below w.heap.size w wr) := hb
    by_cases hlt : lo < hi
    · have hc := HF.out wr hb ((lo + hi) / 2) (by omega)
      rw [H2.out _ (by omega)] at hc
      rw [show (((lo + hi) / 2 : Nat) : Int) = ((lo : Int) + (hi : Int)) / 2 by omega] at hc
      by_cases hp : cnt ≤ (lo + hi) / 2
      · rw [decide_eq_true hp] at hc
        have HP : Hid (cnt ≤ (lo + hi) / 2) := hp
        clear hp hb
        go_wp2_with (go_at_fn g; refine hc.mono ?_; rintro e w' ⟨rfl, hb'⟩)
        go_roundw
        case rel => exact ⟨lo, (lo + hi) / 2, rfl, by rw [show ((lo : Int) + (hi : Int)) / 2 = (((lo + hi) / 2 : Nat) : Int) by omega], hl, HP.out, by omega, HB.out.trans (hb'.mono HB.out.size)⟩
        case measure => simp [intOf]; omega
      · rw [decide_eq_false hp] at hc
        have HP : Hid (¬ cnt ≤ (lo + hi) / 2) := hp
        clear hp hb
        go_wp2_with (go_at_fn g; refine hc.mono ?_; rintro e w' ⟨rfl, hb'⟩)
        go_roundw
        case rel => exact ⟨(lo + hi) / 2 + 1, hi, by rw [show ((lo : Int) + (hi : Int)) / 2 + 1 = (((lo + hi) / 2 + 1 : Nat) : Int) by omega], rfl, by have := HP.out; omega, hh, hin, HB.out.trans (hb'.mono HB.out.size)⟩
        case measure => simp [intOf]; omega
    · obtain rfl : lo = cnt := by omega
      go_wp2
      go_ret
      exact ⟨rfl, HB.out⟩

set_option maxHeartbeats 1000000 in
/-- Find's own function: '!Less(l[i], k)', l and k in their boxes. -/
theorem find1_any (p q : Nat) (ks : List (Int × Int)) (k : Int × Int) (ao : Option Addr) (c : Nat) (i : Nat) (w : World) (hv : IsKeys w (.slice ao ks.length c) ks) (hi : i < ks.length)
    (hp : w.cell? ⟨p, 0, none⟩ = some (.slice ao ks.length c)) (hq1 : w.cell? ⟨q, 0, none⟩ = some (.int .i64 k.1)) (hq2 : w.cell? ⟨q, 1, none⟩ = some (.int .i64 k.2)) :
    Calls Try.prog 46 (#[.int .i64 i] ++ #[.pointer (some ⟨p, 0, none⟩), .pointer (some ⟨q, 0, none⟩)]) w fun e w' => e = .returned (.bool (!ltK (ks.getD i (0, 0)) k)) ∧ Below w.heap.size w w' := by
  obtain ⟨b, off, rfl, hbl, g1, g2⟩ := hv.at i hi
  generalize ks.getD i (0, 0) = x at g1 g2 ⊢
  have hpl := World.block_lt_of_cell? _ _ hp
  have hql := World.block_lt_of_cell? _ _ hq1
  have : Nonempty (WB w.heap.size w) := ⟨⟨w, Below.refl _ _⟩⟩
  have c1 : ∀ s : WB w.heap.size w, s.w.cell? ⟨b, off + i * 2, none⟩ = some (.int .i64 x.1) := fun s => (s.h.cell (p := ⟨b, off + i * 2, none⟩) hbl).trans g1
  have c2 : ∀ s : WB w.heap.size w, s.w.cell? ⟨b, off + i * 2 + 1, none⟩ = some (.int .i64 x.2) := fun s => (s.h.cell (p := ⟨b, off + i * 2 + 1, none⟩) hbl).trans g2
  have c3 : ∀ s : WB w.heap.size w, s.w.cell? ⟨p, 0, none⟩ = some (.slice (some ⟨b, off, none⟩) ks.length c) := fun s => (s.h.cell (p := ⟨p, 0, none⟩) hpl).trans hp
  have c4 : ∀ s : WB w.heap.size w, s.w.cell? ⟨q, 0, none⟩ = some (.int .i64 k.1) := fun s => (s.h.cell (p := ⟨q, 0, none⟩) hql).trans hq1
  have c5 : ∀ s : WB w.heap.size w, s.w.cell? ⟨q, 1, none⟩ = some (.int .i64 k.2) := fun s => (s.h.cell (p := ⟨q, 1, none⟩) hql).trans hq2
  have hls : ∀ s : WB w.heap.size w, Calls Try.prog 47 #[.agg #[.int .i64 x.1, .int .i64 x.2], .agg #[.int .i64 k.1, .int .i64 k.2]] s.w fun e w' => e = .returned (.bool (ltK x k)) ∧ Below s.w.heap.size s.w w' := fun s => less_any x k s.w
  generalize ltK x k = lt at hls ⊢
  clear hv g1 g2 hp hq1 hq2
  go_enter Try.func46, Try.ntmps46
  go_wp2
  refine wp_region_below w.heap.size w (by kernel_rfl) (by kernel_rfl) (Below.refl _ _) ?_
  repeat (go_big_quiet_step (first
    | (go_at_call 47; exact calls_below (Nat.le_refl _) (hls _))))
  refine wpQuiet_nil ?_
  rintro _ ⟨s, rfl⟩
  have HB4 : Hid (Below w.heap.size w s.w) := s.h
  go_wp2
  go_ret
  exact ⟨rfl, HB4.out⟩

set_option maxHeartbeats 1000000 in
theorem find_any (ks : List (Int × Int)) (k : Int × Int) (v : Value) (w : World) (hv : IsKeys w v ks) (hk : SortedK ks) (hlen : ks.length ≤ 1000000) :
    Calls Try.prog 26 #[v, kval k] w fun e w' => e = .returned (.tuple #[.int .i64 (findV ks k : Nat), .bool (decide (k ∈ ks))]) ∧ Below w.heap.size w w' := by
  obtain ⟨ao, c, rfl⟩ := hv.shape
  unfold kval
  obtain ⟨h2, h3⟩ := findV_spec (k := k) hk
  have hle := findV_le ks k
  have hmem := mem_iff_findV (k := k) hk
  have hp : ∀ t, t < ks.length → (!ltK (ks.getD t (0, 0)) k) = decide (findV ks k ≤ t) := fun t ht => by
    rw [kgetD t ht]
    rcases Nat.lt_or_ge t (findV ks k) with h | h
    · rw [h2 t ht h, decide_eq_false (by omega)]; rfl
    · rw [h3 t ht h, decide_eq_true h]; rfl
  obtain ⟨W0, hW0⟩ : ∃ W0, W0 = (w.alloc (.cells #[.slice ao ks.length c] 51)).alloc (.cells #[.int .i64 k.1, .int .i64 k.2] 54) := ⟨_, rfl⟩
  have hsize : W0.heap.size = w.heap.size + 1 + 1 := by rw [hW0]; simp
  have hB0 : Below w.heap.size w W0 := by rw [hW0]; exact ((Below.refl _ w).alloc (Nat.le_refl _) _).alloc (by simp) _
  have e1 : W0.cell? ⟨w.heap.size, 0, none⟩ = some (.slice ao ks.length c) := by rw [hW0]; simp
  have e2 : W0.cell? ⟨w.heap.size + 1, 0, none⟩ = some (.int .i64 k.1) := by rw [hW0]; simp
  have e3 : W0.cell? ⟨w.heap.size + 1, 1, none⟩ = some (.int .i64 k.2) := by rw [hW0]; simp
  have hS := search_any 46 #[.pointer (some ⟨w.heap.size, 0, none⟩), .pointer (some ⟨w.heap.size + 1, 0, none⟩)] ks.length (findV ks k) (fun i => !ltK (ks.getD i (0, 0)) k) W0 (enters_of Try.func46 (by kernel_rfl) rfl) hlen hle hp
    (fun W hW i hi => find1_any w.heap.size (w.heap.size + 1) ks k ao c i W ((hv.below hB0).below hW) hi ((hW.cell (p := ⟨w.heap.size, 0, none⟩) (by show w.heap.size < _; omega)).trans e1) ((hW.cell (p := ⟨w.heap.size + 1, 0, none⟩) (by show w.heap.size + 1 < _; omega)).trans e2) ((hW.cell (p := ⟨w.heap.size + 1, 1, none⟩) (by show w.heap.size + 1 < _; omega)).trans e3))
  have HF : Hid (∀ i, findV ks k = i → i < ks.length → decide (k ∈ ks) = decide (ks.getD i (0, 0) = k)) := fun i hi h => by
    subst hi
    rw [kgetD _ h]
    exact decide_eq_decide.2 (hmem.trans ⟨fun ⟨_, e⟩ => e, fun e => ⟨h, e⟩⟩)
  have HG : Hid (¬ findV ks k < ks.length → decide (k ∈ ks) = false) := fun h => decide_eq_false fun hm => h (hmem.1 hm).1
  have HV : Hid (IsKeys W0 (.slice ao ks.length c) ks) := hv.below hB0
  have HE1 : Hid (W0.cell? ⟨w.heap.size, 0, none⟩ = some (.slice ao ks.length c)) := e1
  have HE2 : Hid (W0.cell? ⟨w.heap.size + 1, 0, none⟩ = some (.int .i64 k.1)) := e2
  have HE3 : Hid (W0.cell? ⟨w.heap.size + 1, 1, none⟩ = some (.int .i64 k.2)) := e3
  have HB0 : Hid (Below w.heap.size w W0) := hB0
  have HS : Hid (W0.heap.size = w.heap.size + 1 + 1) := hsize
  have HW : Hid (W0 = (w.alloc (.cells #[.slice ao ks.length c] 51)).alloc (.cells #[.int .i64 k.1, .int .i64 k.2] 54)) := hW0
  clear hp h2 h3 hmem hv e1 e2 e3 hB0 hsize hk hW0
  obtain ⟨F, hFe⟩ : ∃ F, F = findV ks k := ⟨_, rfl⟩
  rw [← hFe] at hS hle HG ⊢
  have HFe : Hid (F = findV ks k) := hFe
  clear hFe
  generalize decide (k ∈ ks) = m at HF HG ⊢
  go_enter Try.func26, Try.ntmps26
  go_wp2_with fail
  rw [← HW.out]
  refine hS.mono ?_
  rintro e w1 ⟨rfl, hb⟩
  have hs0 := HS.out
  have z1 : w1.cell? ⟨w.heap.size, 0, none⟩ = some (.slice ao ks.length c) := (hb.cell (p := ⟨w.heap.size, 0, none⟩) (by show w.heap.size < _; omega)).trans HE1.out
  have z2 : w1.cell? ⟨w.heap.size + 1, 0, none⟩ = some (.int .i64 k.1) := (hb.cell (p := ⟨w.heap.size + 1, 0, none⟩) (by show w.heap.size + 1 < _; omega)).trans HE2.out
  have z3 : w1.cell? ⟨w.heap.size + 1, 1, none⟩ = some (.int .i64 k.2) := (hb.cell (p := ⟨w.heap.size + 1, 1, none⟩) (by show w.heap.size + 1 < _; omega)).trans HE3.out
  have HV1 : Hid (IsKeys w1 (.slice ao ks.length c) ks) := HV.out.below hb
  have HB1 : Hid (Below w.heap.size w w1) := HB0.out.trans (hb.mono HB0.out.size)
  clear hb hs0 hS
  by_cases hlt : F < ks.length
  · obtain ⟨b, off, rfl, hbl, g1, g2⟩ := HV1.out.at F hlt
    have hd := HF.out F HFe.out.symm hlt
    have HD : Hid (m = decide (ks.getD F (0, 0) = k)) := hd
    clear hd
    generalize ks.getD F (0, 0) = x at g1 g2 HD
    obtain ⟨xa, xb⟩ := x
    obtain ⟨k1, k2⟩ := k
    simp only at g1 g2 z2 z3
    have hdz : decide ((F : Int) < (ks.length : Int)) = true := decide_eq_true (by omega)
    rcases eq_parts xa xb k1 k2 with ⟨hd, p1, p2⟩ | ⟨hd, p1⟩ | ⟨hd, p1, p2⟩
    all_goals
      have HM := HD.out.trans hd
      have HX : Hid (_ = _) := HM
      clear hd HM
      go_wp2
      go_quiet (fail)
      go_wp2
      go_ret2
      exact ⟨by rw [HX.out]; rfl, below_drewN HB1.out _⟩
  · have hdz : decide ((F : Int) < (ks.length : Int)) = false := decide_eq_false (by omega)
    have HX : Hid (m = false) := HG.out hlt
    go_wp2
    go_quiet (fail)
    go_wp2
    go_ret2
    exact ⟨by rw [HX.out]; rfl, below_drewN HB1.out _⟩

end Go.Proofs.Ytcafjjfaamjipaa

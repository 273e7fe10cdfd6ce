/-
  The contract of sort.Search with a function that makes memory and turns none.
-/
import Derived.Test.YtelpdmaphmfkiaaKit
import Derived.Test.YtelpdmaphmfkiaaChecked
import Derived.WalkSmall
import Derived.Shelf.Abstract
namespace Go.Proofs.Ytelpdmaphmfkiaa
open Go.RowKit

set_option maxHeartbeats 1000000 in
/-- sort.Search with a function that makes memory and turns none: the boundary. -/
theorem search_any (g : Nat) (cb : Array Value) (n cnt : Nat) (p : Nat → Bool) (w : World) (eg : ∀ args w, (callFunc g args).run Try.prog w = .ok (.enter g args) w) (hn : n ≤ 1000000) (h1 : cnt ≤ n)
    (h2 : ∀ t, t < n → (p t = decide (cnt ≤ t)))
    (hf : ∀ W, Below w.heap.size w W → ∀ i : Nat, i < n → Calls Try.prog g (#[.int .i64 i] ++ cb) W fun e w' => e = .returned (.bool (p i)) ∧ Below W.heap.size W w') :
    Calls Try.prog 25 #[.int .i64 n, .func (.func g) #[] cb] w fun e w' => e = .returned (.int .i64 (cnt : Nat)) ∧ Below w.heap.size w w' := by
  have HF : Hid (∀ W, Below w.heap.size w W → ∀ i : Nat, i < n → Calls Try.prog g (#[.int .i64 i] ++ cb) W fun e w' => e = .returned (.bool (p i)) ∧ Below W.heap.size W w') := hf
  have H2 : Hid (∀ t, t < n → (p t = decide (cnt ≤ t))) := h2
  clear hf h2
  go_enter Try.func25, Try.ntmps25
  go_wp2
  go_loopw [5, 6] (fun a b wr => ∃ lo hi : Nat, a = .int .i64 lo ∧ b = .int .i64 hi ∧ lo ≤ cnt ∧ cnt ≤ hi ∧ hi ≤ n ∧ Below w.heap.size w wr) (fun a b _ => (intOf b).toNat - (intOf a).toNat)
  case atStart => exact ⟨0, n, rfl, rfl, Nat.zero_le _, h1, Nat.le_refl _, Below.refl _ _⟩
  case round =>
    obtain ⟨lo, hi, rfl, rfl, hl, hh, hin, hb⟩ := hrel
    have HB : Hid (Below w.heap.size w wr) := hb
    by_cases hlt : lo < hi
    · have hc := HF.out wr hb ((lo + hi) / 2) (by omega)
      rw [H2.out _ (by omega)] at hc
      rw [show (((lo + hi) / 2 : Nat) : Int) = ((lo : Int) + (hi : Int)) / 2 by omega] at hc
      by_cases hp : cnt ≤ (lo + hi) / 2
      · rw [decide_eq_true hp] at hc
        have HP : Hid (cnt ≤ (lo + hi) / 2) := hp
        clear hp hb
        go_wp2_with (go_at_fn g; refine hc.mono ?_; rintro e w' ⟨rfl, hb'⟩)
        go_roundw
        case rel => exact ⟨lo, (lo + hi) / 2, rfl, by rw [show ((lo : Int) + (hi : Int)) / 2 = (((lo + hi) / 2 : Nat) : Int) by omega], hl, HP.out, by omega, HB.out.trans (hb'.mono HB.out.size)⟩
        case measure => simp [intOf]; omega
      · rw [decide_eq_false hp] at hc
        have HP : Hid (¬ cnt ≤ (lo + hi) / 2) := hp
        clear hp hb
        go_wp2_with (go_at_fn g; refine hc.mono ?_; rintro e w' ⟨rfl, hb'⟩)
        go_roundw
        case rel => exact ⟨(lo + hi) / 2 + 1, hi, by rw [show ((lo : Int) + (hi : Int)) / 2 + 1 = (((lo + hi) / 2 + 1 : Nat) : Int) by omega], rfl, by have := HP.out; omega, hh, hin, HB.out.trans (hb'.mono HB.out.size)⟩
        case measure => simp [intOf]; omega
    · obtain rfl : lo = cnt := by omega
      go_wp2
      go_ret
      exact ⟨rfl, HB.out⟩

end Go.Proofs.Ytelpdmaphmfkiaa

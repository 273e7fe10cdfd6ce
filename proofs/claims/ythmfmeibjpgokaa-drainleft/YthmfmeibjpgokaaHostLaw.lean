/-
  What the statements of stage 7 share: Light.
-/
import Derived.Test.YthmfmeibjpgokaaRefHost2
import Derived.Test.YthmfmeibjpgokaaRel6
namespace Go.Proofs.Ythmfmeibjpgokaa
open Go.RowKit

def bit01 (r : Int) : Prop := r = 0 ∨ r = 1

set_option maxHeartbeats 1000000 in
theorem light_any (h : HostT) (mv : Value) (w : World) (hm : IsPairs w mv h.tags) :
    Calls Try.prog 5 #[hval h mv] w fun e w' => ∃ r : Int, bit01 r ∧ e = .returned (.int .i64 r) ∧ Below w.heap.size w w' := by
  obtain ⟨ao, cap, rfl⟩ := hm.shaped
  have hlen := hm.len
  have HM : Hid (IsPairs w (.slice ao h.tags.length cap) h.tags) := hm
  clear hm
  go_enter Try.func5, Try.ntmps5
  go_wp2
  generalize hW0 : World.alloc w _ = W0
  have HB0 : Hid (Below w.heap.size w W0) := by rw [← hW0]; exact (Below.refl _ _).alloc (Nat.le_refl _) _
  clear hW0
  go_loopw [3, 16] (fun n i wr => ∃ (x : Int) (k : Nat), k ≤ h.tags.length ∧ i = .int .i64 k ∧ n = .int .i64 x ∧ Below w.heap.size w wr) (fun _ i _ => h.tags.length - (intOf i).toNat)
  case atStart => exact ⟨_, 0, Nat.zero_le _, rfl, rfl, HB0.out⟩
  case round =>
    obtain ⟨x, k, hk, rfl, rfl, hb⟩ := hrel
    have HB : Hid (Below w.heap.size w wr) := hb
    clear hb
    by_cases hlt : k < h.tags.length
    · obtain ⟨b1, o1, rfl, hbl1, g1, g2⟩ := (HM.out.below HB.out).at k hlt
      generalize h.tags.getD k noP = pq at g1 g2
      obtain ⟨y, z⟩ := pq
      simp only at g1 g2
      go_wp2
      go_roundw
      case rel => exact ⟨_, k + 1, by omega, by go_num, rfl, HB.out.trans (((Below.refl _ _).alloc (Nat.le_refl _) _).mono HB.out.size)⟩
      case measure => simp [intOf]; omega
    · by_cases h6 : 600 < x
      · go_wp2
        go_ret
        exact ⟨1, .inr rfl, rfl, HB.out⟩
      · go_wp2
        go_ret
        exact ⟨0, .inl rfl, rfl, HB.out⟩

end Go.Proofs.Ythmfmeibjpgokaa

/-
  Contracts of package table: the place of a host, over slices.IndexFunc.
-/
import Derived.Test.YtcafjjfaamjipaaTableMay
namespace Go.Proofs.Ytcafjjfaamjipaa
open Go.RowKit

set_option maxHeartbeats 1000000 in
/-- Find's own function: 'h.Id == id', id in its box. -/
theorem find1h_any (x : HostT) (mv : Value) (id : Int) (B : Nat) (w : World) (hc : w.cell? ⟨B, 0, none⟩ = some (.int .i64 id)) :
    Calls Try.prog 37 (#[hval x mv] ++ #[.pointer (some ⟨B, 0, none⟩)]) w fun e w' => e = .returned (.bool (x.id == id)) ∧ Below w.heap.size w w' := by
  have hB := World.block_lt_of_cell? _ _ hc
  have hne : B ≠ w.heap.size := by have : B < w.heap.size := hB; omega
  obtain ⟨q, hq⟩ : ∃ q, (x.id == id) = q := ⟨_, rfl⟩
  rw [hq]
  go_enter Try.func37, Try.ntmps37
  go_wp2
  go_ret
  exact ⟨rfl, (Below.refl _ _).alloc (Nat.le_refl _) _⟩

set_option maxHeartbeats 1000000 in
theorem indexFunc_any (hs : List HostT) (id : Int) (B : Nat) (v : Value) (vs : List Value) (w : World) (hv : IsHosts w v vs hs) (hc : w.cell? ⟨B, 0, none⟩ = some (.int .i64 id)) :
    Calls Try.prog 36 #[v, .func (.func 37) #[] #[.pointer (some ⟨B, 0, none⟩)]] w fun e w' => e = .returned (.int .i64 (findH hs id)) ∧ Below w.heap.size w w' := by
  obtain ⟨ao, cap, rfl⟩ := hv.shaped
  have hlen := hv.len
  have hB := World.block_lt_of_cell? _ _ hc
  have HV : Hid (IsHosts w (.slice ao hs.length cap) vs hs) := hv
  have HC : Hid (∀ W, Below w.heap.size w W → W.cell? ⟨B, 0, none⟩ = some (.int .i64 id)) := fun W h => (h.cell (p := ⟨B, 0, none⟩) hB).trans hc
  have eg : ∀ args w, (callFunc 37 args).run Try.prog w = .ok (.enter 37 args) w := enters_of Try.func37 (by kernel_rfl) rfl
  clear hv hc
  go_enter Try.func36, Try.ntmps36
  go_wp2
  go_loopw [8] (fun i wr => ∃ k : Nat, k ≤ hs.length ∧ i = .int .i64 k ∧ (∀ j, j < k → (hs.getD j noHost).id ≠ id) ∧ Below w.heap.size w wr) (fun i _ => hs.length - (intOf i).toNat)
  case atStart => exact ⟨0, Nat.zero_le _, rfl, fun j h => by omega, Below.refl _ _⟩
  case round =>
    obtain ⟨k, hk, rfl, ht, hb⟩ := hrel
    have HT : Hid (∀ j, j < k → (hs.getD j noHost).id ≠ id) := ht
    have HB : Hid (Below w.heap.size w wr) := hb
    clear ht hb
    by_cases hlt : k < hs.length
    · have hx := HV.out.below HB.out
      obtain ⟨b, off, rfl, hbl, c0, c1, c2, c3, c4, c5⟩ := hx.at k hlt
      obtain ⟨to, tc, htv⟩ := (hx.tags k hlt).shaped
      rw [htv] at c5
      have HH : Hid ((hs.getD k noHost).id = id → findH hs id = k) := findH_hit hlt HT.out
      have HN : Hid ((hs.getD k noHost).id ≠ id → ∀ j, j < k + 1 → (hs.getD j noHost).id ≠ id) := fun h j hj => by
        rcases Nat.lt_or_ge j k with h1 | h1
        · exact HT.out j h1
        · obtain rfl : j = k := by omega
          exact h
      have KF := fun mv => find1h_any (hs.getD k noHost) mv id B wr (HC.out wr HB.out)
      generalize hs.getD k noHost = x at c0 c1 c2 c3 c4 c5 HH HN KF htv
      clear hx htv
      by_cases he : x.id = id
      · have hb1 : (x.id == id) = true := by rw [beq_iff_eq]; exact he
        rw [hb1] at KF
        have HF : Hid (findH hs id = k) := HH.out he
        clear HH HN he hb1
        go_wp2_with (go_at_fn 37; refine (KF _).mono ?_; rintro e w' ⟨rfl, hb'⟩)
        go_ret
        exact ⟨by rw [HF.out]; rfl, HB.out.trans (hb'.mono HB.out.size)⟩
      · have hb1 : (x.id == id) = false := by rw [beq_eq_false_iff_ne]; exact he
        rw [hb1] at KF
        have HF : Hid (∀ j, j < k + 1 → (hs.getD j noHost).id ≠ id) := HN.out he
        clear HH HN he hb1
        go_wp2_with (go_at_fn 37; refine (KF _).mono ?_; rintro e w' ⟨rfl, hb'⟩)
        go_roundw
        case rel => exact ⟨k + 1, by omega, by go_num, HF.out, HB.out.trans (hb'.mono HB.out.size)⟩
        case measure => simp [intOf]; omega
    · have HF : Hid (findH hs id = -1) := findH_none fun j hj => HT.out j (by omega)
      go_wp2
      go_ret
      exact ⟨by rw [HF.out]; rfl, HB.out⟩

set_option maxHeartbeats 1000000 in
theorem tfind_any (hs : List HostT) (id : Int) (v : Value) (vs : List Value) (w : World) (hv : IsHosts w v vs hs) :
    Calls Try.prog 21 #[v, .int .i64 id] w fun e w' => e = .returned (.int .i64 (findH hs id)) ∧ Below w.heap.size w w' := by
  obtain ⟨ao, cap, rfl⟩ := hv.shaped
  have K := indexFunc_any hs id w.heap.size (.slice ao hs.length cap) vs (w.alloc (.cells #[.int .i64 id] 3)) (hv.below ((Below.refl _ _).alloc (Nat.le_refl _) _)) (by simp)
  clear hv
  go_enter Try.func21, Try.ntmps21
  go_wp2_with fail
  refine K.mono ?_
  rintro e w1 ⟨rfl, hb⟩
  have HB : Hid (Below w.heap.size w w1) := ((Below.refl _ _).alloc (Nat.le_refl _) _).trans (hb.mono (by simp))
  clear hb K
  go_wp2
  go_ret
  exact ⟨rfl, HB.out⟩

end Go.Proofs.Ytcafjjfaamjipaa

/-
  Contracts of package host: names that rise.
-/
import Derived.Test.YtcafjjfaamjipaaHost1
import Derived.Deep.RegionHeld3
namespace Go.Proofs.Ytcafjjfaamjipaa
open Go.RowKit

theorem below_drewN {n : Nat} {w w' : World} (h : Below n w w') (k : Nat) : Below n w (w'.drewN k) := by
  induction k with
  | zero => simpa [World.drewN] using h
  | succ k ih => exact ih.drew

theorem geq_str (t : TypeId) (a b : ByteArray) : binOp .geq t (.string a) (.string b) = pure (.bool !(Op.bytesLess a.toList b.toList)) := by simp [binOp, Op.stringOp]
theorem leq_str (t : TypeId) (a b : ByteArray) : binOp .leq t (.string a) (.string b) = pure (.bool (Op.bytesLess a.toList b.toList || a.toList == b.toList)) := by simp [binOp, Op.stringOp]

set_option maxHeartbeats 1000000 in
theorem namesRise_any (ps : List PairT) (v : Value) (w : World) (hv : IsPairs w v ps) :
    Calls Try.prog 44 #[v] w fun e w' => e = .returned (.bool (risesP ps)) ∧ Below w.heap.size w w' := by
  obtain ⟨ao, cap, rfl⟩ := hv.shaped
  have hlen := hv.len
  have HV : Hid (IsPairs w (.slice ao ps.length cap) ps) := hv
  clear hv
  go_enter Try.func44, Try.ntmps44
  go_wp2
  go_loopw [3] (fun i wr => ∃ m k : Nat, m = k + 1 ∧ k ≤ ps.length ∧ i = .int .i64 (m : Nat) ∧ (∀ j, j + 1 < m → j + 1 < ps.length → ltS (ps.getD j noP).1 (ps.getD (j + 1) noP).1 = true) ∧ Below w.heap.size w wr) (fun i _ => ps.length + 1 - (intOf i).toNat)
  case atStart => exact ⟨1, 0, rfl, Nat.zero_le _, rfl, fun j h => by omega, Below.refl _ _⟩
  case round =>
    obtain ⟨m, k, hm, hk, rfl, ht, hb⟩ := hrel
    have HT : Hid (∀ j, j + 1 < m → j + 1 < ps.length → ltS (ps.getD j noP).1 (ps.getD (j + 1) noP).1 = true) := ht
    have HB : Hid (Below w.heap.size w wr) := hb
    clear ht hb
    by_cases hlt : m < ps.length
    · obtain ⟨b, off, rfl, hbl, g1, g2⟩ := (HV.out.below HB.out).at k (by omega)
      obtain ⟨b', off', e, _, g3, g4⟩ := (HV.out.below HB.out).at m hlt
      simp only [Option.some.injEq, Addr.mk.injEq, and_true] at e
      obtain ⟨rfl, rfl⟩ := e
      have HF : Hid (ltS (ps.getD k noP).1 (ps.getD m noP).1 = false → risesP ps = false) := by subst hm; exact risesP_false hlt
      have HN : Hid (ltS (ps.getD k noP).1 (ps.getD m noP).1 = true → ∀ j, j + 1 < m + 1 → j + 1 < ps.length → ltS (ps.getD j noP).1 (ps.getD (j + 1) noP).1 = true) := fun h j h1 h2 => by
        rcases Nat.lt_or_ge j k with h3 | h3
        · exact HT.out j (by omega) h2
        · obtain rfl : j = k := by omega
          rw [← hm]; exact h
      generalize (ps.getD k noP).1 = x at g1 HF HN
      generalize (ps.getD m noP).1 = y at g3 HF HN
      clear g2 g4
      have hk0 : k < ps.length := by omega
      have e1 : (m : Int) - 1 = k := by omega
      have e2 : IntKind.i64.wrap (k : Int) = (k : Int) := by rw [IntKind.wrap_i64]; omega
      have HM : Hid (m = k + 1) := hm
      have hgq := geq_str 9 x y
      clear hm
      cases hc : Op.bytesLess x.toList y.toList with
      | true =>
        rw [hc] at hgq
        have HR : Hid (∀ j, j + 1 < m + 1 → j + 1 < ps.length → ltS (ps.getD j noP).1 (ps.getD (j + 1) noP).1 = true) := HN.out hc
        clear HF HN
        go_wp2
        go_quiet (fail)
        go_wp2
        go_roundw
        case rel => exact ⟨m + 1, k + 1, by have := HM.out; omega, by omega, by go_num, HR.out, below_drewN HB.out _⟩
        case measure => simp [intOf]; omega
      | false =>
        rw [hc] at hgq
        have HR : Hid (risesP ps = false) := HF.out hc
        clear HF HN
        go_wp2
        go_quiet (fail)
        go_wp2
        go_ret
        exact ⟨by rw [HR.out]; rfl, below_drewN HB.out _⟩
    · have HR : Hid (risesP ps = true) := risesP_true HT.out (by omega)
      go_wp2
      go_ret
      exact ⟨by rw [HR.out]; rfl, HB.out⟩

end Go.Proofs.Ytcafjjfaamjipaa

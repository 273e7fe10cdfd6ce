/-
  Contracts of package host, and of package slices at pairs: rows held against each other, copied, looked through.
-/
import Derived.Test.YtgjancpogblakaaHost1
import Derived.Deep.RegionHeld3
namespace Go.Proofs.Ytgjancpogblakaa
open Go.RowKit

theorem below_drewN {n : Nat} {w w' : World} (h : Below n w w') (k : Nat) : Below n w (w'.drewN k) := by
  induction k with
  | zero => simpa [World.drewN] using h
  | succ k ih => exact ih.drew

theorem geq_str (t : TypeId) (a b : ByteArray) : binOp .geq t (.string a) (.string b) = pure (.bool !(Op.bytesLess a.toList b.toList)) := by simp [binOp, Op.stringOp]
theorem leq_str (t : TypeId) (a b : ByteArray) : binOp .leq t (.string a) (.string b) = pure (.bool (Op.bytesLess a.toList b.toList || a.toList == b.toList)) := by simp [binOp, Op.stringOp]

set_option maxHeartbeats 1000000 in
theorem namesRise_any (ps : List PairT) (v : Value) (w : World) (hv : IsPairs w v ps) :
    Calls Try.prog 22 #[v] w fun e w' => e = .returned (.bool (risesP ps)) ∧ Below w.heap.size w w' := by
  obtain ⟨ao, cap, rfl⟩ := hv.shaped
  have hlen := hv.len
  have HV : Hid (IsPairs w (.slice ao ps.length cap) ps) := hv
  clear hv
  go_enter Try.func22, Try.ntmps22
  go_wp2
  go_loopw [3] (fun i wr => ∃ m k : Nat, m = k + 1 ∧ k ≤ ps.length ∧ i = .int .i64 (m : Nat) ∧ (∀ j, j + 1 < m → j + 1 < ps.length → ltS (ps.getD j noP).1 (ps.getD (j + 1) noP).1 = true) ∧ Below w.heap.size w wr) (fun i _ => ps.length + 1 - (intOf i).toNat)
  case atStart => exact ⟨1, 0, rfl, Nat.zero_le _, rfl, fun j h => by omega, Below.refl _ _⟩
  case round =>
    obtain ⟨m, k, hm, hk, rfl, ht, hb⟩ := hrel
    have HT : Hid (∀ j, j + 1 < m → j + 1 < ps.length → ltS (ps.getD j noP).1 (ps.getD (j + 1) noP).1 = true) := ht
    have HB : Hid (Below w.heap.size w wr) := hb
    clear ht hb
    by_cases hlt : m < ps.length
    · obtain ⟨b, off, rfl, hbl, g1, g2⟩ := (HV.out.below HB.out).at k (by omega)
      obtain ⟨b', off', e, _, g3, g4⟩ := (HV.out.below HB.out).at m hlt
      simp only [Option.some.injEq, Addr.mk.injEq, and_true] at e
      obtain ⟨rfl, rfl⟩ := e
      have HF : Hid (ltS (ps.getD k noP).1 (ps.getD m noP).1 = false → risesP ps = false) := by subst hm; exact risesP_false hlt
      have HN : Hid (ltS (ps.getD k noP).1 (ps.getD m noP).1 = true → ∀ j, j + 1 < m + 1 → j + 1 < ps.length → ltS (ps.getD j noP).1 (ps.getD (j + 1) noP).1 = true) := fun h j h1 h2 => by
        rcases Nat.lt_or_ge j k with h3 | h3
        · exact HT.out j (by omega) h2
        · obtain rfl : j = k := by omega
          rw [← hm]; exact h
      generalize (ps.getD k noP).1 = x at g1 HF HN
      generalize (ps.getD m noP).1 = y at g3 HF HN
      clear g2 g4
      have hk0 : k < ps.length := by omega
      have e1 : (m : Int) - 1 = k := by omega
      have e2 : IntKind.i64.wrap (k : Int) = (k : Int) := by rw [IntKind.wrap_i64]; omega
      have HM : Hid (m = k + 1) := hm
      have hgq := geq_str 9 x y
      clear hm
      cases hc : Op.bytesLess x.toList y.toList with
      | true =>
        rw [hc] at hgq
        have HR : Hid (∀ j, j + 1 < m + 1 → j + 1 < ps.length → ltS (ps.getD j noP).1 (ps.getD (j + 1) noP).1 = true) := HN.out hc
        clear HF HN
        go_wp2
        go_quiet (fail)
        go_wp2
        go_roundw
        case rel => exact ⟨m + 1, k + 1, by have := HM.out; omega, by omega, by go_num, HR.out, below_drewN HB.out _⟩
        case measure => simp [intOf]; omega
      | false =>
        rw [hc] at hgq
        have HR : Hid (risesP ps = false) := HF.out hc
        clear HF HN
        go_wp2
        go_quiet (fail)
        go_wp2
        go_ret
        exact ⟨by rw [HR.out]; rfl, below_drewN HB.out _⟩
    · have HR : Hid (risesP ps = true) := risesP_true HT.out (by omega)
      go_wp2
      go_ret
      exact ⟨by rw [HR.out]; rfl, HB.out⟩

set_option maxHeartbeats 1000000 in
theorem equal_any (ps qs : List PairT) (v u : Value) (w : World) (hv : IsPairs w v ps) (hu : IsPairs w u qs) :
    Calls Try.prog 24 #[v, u] w fun e w' => e = .returned (.bool (decide (ps = qs))) ∧ Below w.heap.size w w' := by
  obtain ⟨ao, c1, rfl⟩ := hv.shaped
  obtain ⟨bo, c2, rfl⟩ := hu.shaped
  have hl1 := hv.len
  have hl2 := hu.len
  have HV : Hid (IsPairs w (.slice ao ps.length c1) ps) := hv
  have HU : Hid (IsPairs w (.slice bo qs.length c2) qs) := hu
  clear hv hu
  by_cases hl : ps.length = qs.length
  · go_enter Try.func24, Try.ntmps24
    go_wp2
    have HL : Hid (ps.length = qs.length) := hl
    clear hl
    go_loopw [13] (fun i wr => ∃ k : Nat, k ≤ ps.length ∧ i = .int .i64 k ∧ ps.take k = qs.take k ∧ Below w.heap.size w wr) (fun i _ => ps.length - (intOf i).toNat)
    case atStart => exact ⟨0, Nat.zero_le _, rfl, by simp, Below.refl _ _⟩
    case round =>
      obtain ⟨k, hk, rfl, ht, hb⟩ := hrel
      have HT : Hid (ps.take k = qs.take k) := ht
      have HB : Hid (Below w.heap.size w wr) := hb
      clear ht hb
      by_cases hlt : k < ps.length
      · have hlj : k < qs.length := by have := HL.out; omega
        obtain ⟨b1, o1, rfl, hbl1, g1, g2⟩ := (HV.out.below HB.out).at k hlt
        obtain ⟨b2, o2, rfl, hbl2, g3, g4⟩ := (HU.out.below HB.out).at k hlj
        have HN : Hid (ps.getD k noP = qs.getD k noP → ps.take (k + 1) = qs.take (k + 1)) := take_more noP hlt hlj HT.out
        have HX : Hid (ps.getD k noP ≠ qs.getD k noP → decide (ps = qs) = false) := list_ne noP
        generalize ps.getD k noP = pq at g1 g2 HN HX
        generalize qs.getD k noP = pr at g3 g4 HN HX
        obtain ⟨x, y⟩ := pq
        obtain ⟨z, t⟩ := pr
        simp only at g1 g2 g3 g4
        rcases pair_cases x y z t with ⟨a1, a2, a3⟩ | ⟨a1, a2⟩ | ⟨a1, a2, a3⟩
        · have HR : Hid (ps.take (k + 1) = qs.take (k + 1)) := HN.out a1
          clear HN HX a1
          go_wp2
          go_quiet (fail)
          go_wp2
          go_roundw
          case rel => exact ⟨k + 1, by omega, by go_num, HR.out, below_drewN HB.out _⟩
          case measure => simp [intOf]; omega
        all_goals
          have HR : Hid (decide (ps = qs) = false) := HX.out a1
          clear HN HX a1
          go_wp2
          go_quiet (fail)
          go_wp2
          go_ret
          exact ⟨by rw [HR.out]; rfl, below_drewN HB.out _⟩
      · have HR : Hid (decide (ps = qs) = true) := list_eq HL.out (by omega) HT.out
        have hlj : ¬ k < qs.length := by have := HL.out; omega
        go_wp2
        go_ret
        exact ⟨by rw [HR.out]; rfl, HB.out⟩
  · have HR : Hid (decide (ps = qs) = false) := list_len hl
    have hne : ((ps.length : Int) != (qs.length : Int)) = true := by rw [bne_iff_ne]; omega
    clear hl
    go_enter Try.func24, Try.ntmps24
    go_wp2
    go_ret
    exact ⟨by rw [HR.out]; rfl, Below.refl _ _⟩

theorem mem_at_pair {ps : List PairT} {k : Nat} (hk : k < ps.length) {p : PairT} (h : ps.getD k noP = p) : p ∈ ps := by
  rw [List.getD_eq_getElem?_getD, List.getElem?_eq_getElem hk, Option.getD_some] at h
  rw [← h]; exact List.getElem_mem hk

set_option maxHeartbeats 1000000 in
theorem index_any (ps : List PairT) (p : PairT) (v : Value) (w : World) (hv : IsPairs w v ps) :
    Calls Try.prog 29 #[v, .agg #[.string p.1, .string p.2]] w fun e w' => ∃ n : Int, e = .returned (.int .i64 n) ∧ (p ∈ ps → 0 ≤ n) ∧ (p ∉ ps → n = -1) ∧ Below w.heap.size w w' := by
  obtain ⟨ao, c1, rfl⟩ := hv.shaped
  have hl1 := hv.len
  obtain ⟨z, t⟩ := p
  have HV : Hid (IsPairs w (.slice ao ps.length c1) ps) := hv
  clear hv
  go_enter Try.func29, Try.ntmps29
  go_wp2
  generalize hW0 : World.alloc w _ = W0
  have HB0 : Hid (Below w.heap.size w W0) := by rw [← hW0]; exact (Below.refl _ _).alloc (Nat.le_refl _) _
  have hz : w.heap.size < W0.heap.size := by rw [← hW0]; simp
  have q1 : W0.cell? ⟨w.heap.size, 0, none⟩ = some (.string z) := by rw [← hW0, World.cell?_alloc_at _ _ _ _ rfl]; rfl
  have q2 : W0.cell? ⟨w.heap.size, 1, none⟩ = some (.string t) := by rw [← hW0, World.cell?_alloc_at _ _ _ _ rfl]; rfl
  have Q1 : Hid (W0.cell? ⟨w.heap.size, 0, none⟩ = some (.string z) ∧ W0.cell? ⟨w.heap.size, 1, none⟩ = some (.string t) ∧ w.heap.size < W0.heap.size) := ⟨q1, q2, hz⟩
  clear q1 q2 hz hW0
  go_loopw [8] (fun i wr => ∃ k : Nat, k ≤ ps.length ∧ i = .int .i64 k ∧ (∀ p ∈ ps.take k, p ≠ (z, t)) ∧ Below W0.heap.size W0 wr) (fun i _ => ps.length - (intOf i).toNat)
  case atStart => exact ⟨0, Nat.zero_le _, rfl, by simp, Below.refl _ _⟩
  case round =>
    obtain ⟨k, hk, rfl, ht, hb⟩ := hrel
    have HT : Hid (∀ p ∈ ps.take k, p ≠ (z, t)) := ht
    have HB : Hid (Below W0.heap.size W0 wr) := hb
    have HBB : Hid (Below w.heap.size w wr) := HB0.out.trans (hb.mono HB0.out.size)
    clear ht hb
    by_cases hlt : k < ps.length
    · obtain ⟨b1, o1, rfl, hbl1, g1, g2⟩ := (HV.out.below HBB.out).at k hlt
      have g3 : wr.cell? ⟨w.heap.size, 0, none⟩ = some (.string z) := (HB.out.cell (p := ⟨w.heap.size, 0, none⟩) Q1.out.2.2).trans Q1.out.1
      have g4 : wr.cell? ⟨w.heap.size, 1, none⟩ = some (.string t) := (HB.out.cell (p := ⟨w.heap.size, 1, none⟩) Q1.out.2.2).trans Q1.out.2.1
      have hz : w.heap.size < wr.heap.size := Nat.lt_of_lt_of_le Q1.out.2.2 HB.out.size
      have HN : Hid (ps.getD k noP ≠ (z, t) → ∀ p ∈ ps.take (k + 1), p ≠ (z, t)) := fun h => mem_take_succ noP hlt HT.out h
      have HX : Hid (ps.getD k noP = (z, t) → (z, t) ∈ ps) := mem_at_pair hlt
      generalize ps.getD k noP = pq at g1 g2 HN HX
      obtain ⟨x, y⟩ := pq
      simp only at g1 g2
      rcases pair_cases z t x y with ⟨a1, a2, a3⟩ | ⟨a1, a2⟩ | ⟨a1, a2, a3⟩
      · have HR : Hid ((z, t) ∈ ps) := HX.out a1.symm
        clear HN HX a1
        go_wp2
        go_quiet (fail)
        go_wp2
        go_ret
        exact ⟨k, rfl, fun _ => by omega, fun h => absurd HR.out h, below_drewN HBB.out _⟩
      all_goals
        have HR : Hid (∀ p ∈ ps.take (k + 1), p ≠ (z, t)) := HN.out fun h => a1 h.symm
        clear HN HX a1
        go_wp2
        go_quiet (fail)
        go_wp2
        go_roundw
        case rel => exact ⟨k + 1, by omega, by go_num, HR.out, below_drewN HB.out _⟩
        case measure => simp [intOf]; omega
    · have HR : Hid ((z, t) ∉ ps) := fun h => by
        have := HT.out (z, t) (by rw [List.take_of_length_le (by omega)]; exact h)
        exact this rfl
      go_wp2
      go_ret
      exact ⟨-1, rfl, fun h => absurd h HR.out, fun _ => rfl, HBB.out⟩

theorem index_yes {ps : List PairT} {x y : ByteArray} {v : Value} {w : World} (hv : IsPairs w v ps) (h : (x, y) ∈ ps) :
    Calls Try.prog 29 #[v, .agg #[.string x, .string y]] w fun e w' => ∃ n : Int, e = .returned (.int .i64 n) ∧ 0 ≤ n ∧ Below w.heap.size w w' :=
  (index_any ps (x, y) v w hv).mono fun _ _ ⟨n, h1, h2, _, h4⟩ => ⟨n, h1, h2 h, h4⟩
theorem index_no {ps : List PairT} {x y : ByteArray} {v : Value} {w : World} (hv : IsPairs w v ps) (h : (x, y) ∉ ps) :
    Calls Try.prog 29 #[v, .agg #[.string x, .string y]] w fun e w' => e = .returned (.int .i64 (-1)) ∧ Below w.heap.size w w' :=
  (index_any ps (x, y) v w hv).mono fun _ _ ⟨n, h1, _, h3, h4⟩ => ⟨by rw [h1, h3 h], h4⟩

set_option maxHeartbeats 400000 in
theorem contains_any (ps : List PairT) (x y : ByteArray) (v : Value) (w : World) (r : Bool) (hv : IsPairs w v ps) (hr : ((x, y) ∈ ps) ↔ r = true) :
    Calls Try.prog 26 #[v, .agg #[.string x, .string y]] w fun e w' => e = .returned (.bool r) ∧ Below w.heap.size w w' := by
  have HV : Hid (IsPairs w v ps) := hv
  clear hv
  cases r with
  | true =>
    have HR : Hid ((x, y) ∈ ps) := hr.2 rfl
    clear hr
    go_enter Try.func26, Try.ntmps26
    go_wp2_with fail
    refine (index_yes (HV.out.below ((Below.refl _ _).alloc (Nat.le_refl _) _)) HR.out).mono ?_
    rintro e w1 ⟨n, rfl, hn, hb⟩
    have HB : Hid (Below w.heap.size w w1) := ((Below.refl _ _).alloc (Nat.le_refl _) _).trans (hb.mono (by simp))
    clear hb
    go_wp2
    go_ret
    exact ⟨rfl, HB.out⟩
  | false =>
    have HR : Hid ((x, y) ∉ ps) := fun h => by simpa using hr.1 h
    clear hr
    go_enter Try.func26, Try.ntmps26
    go_wp2_with fail
    refine (index_no (HV.out.below ((Below.refl _ _).alloc (Nat.le_refl _) _)) HR.out).mono ?_
    rintro e w1 ⟨rfl, hb⟩
    have HB : Hid (Below w.heap.size w w1) := ((Below.refl _ _).alloc (Nat.le_refl _) _).trans (hb.mono (by simp))
    clear hb
    go_wp2
    go_ret
    exact ⟨rfl, HB.out⟩

end Go.Proofs.Ytgjancpogblakaa

/-
  Places of rows of numbers and of texts; the statements' own 'awake' of stage 4.
-/
import Derived.Test.YtcpajkhefhnmeaaTurnParts
namespace Go.Proofs.Ytcpajkhefhnmeaa
open Go.RowKit

theorem IsInts.at {w : World} {ao : Option Addr} {n cap : Nat} {zs : List Int} (h : IsInts w (.slice ao n cap) zs) (i : Nat) (hi : i < zs.length) :
    ∃ b off, ao = some ⟨b, off, none⟩ ∧ b < w.heap.size ∧ w.cell? ⟨b, off + i, none⟩ = some (.int .i64 (zs.getD i 0)) := by
  rcases h.2.2 with ⟨h0, _⟩ | ⟨_, b, off, c, e, hlt, hc⟩
  · rw [h0] at hi; simp at hi
  · simp only [Value.slice.injEq] at e
    exact ⟨b, off, e.1, hlt, hc i hi⟩

theorem IsRow.shape {w : World} {sz n : Nat} {v : Value} {cs : List Value} (h : IsRow sz w v n cs) : ∃ ao cap, v = .slice ao n cap := by
  rcases h.2.2 with ⟨h0, ao, cap, rfl, _⟩ | ⟨_, b, off, cap, rfl, _⟩
  · exact ⟨ao, cap, by rw [h0]⟩
  · exact ⟨_, cap, rfl⟩

theorem IsRow.strAt {w : World} {ao : Option Addr} {n cap : Nat} {ss : List ByteArray} (h : IsRow 1 w (.slice ao n cap) ss.length (ss.map Value.string)) (i : Nat) (hi : i < ss.length) :
    ∃ b off, ao = some ⟨b, off, none⟩ ∧ b < w.heap.size ∧ w.cell? ⟨b, off + i, none⟩ = some (.string (ss.getD i ByteArray.empty)) := by
  rcases h.2.2 with ⟨h0, _⟩ | ⟨_, b, off, c, e, hlt, hc⟩
  · omega
  · simp only [Value.slice.injEq] at e
    refine ⟨b, off, e.1, hlt, ?_⟩
    rw [hc i (by omega)]
    simp [hi]

theorem row_to (v : Value) (xs ys : List Int) (n : Int) (n₀ : Nat) (w : World) (hv : IsSeq Try.prog encI n₀ w v xs) (hn : n ≤ 1000000) (hbd : ∀ x ∈ xs, -9223372036854775808 ≤ x ∧ x ≤ 9223372036854775807) (hy : xs.take n.toNat = ys) :
    Calls Try.prog 8 #[v, .int .i64 n] w fun e w' => ∃ v', e = .returned v' ∧ IsInts w' v' ys ∧ Below w.heap.size w w' := by
  subst hy; exact row_any v xs n n₀ w hv hn hbd

theorem turnV_bd (n f : Int) (hn : n ≤ 9223372036854775807) : ∀ x ∈ turnV n f, -9223372036854775808 ≤ x ∧ x ≤ 9223372036854775807 := fun x hx => by have := turnV_in n f x hx; omega
theorem timesV_bd (f st to : Int) : ∀ x ∈ timesV f st to, -9223372036854775808 ≤ x ∧ x ≤ 9223372036854775807 := fun x hx => by have := timesV_in f st to x hx; omega

theorem awake_turn : (turnV 3 1).take (9 : Int).toNat = [1, 2, 0] := by decide
theorem awake_times : (timesV 5 10 30).take (9 : Int).toNat = [5, 15, 25] := by decide
theorem awake_parts : partsV { data := #[97, 44, 44, 98] } 44 = [mkS [97], mkS [], mkS [98]] := by rfl

set_option maxRecDepth 100000 in
set_option maxHeartbeats 1000000 in
theorem awake_any (w : World) :
    Calls Try.prog 7 #[] w fun e w' => e = .returned (.bool true) ∧ Below w.heap.size w w' := by
  go_enter Try.func7, Try.ntmps7
  go_wp2_with fail
  refine (turn_any 3 1 _ (by omega) (by omega) (by omega) (by omega)).mono ?_
  rintro e w1 ⟨v1, rfl, hq1, hb1⟩
  have HQ1 : Hid (IsSeq Try.prog encI w.heap.size w1 v1 (turnV 3 1)) := hq1
  have HB1 : Hid (Below w.heap.size w w1) := hb1
  clear hq1 hb1
  go_wp2_with fail
  refine (row_to v1 _ _ 9 _ _ HQ1.out (by omega) (turnV_bd 3 1 (by omega)) awake_turn).mono ?_
  rintro e w2 ⟨v2, rfl, hk2, hb2⟩
  have HK2 : Hid (IsInts w2 v2 [1, 2, 0]) := hk2
  have HB2 : Hid (Below w.heap.size w w2) := HB1.out.trans (hb2.mono HB1.out.size)
  clear hk2 hb2 HQ1
  go_wp2_with fail
  refine (parts_any { data := #[97, 44, 44, 98] } 44 _ (by decide) (by omega) (by omega)).mono ?_
  rintro e w3 ⟨v3, rfl, hk3, hb3⟩
  rw [awake_parts] at hk3
  have HK3 : Hid (IsRow 1 w3 v3 [mkS [97], mkS [], mkS [98]].length ([mkS [97], mkS [], mkS [98]].map Value.string)) := hk3
  have HB3 : Hid (Below w.heap.size w w3) := HB2.out.trans (hb3.mono HB2.out.size)
  have HK2' : Hid (IsInts w3 v2 [1, 2, 0]) := HK2.out.below hb3
  clear hk3 hb3 HK2
  go_wp2_with fail
  refine (times_any 5 10 30 _ (by omega) (by omega) (by omega) (by omega) (by omega) (by omega)).mono ?_
  rintro e w4 ⟨v4, rfl, hq4, hb4⟩
  have HQ4 : Hid (IsSeq Try.prog encI w3.heap.size w4 v4 (timesV 5 10 30)) := hq4
  have HB4 : Hid (Below w.heap.size w w4) := HB3.out.trans (hb4.mono HB3.out.size)
  have HK2'' : Hid (IsInts w4 v2 [1, 2, 0]) := HK2'.out.below hb4
  have HK3' : Hid (IsRow 1 w4 v3 [mkS [97], mkS [], mkS [98]].length ([mkS [97], mkS [], mkS [98]].map Value.string)) := HK3.out.below hb4
  clear hq4 hb4 HK2' HK3
  go_wp2_with fail
  refine (row_to v4 _ _ 9 _ _ HQ4.out (by omega) (timesV_bd 5 10 30) awake_times).mono ?_
  rintro e w5 ⟨v5, rfl, hk5, hb5⟩
  have HB5 : Hid (Below w.heap.size w w5) := HB4.out.trans (hb5.mono HB4.out.size)
  have k2 := HK2''.out.below hb5
  have k3 := HK3'.out.below hb5
  clear HK2'' HK3' hb5 HB4 HB3 HB2 HB1
  obtain ⟨ao, ac, rfl⟩ := k2.shape
  obtain ⟨bo, bc, rfl⟩ := k3.shape
  obtain ⟨co, cc, rfl⟩ := hk5.shape
  obtain ⟨b1, o1, rfl, hl1, g1⟩ := k2.at 0 (by simp)
  obtain ⟨_, _, e, _, g2⟩ := k2.at 2 (by simp)
  simp only [Option.some.injEq, Addr.mk.injEq, and_true] at e
  obtain ⟨rfl, rfl⟩ := e
  obtain ⟨b2, o2, rfl, hl2, g3⟩ := k3.strAt 1 (by simp)
  obtain ⟨_, _, e, _, g4⟩ := k3.strAt 2 (by simp)
  simp only [Option.some.injEq, Addr.mk.injEq, and_true] at e
  obtain ⟨rfl, rfl⟩ := e
  obtain ⟨b3, o3, rfl, hl3, g5⟩ := hk5.at 2 (by simp)
  simp at g1 g2 g3 g4 g5
  clear k2 k3 hk5
  have t1 : (mkS []).toList = [] := ByteArray.toList_eq _
  have t2 : (mkS [98]).toList = [98] := ByteArray.toList_eq _
  go_wp2
  go_ret
  exact ⟨rfl, HB5.out⟩

end Go.Proofs.Ytcpajkhefhnmeaa

/-
  The contract of package config's find.
-/
import Derived.Test.YtkninlahlgipoaaDoorConf2
import Derived.Test.YtkninlahlgipoaaDoorConfMath2
namespace Go.Proofs.YtkninlahlgipoaaDoor
open Go.RowKit

theorem find_at {s : ByteArray} (k : Nat) (hk : k < 23) (hn : ∀ j, j < k → (nameC j == s) = false) (hy : (nameC k == s) = true) : findC s = some k := by
  unfold findC
  rw [List.find?_eq_some_iff_getElem]
  refine ⟨hy, k, by simpa using hk, by simp, fun j hj => ?_⟩
  have := hn j hj
  simp [this]
theorem find_no {s : ByteArray} (hn : ∀ j, j < 23 → (nameC j == s) = false) : findC s = none := by
  unfold findC
  rw [List.find?_eq_none]
  intro j hj
  have := hn j (by simpa using hj)
  simp [this]

set_option maxRecDepth 100000 in
set_option maxHeartbeats 1000000 in
theorem find_any (s : ByteArray) (w : World) (htab : TabC w) :
    Calls Tryd.prog 30 #[.string s] w fun e w' => e = .returned (.tuple #[.int .i64 ((findC s).getD 0), .bool (findC s).isSome]) ∧ Below w.heap.size w w' := by
  obtain ⟨t, fr, hg⟩ := htab
  have HG : Hid (w.heap[0]? = some (.cells tabArr t fr)) := hg
  have HF : Hid (∀ k, k < 23 → (∀ j, j < k → (nameC j == s) = false) → (nameC k == s) = true → findC s = some k) := fun k h1 h2 h3 => find_at k h1 h2 h3
  have HNo : Hid ((∀ j, j < 23 → (nameC j == s) = false) → findC s = none) := find_no
  clear hg
  generalize findC s = R at HF HNo ⊢
  go_enter Tryd.func30, Tryd.ntmps30
  have HR : Hid (∀ k : Nat, k < 23 → ∀ W, (Instr.index 55 (.agg tabArr) (.int .i64 k)).run Tryd.prog W = .ok (rowA k) W) := run_row
  have hsz : (Tryd.prog.info? 55).map (·.size) = some tabArr.size := by kernel_rfl
  have HZ : Hid _ := hsz
  clear hsz
  generalize tabArr = TA at HG HR HZ
  go_wp2_with (refine wpList_load_row rfl 55 (.global 0) rfl 0 rfl t TA fr _ HG.out u_tab rfl HZ.out ?_)
  go_wp2
  go_loopw [7] (fun q wr => ∃ k : Nat, k ≤ 23 ∧ q = .int .i64 k ∧ (∀ j, j < k → (nameC j == s) = false) ∧ Below w.heap.size w wr) (fun q _ => 23 - (intOf q).toNat)
  case atStart => exact ⟨0, Nat.zero_le _, rfl, fun j h => by omega, Below.refl _ _⟩
  case round =>
    obtain ⟨k, hk, rfl, hd, hb⟩ := hrel
    have HD : Hid (∀ j, j < k → (nameC j == s) = false) := hd
    have HB : Hid (Below w.heap.size w wr) := hb
    clear hd hb
    by_cases hlt : k < 23
    · have hix := HR.out k hlt
      unfold rowA at hix
      have HFk : Hid ((nameC k == s) = true → R = some k) := fun h => HF.out k hlt HD.out h
      have HNk : Hid ((nameC k == s) = false → ∀ j, j < k + 1 → (nameC j == s) = false) := fun h j hj => by
        rcases Nat.lt_or_ge j k with h1 | h1
        · exact HD.out j h1
        · have e : j = k := by omega
          rw [e]; exact h
      have HE : Hid ((nameC k == s) = ((nameC k).toList == s.toList)) := beqB _ _
      generalize nameC k = nm at hix HFk HE HNk
      generalize (rowK k).1 = k1 at hix
      generalize (rowK k).2.1 = k2 at hix
      generalize (rowK k).2.2.1 = k3 at hix
      generalize mkS (rowK k).2.2.2 = k4 at hix
      by_cases h : (nm.toList == s.toList) = true
      · have e := HFk.out (by rw [HE.out]; exact h)
        subst e
        go_wp2
        go_ret2
        exact ⟨rfl, HB.out.alloc HB.out.size _⟩
      · have h' : (nm.toList == s.toList) = false := by simpa using h
        have HN2 : Hid (∀ j, j < k + 1 → (nameC j == s) = false) := HNk.out (by rw [HE.out]; exact h')
        clear h
        go_wp2
        go_roundw
        case rel => exact ⟨k + 1, by omega, by go_num, HN2.out, HB.out.alloc HB.out.size _⟩
        case measure => simp [intOf]; omega
    · have e := HNo.out (fun j hj => HD.out j (by omega))
      subst e
      go_wp2
      go_ret2
      exact ⟨rfl, HB.out⟩

end Go.Proofs.YtkninlahlgipoaaDoor

/-
  The plain mathematics of chapter 6, further: a text's parts are its lines. No program stands in it.
-/
import Derived.Test.YtmhbfcjlbhighabDoorConfMath3
namespace Go.Proofs.YtmhbfcjlbhighabDoor

theorem line_without {n : List Int} {z : ByteArray} (i : Nat) (hi : i < 23) (hf : fitsC n i = true) (hz : z.size = 0 ∨ nameOK z = true) : ∀ b ∈ lineC n z i, 32 ≤ b.toNat ∧ b.toNat ≤ 126 ∧ b.toNat ≠ 35 := by
  have h1 := (name_clean i hi).1
  have h2 := (val_clean i hi hf hz).1
  intro b hb
  unfold lineC at hb
  rcases List.mem_append.1 hb with h | h
  · have := h1.2 b h; omega
  · rcases List.mem_cons.1 h with rfl | h
    · decide
    · have := h2.2 b h; omega
/-- The parts of some of the lines. -/
theorem parts_some {n : List Int} {z : ByteArray} (hz : z.size = 0 ∨ nameOK z = true) (p : List Nat) (hp : ∀ i ∈ p, i < 23) (hf : ∀ i ∈ p, fitsC n i = true) (r : List UInt8) : goL 10 [] (someC n z p ++ r) = p.map (lineC n z) ++ goL 10 [] r := by
  have e : someC n z p = (p.map (lineC n z)).flatMap fun d => d ++ [10] := by unfold someC; rw [List.flatMap_map]
  rw [e]
  exact goL_lines 10 10 rfl _ _ fun d hd => by
    simp only [List.mem_map] at hd
    obtain ⟨i, hi, rfl⟩ := hd
    intro b hb
    have := line_without i (hp i hi) (hf i hi) hz b hb
    omega
theorem parts_text {c : Cfg} (h : mayC c = true) : partsV (mkS (textC c)) 10 = (List.range 23).map (fun i => mkS (lineC c.nums c.zone i)) ++ [ByteArray.empty] := by
  obtain ⟨h1, h2⟩ := may_parts h
  unfold partsV
  have e : (mkS (textC c)).data.toList = someC c.nums c.zone (List.range 23) ++ [] := by rw [textC_may h, List.append_nil]; unfold mkS; simp
  rw [e, parts_some h2 (List.range 23) (fun i hi => by simpa using hi) (fun i hi => h1 i (by simpa using hi)) [], List.map_append, List.map_map]
  rfl
theorem parts_at {c : Cfg} (h : mayC c = true) : (partsV (mkS (textC c)) 10).length = 24 ∧ ∀ i, i < 23 → (partsV (mkS (textC c)) 10).getD i ByteArray.empty = mkS (lineC c.nums c.zone i) := by
  rw [parts_text h]
  refine ⟨by simp, fun i hi => ?_⟩
  rw [List.getD_eq_getElem?_getD, List.getElem?_append_left (by simpa using hi)]
  simp [hi]
theorem rot_next (k i : Nat) (hi : i < 23) : (rotC k).take (i + 1) = (rotC k).take i ++ [(i + k) % 23] := by
  unfold rotC
  rw [List.take_succ_eq_append_getElem (by simpa using hi)]
  simp
theorem someC_snoc (n : List Int) (z : ByteArray) (p : List Nat) (i : Nat) : someC n z (p ++ [i]) = someC n z p ++ (lineC n z i ++ [10]) := by
  unfold someC; rw [List.flatMap_append]; simp

end Go.Proofs.YtmhbfcjlbhighabDoor

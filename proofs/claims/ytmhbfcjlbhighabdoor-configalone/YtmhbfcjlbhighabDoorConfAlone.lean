/-
  The plain mathematics of chapter 6, further: one line alone. No program stands in it.
-/
import Derived.Test.YtmhbfcjlbhighabDoorConfParts
namespace Go.Proofs.YtmhbfcjlbhighabDoor

theorem lineC_congr {n n' : List Int} {z z' : ByteArray} (i : Nat) (h1 : i ≠ 21 → n.getD i 0 = n'.getD i 0) (h2 : i = 21 → z = z') : lineC n z i = lineC n' z' i := by
  unfold lineC valW
  by_cases e : i = 21
  · rw [if_pos e, if_pos e, h2 e]
  · rw [if_neg e, if_neg e]
    by_cases e2 : i = 20
    · subst e2; rw [if_pos rfl, if_pos rfl, h1 (by omega)]
    · rw [if_neg e2, if_neg e2, h1 e]

/-- What one line alone says. -/
def aloneR (c : Cfg) (k : Nat) : Read := putC c.nums c.zone read0 k
def aloneC (c : Cfg) (k : Nat) : Cfg := ofNums (aloneR c k).n (aloneR c k).z
theorem alone_good {c : Cfg} (h : mayC c = true) (k : Nat) (hk : k < 23) : GoodR (aloneR c k) :=
  step_good good0 (step_line k hk ((may_parts h).1 k hk) (may_parts h).2 (seen0 k hk))
theorem alone_may {c : Cfg} (h : mayC c = true) (k : Nat) (hk : k < 23) : mayC (aloneC c k) = true := may_read (alone_good h k hk)
theorem alone_nums {c : Cfg} (h : mayC c = true) (k : Nat) (hk : k < 23) : (aloneC c k).nums = (aloneR c k).n := nums_of _ (alone_good h k hk).len (alone_good h k hk).fits

theorem parse_alone {c : Cfg} (h : mayC c = true) (k : Nat) (hk : k < 23) : parseV (mkS (lineC c.nums c.zone k)) = (aloneC c k, 0, 0) := by
  obtain ⟨hf, hz⟩ := may_parts h
  have hw := line_without k hk (hf k hk) hz
  have hs := line_short k hk (hf k hk) hz
  have e4 : (mkS (lineC c.nums c.zone k)).data.toList = lineC c.nums c.zone k := by unfold mkS; simp
  have e1 : partsV (mkS (lineC c.nums c.zone k)) 10 = [mkS (lineC c.nums c.zone k)] := by
    unfold partsV
    rw [e4, goL_none 10 _ [] (fun b hb => by have := hw b hb; omega)]
    simp
  have hsp := split_good (s := mkS (lineC c.nums c.zone k)) (by rw [mkS_data']; omega) (fun j hj => by
    rw [e1] at hj ⊢
    have : j = 0 := by simp at hj; exact hj
    subst this
    refine lineOK_end (by show (mkS _).size ≤ 200; rw [mkS_data']; omega) (fun b hb => ?_)
    have hb' : b ∈ lineC c.nums c.zone k := by rw [← e4]; exact hb
    have := hw b hb'
    unfold lineB
    simp only [decide_eq_true_eq]
    omega)
  have hwo : wordsOf (mkS (lineC c.nums c.zone k)) = pairC c.nums c.zone k := by
    have e : lineC c.nums c.zone k = wordsL (pairC c.nums c.zone k) := by unfold pairC lineC; rw [wordsL_two]
    rw [e]
    exact words_back (by simp [pairC]) (fun s hs => by
      simp only [pairC, List.mem_cons, List.not_mem_nil, or_false] at hs
      rcases hs with rfl | rfl
      · exact (name_clean k hk).1
      · exact (val_clean k hk (hf k hk) hz).1)
  rw [e1] at hsp
  have hl : linesOf 0 [mkS (lineC c.nums c.zone k)] = [(1, pairC c.nums c.zone k)] := by
    simp only [linesOf, hwo]
    simp [pairC]
  rw [hl] at hsp
  unfold parseV
  rw [hsp]
  simp only [if_true]
  rw [runC, step_line k hk (hf k hk) hz (seen0 k hk)]
  rfl

theorem alone_same {c : Cfg} (h : mayC c = true) (k : Nat) (hk : k < 23) : lineC (aloneC c k).nums (aloneC c k).zone k = lineC c.nums c.zone k := by
  rw [alone_nums h k hk]
  refine lineC_congr k (fun e => ?_) (fun e => ?_)
  · unfold aloneR putC
    have hl : k < read0.n.length := hk
    simp [hl, e]
  · show (aloneR c k).z = c.zone
    unfold aloneR putC
    simp [e]
theorem alone_other {c : Cfg} (h : mayC c = true) (k : Nat) (hk : k < 23) (i : Nat) (hi : i ≠ k) : lineC (aloneC c k).nums (aloneC c k).zone i = lineC defC.nums defC.zone i := by
  rw [alone_nums h k hk]
  refine lineC_congr i (fun _ => ?_) (fun e => ?_)
  · unfold aloneR putC
    rw [defC_nums]
    simp only [List.getD_eq_getElem?_getD]
    rw [List.getElem?_set_ne (fun e => hi e.symm)]
    rfl
  · show (aloneR c k).z = defC.zone
    unfold aloneR putC
    have : k ≠ 21 := fun e2 => hi (by rw [e, e2])
    simp only [if_neg this]
    rfl
theorem parts_last {c : Cfg} (h : mayC c = true) : (partsV (mkS (textC c)) 10).getD 23 ByteArray.empty = ByteArray.empty := by
  rw [parts_text h]; rfl
theorem def_may' : mayC defC = true := by decide +kernel
theorem alone_parts {c : Cfg} (h : mayC c = true) (k : Nat) (hk : k < 23) : (partsV (mkS (textC (aloneC c k))) 10).getD k ByteArray.empty = mkS (lineC c.nums c.zone k) ∧
    ∀ i, i < 24 → i ≠ k → (partsV (mkS (textC (aloneC c k))) 10).getD i ByteArray.empty = (partsV (mkS (textC defC)) 10).getD i ByteArray.empty := by
  have ha := alone_may h k hk
  refine ⟨?_, fun i hi hne => ?_⟩
  · rw [(parts_at ha).2 k hk, alone_same h k hk]
  · by_cases e : i = 23
    · subst e
      rw [parts_last ha, parts_last def_may']
    · rw [(parts_at ha).2 i (by omega), (parts_at def_may').2 i (by omega), alone_other h k hk i hne]

end Go.Proofs.YtmhbfcjlbhighabDoor

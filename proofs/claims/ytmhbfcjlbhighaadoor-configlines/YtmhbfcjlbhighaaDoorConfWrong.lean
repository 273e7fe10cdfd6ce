/-
  The plain mathematics of chapter 6, further: a line that has not just two words, whatever stands behind. No program stands in it.
-/
import Derived.Test.YtmhbfcjlbhighaaDoorConfParts
namespace Go.Proofs.YtmhbfcjlbhighaaDoor

theorem goL_mem (c : Int) (cur l : List UInt8) : ∀ d ∈ goL c cur l, ∀ b ∈ d, b ∈ cur ∨ (b ∈ l ∧ (b.toNat : Int) ≠ c) := by
  induction l generalizing cur with
  | nil => intro d hd b hb; simp only [goL, List.mem_singleton] at hd; subst hd; exact .inl hb
  | cons x r ih =>
    intro d hd b hb
    rw [goL] at hd
    split at hd
    · rcases List.mem_cons.1 hd with rfl | h
      · exact .inl hb
      · rcases ih [] d h b hb with h1 | ⟨h1, h2⟩
        · cases h1
        · exact .inr ⟨by simp [h1], h2⟩
    · rename_i hx
      rcases ih _ d hd b hb with h1 | ⟨h1, h2⟩
      · rcases List.mem_append.1 h1 with h3 | h3
        · exact .inl h3
        · rw [List.mem_singleton] at h3
          subst h3
          exact .inr ⟨by simp, hx⟩
      · exact .inr ⟨by simp [h1], h2⟩

/-- Words, a blank behind each. -/
def badL (bad : List ByteArray) : List UInt8 := bad.flatMap fun s => s.data.toList ++ [32]
theorem badL_bytes {bad : List ByteArray} (h : ∀ s ∈ bad, nameOK s = true) : ∀ b ∈ badL bad, 32 ≤ b.toNat ∧ b.toNat ≤ 126 ∧ b.toNat ≠ 35 := by
  intro b hb
  simp only [badL, List.mem_flatMap, List.mem_append, List.mem_singleton] at hb
  obtain ⟨s, hs, h1 | rfl⟩ := hb
  · have := (clean_name (h s hs)).1.2 b h1; omega
  · decide
theorem badL_length {bad : List ByteArray} (h : ∀ s ∈ bad, nameOK s = true) : (badL bad).length ≤ bad.length * 13 := by
  induction bad with
  | nil => simp [badL]
  | cons s r ih =>
    have h1 := (clean_name (h s (by simp))).2
    have h2 := ih (fun x hx => h x (by simp [hx]))
    have e : badL (s :: r) = (s.data.toList ++ [32]) ++ badL r := by simp [badL]
    have hl : s.data.toList.length = s.size := rfl
    rw [e, List.length_append, List.length_append, List.length_cons]
    simp only [List.length_cons, List.length_nil]
    omega
theorem words_bad {bad : List ByteArray} (h : ∀ s ∈ bad, nameOK s = true) : wordsOf (mkS (badL bad)) = bad := by
  unfold wordsOf
  have e1 : (mkS (badL bad)).data.toList = badL bad := by unfold mkS; simp
  rw [e1, cutH_all (fun b hb => (badL_bytes h b hb).2.2)]
  unfold partsV
  rw [e1]
  have e2 : badL bad = (bad.map fun s => s.data.toList).flatMap (fun d => d ++ [32]) ++ [] := by unfold badL; rw [List.flatMap_map]; simp
  rw [e2, goL_lines 32 32 rfl _ _ (fun d hd => by
    simp only [List.mem_map] at hd
    obtain ⟨s, hs, rfl⟩ := hd
    exact clean_without (clean_name (h s hs)).1 32 (.inl (by omega)))]
  have e3 : goL 32 [] [] = [[]] := rfl
  rw [e3, List.map_append, List.map_map, List.filter_append]
  have e4 : (bad.map (mkS ∘ fun s => s.data.toList)) = bad := by
    conv => rhs; rw [← List.map_id bad]
    apply List.map_congr_left
    intro s _
    exact mkS_data s
  rw [e4]
  have e5 : List.filter (fun s : ByteArray => decide (s.size ≠ 0)) bad = bad := by
    rw [List.filter_eq_self]
    intro s hs
    have := (clean_name (h s hs)).1.1
    rw [decide_eq_true_eq]
    omega
  rw [e5]
  simp [mkS]
  rfl

theorem line_words (n : List Int) (z : ByteArray) (i : Nat) : wordsL (pairC n z i) = lineC n z i := by unfold pairC lineC; rw [wordsL_two]

/-- A wrong line behind some of the lines. -/
theorem parse_wrong {c : Cfg} (h : mayC c = true) (k : Nat) (hk : k ≤ 23) (bad : List ByteArray) (hb : ∀ s ∈ bad, nameOK s = true) (hl : bad.length ≤ 6) (h0 : bad.length ≠ 0) (h2 : bad.length ≠ 2) (more : List UInt8) (hm : more.length ≤ 100)
    (hmb : ∀ b ∈ more, b.toNat = 10 ∨ (32 ≤ b.toNat ∧ b.toNat ≤ 126)) : parseV (mkS (someC c.nums c.zone (List.range k) ++ (badL bad ++ 10 :: more))) = (zeroC, ((k + 1 : Nat) : Int), 2) := by
  obtain ⟨hf, hz⟩ := may_parts h
  have hp : ∀ i ∈ List.range k, i < 23 := fun i hi => by have : i < k := by simpa using hi
                                                         omega
  have hbl := badL_length hb
  have hsl := someC_length hz (List.range k) hp (fun i hi => hf i (hp i hi))
  have e1 : partsV (mkS (someC c.nums c.zone (List.range k) ++ (badL bad ++ 10 :: more))) 10 = ((List.range k).map (pairC c.nums c.zone)).map (fun ws => mkS (wordsL ws)) ++ (mkS (badL bad) :: partsV (mkS more) 10) := by
    unfold partsV
    have e : (mkS (someC c.nums c.zone (List.range k) ++ (badL bad ++ 10 :: more))).data.toList = someC c.nums c.zone (List.range k) ++ (badL bad ++ 10 :: more) := by unfold mkS; simp
    have e' : (mkS more).data.toList = more := by unfold mkS; simp
    rw [e, e', parts_some hz (List.range k) hp (fun i hi => hf i (hp i hi)), goL_sep 10 (badL bad) more [] 10 (fun b hb' => by have := badL_bytes hb b hb'; omega) rfl, List.map_append, List.map_map, List.map_map]
    simp only [List.nil_append, List.map_cons]
    congr 1
    apply List.map_congr_left
    intro i _
    show mkS (lineC c.nums c.zone i) = mkS (wordsL (pairC c.nums c.zone i))
    rw [line_words]
  have hall : ∀ p ∈ partsV (mkS (someC c.nums c.zone (List.range k) ++ (badL bad ++ 10 :: more))) 10, lineOK p = true := by
    rw [e1]
    intro p hp'
    rcases List.mem_append.1 hp' with h1 | h1
    · simp only [List.mem_map] at h1
      obtain ⟨ws, ⟨i, hi, rfl⟩, rfl⟩ := h1
      rw [line_words]
      refine lineOK_end ?_ (fun b hb' => ?_)
      · rw [mkS_data']
        have := line_short i (hp i hi) (hf i (hp i hi)) hz
        omega
      · have e4 : (mkS (lineC c.nums c.zone i)).data.toList = lineC c.nums c.zone i := by unfold mkS; simp
        rw [e4] at hb'
        have := line_without i (hp i hi) (hf i (hp i hi)) hz b hb'
        unfold lineB
        simp only [decide_eq_true_eq]
        omega
    · rcases List.mem_cons.1 h1 with rfl | h1
      · refine lineOK_end (by rw [mkS_data']; omega) (fun b hb' => ?_)
        have e4 : (mkS (badL bad)).data.toList = badL bad := by unfold mkS; simp
        rw [e4] at hb'
        have := badL_bytes hb b hb'
        unfold lineB
        simp only [decide_eq_true_eq]
        omega
      · refine lineOK_end ?_ (fun b hb' => ?_)
        · have := parts_size (mkS more) 10 p h1
          rw [mkS_data'] at this
          omega
        · simp only [partsV, List.mem_map] at h1
          obtain ⟨d, hd, rfl⟩ := h1
          have e4 : (mkS d).data.toList = d := by unfold mkS; simp
          have e5 : (mkS more).data.toList = more := by unfold mkS; simp
          rw [e4] at hb'
          rw [e5] at hd
          rcases goL_mem 10 [] more d hd b hb' with h3 | ⟨h3, h4⟩
          · cases h3
          · have := hmb b h3
            unfold lineB
            simp only [decide_eq_true_eq]
            omega
  have hsp := split_good (s := mkS (someC c.nums c.zone (List.range k) ++ (badL bad ++ 10 :: more))) (by
      rw [mkS_data']
      simp only [List.length_append, List.length_cons]
      simp at hsl
      omega) (fun j hj => by
    have e : (partsV (mkS (someC c.nums c.zone (List.range k) ++ (badL bad ++ 10 :: more))) 10).getD j ByteArray.empty = (partsV (mkS (someC c.nums c.zone (List.range k) ++ (badL bad ++ 10 :: more))) 10)[j] := by simp [hj]
    rw [e]
    exact hall _ (List.getElem_mem hj))
  have hne : bad ≠ [] := fun e => h0 (by rw [e]; rfl)
  have hlen : (((List.range k).map (pairC c.nums c.zone)).map (fun ws => mkS (wordsL ws))).length = k := by simp
  rw [e1, linesOf_append, hlen, linesOf_rows 0 _ (fun ws hws => (rows_clean hz (List.range k) hp (fun i hi => hf i (hp i hi)) ws hws).1), linesOf, words_bad hb, if_neg hne] at hsp
  unfold parseV
  rw [hsp]
  simp only [if_true]
  rw [run_lines hz (List.range k) _ _ read0 (numberedL_words 0 _) hp List.nodup_range (fun i hi => hf i (hp i hi)) (by decide) (fun i hi => seen0 i (hp i hi))]
  have hno : ∀ r : Read, stepC r bad = none := fun r => by
    rw [stepC_words]
    have : wordsC bad = none := by
      unfold wordsC
      match bad, h2 with
      | [], _ => rfl
      | [_], _ => rfl
      | [_, _], h => simp at h
      | _ :: _ :: _ :: _, _ => rfl
    rw [this]
  rw [List.singleton_append, runC, hno, Nat.zero_add]

end Go.Proofs.YtmhbfcjlbhighaaDoor

/-
  The plain mathematics of chapter 5, further: what is joined is split as it was. No program stands in it.
-/
import Derived.Test.YtjjehjbejldgmaaDoorLineKit
namespace Go.Proofs.YtjjehjbejldgmaaDoor

/-- No byte c in it. -/
def Without (c : Int) (l : List UInt8) : Prop := ∀ b ∈ l, (b.toNat : Int) ≠ c

theorem goL_sep (c : Int) (d r cur : List UInt8) (b : UInt8) (hd : Without c d) (hb : (b.toNat : Int) = c) : goL c cur (d ++ b :: r) = (cur ++ d) :: goL c [] r := by
  induction d generalizing cur with
  | nil => rw [List.nil_append, goL, if_pos hb, List.append_nil]
  | cons x d ih =>
    rw [List.cons_append, goL, if_neg (hd x (by simp)), ih _ (fun y hy => hd y (by simp [hy]))]
    simp
theorem goL_none (c : Int) (d cur : List UInt8) (hd : Without c d) : goL c cur d = [cur ++ d] := by
  induction d generalizing cur with
  | nil => simp [goL]
  | cons x d ih =>
    rw [goL, if_neg (hd x (by simp)), ih _ (fun y hy => hd y (by simp [hy]))]
    simp
theorem goL_lines (c : Int) (b : UInt8) (hb : (b.toNat : Int) = c) (ls : List (List UInt8)) (r : List UInt8) (h : ∀ d ∈ ls, Without c d) : goL c [] (ls.flatMap (fun d => d ++ [b]) ++ r) = ls ++ goL c [] r := by
  induction ls with
  | nil => rfl
  | cons d ls ih =>
    have e : (List.flatMap (fun d => d ++ [b]) (d :: ls)) ++ r = d ++ b :: (List.flatMap (fun d => d ++ [b]) ls ++ r) := by simp
    rw [e, goL_sep c d _ [] b (h d (by simp)) hb, ih (fun x hx => h x (by simp [hx]))]
    simp
theorem goL_join (b : UInt8) (ws : List (List UInt8)) (hne : ws ≠ []) (h : ∀ d ∈ ws, Without (b.toNat : Int) d) : goL (b.toNat : Int) [] (joinL b ws) = ws := by
  cases ws with
  | nil => exact absurd rfl hne
  | cons p r =>
    clear hne
    induction r generalizing p with
    | nil => simp only [joinL, List.flatMap_nil, List.append_nil]; rw [goL_none _ _ _ (h p (by simp))]; rfl
    | cons q r ih =>
      have e : joinL b (p :: q :: r) = p ++ b :: joinL b (q :: r) := by simp [joinL]
      rw [e, goL_sep _ _ _ [] b (h p (by simp)) rfl, ih q (fun d hd => h d (by simp at hd ⊢; right; exact hd))]
      rfl

/-- A word that may stand in a line. -/
def Clean (s : ByteArray) : Prop := 0 < s.size ∧ ∀ b ∈ s.data.toList, 33 ≤ b.toNat ∧ b.toNat ≤ 126 ∧ b.toNat ≠ 35

theorem clean_name {s : ByteArray} (h : nameOK s = true) : Clean s ∧ s.size ≤ 12 := by
  unfold nameOK at h
  simp only [Bool.and_eq_true, decide_eq_true_eq, Bool.not_eq_true', decide_eq_false_iff_not] at h
  obtain ⟨⟨⟨h1, h2⟩, _⟩, h4⟩ := h
  refine ⟨⟨by omega, fun b hb => ?_⟩, h2⟩
  have := List.all_eq_true.1 h4 b hb
  unfold nameB at this
  simp only [decide_eq_true_eq] at this
  omega

theorem clean_without {s : ByteArray} (h : Clean s) (c : Int) (hc : c ≤ 32 ∨ c = 35) : Without c s.data.toList := fun b hb => by
  have := h.2 b hb
  omega

theorem wordsL_bytes {ws : List ByteArray} (h : ∀ s ∈ ws, Clean s) : ∀ b ∈ wordsL ws, 32 ≤ b.toNat ∧ b.toNat ≤ 126 ∧ b.toNat ≠ 35 := by
  intro b hb
  unfold wordsL at hb
  cases ws with
  | nil => simp [joinL] at hb
  | cons s r =>
    simp only [List.map_cons, joinL, List.mem_append, List.mem_flatMap, List.mem_map] at hb
    rcases hb with hb | ⟨_, ⟨q, hq, rfl⟩, hb⟩
    · have := (h s (by simp)).2 b hb; omega
    · rcases List.mem_cons.1 hb with rfl | hb
      · decide
      · have := (h q (by simp [hq])).2 b hb; omega

/-- The words of a line of clean words. -/
theorem words_back {ws : List ByteArray} (hne : ws ≠ []) (h : ∀ s ∈ ws, Clean s) : wordsOf (mkS (wordsL ws)) = ws := by
  unfold wordsOf
  have e1 : (mkS (wordsL ws)).data.toList = wordsL ws := by unfold mkS; simp
  rw [e1, cutH_all (fun b hb => (wordsL_bytes h b hb).2.2)]
  unfold partsV
  rw [e1]
  unfold wordsL
  have hj : goL 32 [] (joinL 32 (ws.map fun s => s.data.toList)) = ws.map fun s => s.data.toList := goL_join 32 _ (by simpa using hne) (fun d hd => by
    simp only [List.mem_map] at hd
    obtain ⟨s, hs, rfl⟩ := hd
    exact clean_without (h s hs) _ (.inl (by decide)))
  rw [hj, List.map_map, List.filter_eq_self.2]
  · conv => rhs; rw [← List.map_id ws]
    apply List.map_congr_left
    intro s _
    exact mkS_data s
  · intro x hx
    simp only [List.mem_map, Function.comp] at hx
    obtain ⟨s, hs, rfl⟩ := hx
    rw [mkS_data]
    have := (h s hs).1
    simp only [ne_eq, decide_not, Bool.not_eq_true', decide_eq_false_iff_not]
    omega

/-- Rows of words, numbered from i + 1 on. -/
def numberedL (i : Nat) : List (List ByteArray) → List LineT
  | [] => []
  | ws :: r => (((i + 1 : Nat) : Int), ws) :: numberedL (i + 1) r

theorem linesOf_rows (i : Nat) (rows : List (List ByteArray)) (h : ∀ ws ∈ rows, ws ≠ [] ∧ ∀ s ∈ ws, Clean s) : linesOf i (rows.map fun ws => mkS (wordsL ws)) = numberedL i rows := by
  induction rows generalizing i with
  | nil => rfl
  | cons ws r ih =>
    obtain ⟨h1, h2⟩ := h ws (by simp)
    rw [List.map_cons, linesOf, words_back h1 h2, if_neg h1, ih (i + 1) (fun x hx => h x (by simp [hx]))]
    rfl

theorem textL_numbered (i : Nat) (rows : List (List ByteArray)) : textL (numberedL i rows) = (rows.map wordsL).flatMap fun d => d ++ [10] := by
  induction rows generalizing i with
  | nil => rfl
  | cons ws r ih =>
    have e : textL (numberedL i (ws :: r)) = (wordsL ws ++ [10]) ++ textL (numberedL (i + 1) r) := by simp [textL, numberedL]
    rw [e, ih]
    simp

/-- What is joined is split as it was; behind it may stand a rest without line feeds that has no words. -/
theorem split_back (rows : List (List ByteArray)) (rest : List UInt8) (h : ∀ ws ∈ rows, (ws ≠ [] ∧ ∀ s ∈ ws, Clean s) ∧ (wordsL ws).length ≤ 200) (hr : Without 10 rest) (hro : lineOK (mkS rest) = true) (hrw : wordsOf (mkS rest) = [])
    (hsz : (textL (numberedL 0 rows) ++ rest).length ≤ 4000) : splitV (mkS (textL (numberedL 0 rows) ++ rest)) = (numberedL 0 rows, 0, 0) := by
  have e1 : partsV (mkS (textL (numberedL 0 rows) ++ rest)) 10 = (rows.map fun ws => mkS (wordsL ws)) ++ [mkS rest] := by
    unfold partsV
    have e : (mkS (textL (numberedL 0 rows) ++ rest)).data.toList = textL (numberedL 0 rows) ++ rest := by unfold mkS; simp
    rw [e, textL_numbered, goL_lines 10 10 rfl _ _ (fun d hd => by
      simp only [List.mem_map] at hd
      obtain ⟨ws, hws, rfl⟩ := hd
      intro b hb
      have := wordsL_bytes (h ws hws).1.2 b hb
      omega), goL_none 10 rest [] hr]
    simp
  have e2 := split_good (s := mkS (textL (numberedL 0 rows) ++ rest)) (by rw [mkS_data']; omega) (fun j hj => by
    rw [e1] at hj ⊢
    rcases Nat.lt_or_ge j (rows.map fun ws => mkS (wordsL ws)).length with h1 | h1
    · rw [getD_snoc_left _ _ _ _ h1]
      have h2 : j < rows.length := by simpa using h1
      have e3 : (rows.map fun ws => mkS (wordsL ws)).getD j ByteArray.empty = mkS (wordsL rows[j]) := by simp [h2]
      rw [e3]
      have hm := h rows[j] (List.getElem_mem h2)
      refine lineOK_end (by rw [mkS_data']; exact hm.2) (fun b hb => ?_)
      have e4 : (mkS (wordsL rows[j])).data.toList = wordsL rows[j] := by unfold mkS; simp
      rw [e4] at hb
      have := wordsL_bytes hm.1.2 b hb
      unfold lineB
      simp only [decide_eq_true_eq]
      omega
    · have : j = (rows.map fun ws => mkS (wordsL ws)).length := by simp at hj h1 ⊢; omega
      rw [this, getD_snoc_last]; exact hro)
  rw [e2, e1, linesOf_append, linesOf_rows 0 rows (fun ws hws => (h ws hws).1)]
  simp [linesOf, hrw]

end Go.Proofs.YtjjehjbejldgmaaDoor

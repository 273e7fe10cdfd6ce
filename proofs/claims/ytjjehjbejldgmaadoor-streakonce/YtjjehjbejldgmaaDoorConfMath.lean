/-
  The plain mathematics of chapter 6, further: what is written is read as it was. No program stands in it.
-/
import Derived.Test.YtjjehjbejldgmaaDoorLinesMath
import Derived.Test.YtjjehjbejldgmaaDoorConfPlain
import Derived.Test.YtjjehjbejldgmaaDoorDigPlain
namespace Go.Proofs.YtjjehjbejldgmaaDoor

theorem dec_digL (n : Nat) : Go.Lib.decDigits n = digL n := by
  induction n using Nat.strongRecOn with
  | _ n ih =>
    by_cases h : n < 10
    · rw [Go.Lib.decDigits, dif_pos h, digL_small h]; unfold dig; rw [Nat.mod_eq_of_lt h]
    · rw [Go.Lib.decDigits, dif_neg h, ih (n / 10) (by omega), digL_big h]; rfl
theorem digC_nat (n : Int) (h0 : 0 ≤ n) : digC n = mkS (digL n.toNat) := by
  unfold digC Go.Lib.itoa
  rw [if_neg (by omega), dec_digL]
theorem digC_read (n : Int) (h0 : 0 ≤ n) (h1 : n ≤ 1000000) : numOK (digC n) = true ∧ numV (digC n) = n := by
  rw [digC_nat n h0]
  have := num_digits n.toNat (by omega)
  exact ⟨this.1, by rw [this.2]; omega⟩
theorem digC_clean (n : Int) (h0 : 0 ≤ n) (h1 : n ≤ 1000000) : Clean (digC n) ∧ (digC n).size ≤ 12 := by
  rw [digC_nat n h0]
  refine ⟨⟨digL_pos _, fun b hb => ?_⟩, ?_⟩
  · rw [mkS_list] at hb
    have := digL_digits _ b hb
    unfold isDig at this
    simp only [decide_eq_true_eq] at this
    omega
  · have := digL_len n.toNat 7 (by omega) (by omega)
    show (digL n.toNat).length ≤ 12
    omega

instance (s : ByteArray) : Decidable (Clean s) := by unfold Clean; infer_instance
theorem name_clean (i : Nat) (hi : i < 23) : Clean (nameC i) ∧ (nameC i).size ≤ 12 := by
  have h : ∀ k : Fin 23, Clean (nameC k.1) ∧ (nameC k.1).size ≤ 12 := by decide +kernel
  exact h ⟨i, hi⟩
theorem bounds_tab (i : Nat) (hi : i < 23) : 0 ≤ lowC i ∧ highC i ≤ 10000 := by
  have h : ∀ k : Fin 23, 0 ≤ lowC k.1 ∧ highC k.1 ≤ 10000 := by decide +kernel
  exact h ⟨i, hi⟩
theorem find_name (i : Nat) (hi : i < 23) : findC (nameC i) = some i := by
  have h : ∀ k : Fin 23, findC (nameC k.1) = some k.1 := by decide +kernel
  exact h ⟨i, hi⟩

theorem fits_bounds {n : List Int} {i : Nat} (h : fitsC n i = true) : lowC i ≤ n.getD i 0 ∧ n.getD i 0 ≤ highC i := of_decide_eq_true h
theorem empty_of_size {z : ByteArray} (h : z.size = 0) : z = ByteArray.empty := by
  apply ByteArray.ext
  exact Array.eq_empty_of_size_eq_zero h

theorem val_clean {n : List Int} {z : ByteArray} (i : Nat) (hi : i < 23) (hf : fitsC n i = true) (hz : z.size = 0 ∨ nameOK z = true) : Clean (valW n z i) ∧ (valW n z i).size ≤ 12 := by
  have hb := fits_bounds hf
  unfold valW
  split
  · split
    · decide
    · rcases hz with h | h
      · contradiction
      · exact clean_name h
  · split
    · rename_i h20
      subst h20
      have e1 : lowC 20 = 1 := rfl
      have e2 : highC 20 = 3 := rfl
      rw [e1, e2] at hb
      have hc : (n.getD 20 0 - 1).toNat = 0 ∨ (n.getD 20 0 - 1).toNat = 1 ∨ (n.getD 20 0 - 1).toNat = 2 := by omega
      rcases hc with e | e | e <;> rw [e] <;> decide
    · split
      · rename_i h15
        have e12 : lowC i = 0 ∧ highC i = 1 := by rcases h15 with rfl | rfl <;> exact ⟨rfl, rfl⟩
        rw [e12.1, e12.2] at hb
        have hc : (n.getD i 0).toNat = 0 ∨ (n.getD i 0).toNat = 1 := by omega
        rcases hc with e | e <;> rw [e] <;> decide
      · have := bounds_tab i hi
        exact digC_clean _ (by omega) (by omega)
theorem read_val {n : List Int} {z : ByteArray} (i : Nat) (hi : i < 23) (hf : fitsC n i = true) (hz : z.size = 0 ∨ nameOK z = true) :
    readC i (valW n z i) = some (if i = 21 then 0 else n.getD i 0, if i = 21 then z else ByteArray.empty) := by
  have hb := fits_bounds hf
  by_cases h21 : i = 21
  · subst h21
    unfold valW readC
    simp only [if_true]
    by_cases h0 : z.size = 0
    · rw [if_pos h0, if_pos rfl, empty_of_size h0]
    · have hn : nameOK z = true := hz.resolve_left h0
      rw [if_neg h0, if_neg ?_, if_pos hn]
      intro e
      rw [e] at hn
      exact absurd hn (by decide)
  · unfold valW readC
    simp only [if_neg h21]
    by_cases h20 : i = 20
    · subst h20
      simp only [if_true]
      have e1 : lowC 20 = 1 := rfl
      have e2 : highC 20 = 3 := rfl
      rw [e1, e2] at hb
      have hc : n.getD 20 0 = 1 ∨ n.getD 20 0 = 2 ∨ n.getD 20 0 = 3 := by omega
      rcases hc with e | e | e <;> rw [e] <;> decide
    · simp only [if_neg h20]
      by_cases h15 : i = 15 ∨ i = 22
      · simp only [if_pos h15]
        have e12 : lowC i = 0 ∧ highC i = 1 := by rcases h15 with rfl | rfl <;> exact ⟨rfl, rfl⟩
        rw [e12.1, e12.2] at hb
        have hc : n.getD i 0 = 0 ∨ n.getD i 0 = 1 := by omega
        rcases hc with e | e <;> rw [e] <;> decide
      · simp only [if_neg h15]
        have h3 := bounds_tab i hi
        obtain ⟨r1, r2⟩ := digC_read (n.getD i 0) (by omega) (by omega)
        rw [r1, r2, Bool.true_and, if_pos (decide_eq_true hb)]

/-- One name and its value, read. -/
def putC (n : List Int) (z : ByteArray) (r : Read) (i : Nat) : Read := ⟨r.n.set i (if i = 21 then 0 else n.getD i 0), if i = 21 then z else r.z, r.seen.set i true⟩
def pairC (n : List Int) (z : ByteArray) (i : Nat) : List ByteArray := [nameC i, valW n z i]
theorem step_line {r : Read} {n : List Int} {z : ByteArray} (i : Nat) (hi : i < 23) (hf : fitsC n i = true) (hz : z.size = 0 ∨ nameOK z = true) (hs : r.seen.getD i false = false) : stepC r (pairC n z i) = some (putC n z r i) := by
  unfold stepC pairC putC
  simp only [find_name i hi, hs, read_val i hi hf hz]
  by_cases h : i = 21
  · simp [h]
  · simp [h]
theorem step_seen {r : Read} {n : List Int} {z : ByteArray} (i : Nat) (hi : i < 23) (hs : r.seen.getD i false = true) : stepC r (pairC n z i) = none := by
  unfold stepC pairC
  simp only [find_name i hi, hs, if_true]

def putAll (n : List Int) (z : ByteArray) (r : Read) (p : List Nat) : Read := p.foldl (putC n z) r
theorem put_seen (n : List Int) (z : ByteArray) (r : Read) (i j : Nat) (hi : i < r.seen.length) : (putC n z r i).seen.getD j false = (decide (i = j) || r.seen.getD j false) := by
  unfold putC
  simp only [List.getD_eq_getElem?_getD, List.getElem?_set]
  by_cases h : i = j
  · subst h; simp [hi]
  · simp [h]
theorem putAll_seen (n : List Int) (z : ByteArray) (p : List Nat) (r : Read) (hl : 23 ≤ r.seen.length) (hp : ∀ i ∈ p, i < 23) (j : Nat) : (putAll n z r p).seen.getD j false = (decide (j ∈ p) || r.seen.getD j false) ∧ (putAll n z r p).seen.length = r.seen.length := by
  induction p generalizing r with
  | nil => exact ⟨by simp [putAll], rfl⟩
  | cons i p ih =>
    have hi := hp i (by simp)
    have e : putAll n z r (i :: p) = putAll n z (putC n z r i) p := rfl
    have hl2 : (putC n z r i).seen.length = r.seen.length := by unfold putC; simp
    obtain ⟨h1, h2⟩ := ih (putC n z r i) (by omega) (fun k hk => hp k (by simp [hk]))
    rw [e]
    refine ⟨?_, by omega⟩
    rw [h1, put_seen n z r i j (by omega)]
    by_cases h : i = j
    · subst h; simp
    · have : ¬ j = i := fun e => h e.symm
      simp [h, this]
theorem putAll_n (n : List Int) (z : ByteArray) (p : List Nat) (r : Read) (hl : r.n.length = 23) (hp : ∀ i ∈ p, i < 23) (j : Nat) : (putAll n z r p).n.getD j 0 = (if j ∈ p then (if j = 21 then 0 else n.getD j 0) else r.n.getD j 0) ∧ (putAll n z r p).n.length = 23 := by
  induction p generalizing r with
  | nil => exact ⟨by simp [putAll], hl⟩
  | cons i p ih =>
    have hi := hp i (by simp)
    have e : putAll n z r (i :: p) = putAll n z (putC n z r i) p := rfl
    have hl2 : (putC n z r i).n.length = 23 := by unfold putC; simp [hl]
    obtain ⟨h1, h2⟩ := ih (putC n z r i) hl2 (fun k hk => hp k (by simp [hk]))
    rw [e]
    refine ⟨?_, h2⟩
    rw [h1]
    by_cases hjp : j ∈ p
    · simp [hjp]
    · rw [if_neg hjp]
      unfold putC
      simp only [List.getD_eq_getElem?_getD, List.getElem?_set]
      by_cases h : i = j
      · subst h
        have hlt : i < r.n.length := by omega
        simp [hlt]
      · have : ¬ j = i := fun e => h e.symm
        simp [h, this, hjp]
theorem putAll_z (n : List Int) (z : ByteArray) (p : List Nat) (r : Read) : (putAll n z r p).z = if 21 ∈ p then z else r.z := by
  induction p generalizing r with
  | nil => simp [putAll]
  | cons i p ih =>
    have e : putAll n z r (i :: p) = putAll n z (putC n z r i) p := rfl
    rw [e, ih]
    unfold putC
    by_cases h : 21 ∈ p
    · simp [h]
    · by_cases h2 : i = 21
      · subst h2; simp
      · have : ¬ 21 = i := fun e => h2 e.symm
        simp [h, h2, this]

/-- Lines of different names, one by one. -/
theorem run_lines {n : List Int} {z : ByteArray} (hz : z.size = 0 ∨ nameOK z = true) (p : List Nat) (L rest : List (Int × List ByteArray)) (r : Read) (hL : L.map (·.2) = p.map (pairC n z)) (hp : ∀ i ∈ p, i < 23) (hd : p.Nodup) (hf : ∀ i ∈ p, fitsC n i = true)
    (hl : 23 ≤ r.seen.length) (hs : ∀ i ∈ p, r.seen.getD i false = false) : runC r (L ++ rest) = runC (putAll n z r p) rest := by
  induction p generalizing L r with
  | nil =>
    have : L = [] := by simpa using hL
    subst this
    rfl
  | cons i p ih =>
    cases L with
    | nil => simp at hL
    | cons l L =>
      simp only [List.map_cons, List.cons.injEq] at hL
      rw [List.cons_append, runC, hL.1, step_line i (hp i (by simp)) (hf i (by simp)) hz (hs i (by simp))]
      simp only
      have hd2 := List.nodup_cons.1 hd
      rw [ih L (putC n z r i) hL.2 (fun k hk => hp k (by simp [hk])) hd2.2 (fun k hk => hf k (by simp [hk])) (by unfold putC; simpa using hl) (fun k hk => ?_)]
      · rfl
      · rw [put_seen n z r i k (by have := hp i (by simp); omega), hs k (by simp [hk])]
        have : i ≠ k := fun e => hd2.1 (e ▸ hk)
        simp [this]

theorem numberedL_words (i : Nat) (rows : List (List ByteArray)) : (numberedL i rows).map (·.2) = rows := by
  induction rows generalizing i with
  | nil => rfl
  | cons x r ih => rw [numberedL, List.map_cons, ih]

theorem may_parts {c : Cfg} (h : mayC c = true) : (∀ i, i < 23 → fitsC c.nums i = true) ∧ (c.zone.size = 0 ∨ nameOK c.zone = true) := by
  unfold mayC at h
  simp only [Bool.and_eq_true, List.all_eq_true, List.mem_range, Bool.or_eq_true, decide_eq_true_eq] at h
  exact h
theorem may_of {c : Cfg} (h1 : ∀ i, i < 23 → fitsC c.nums i = true) (h2 : c.zone.size = 0 ∨ nameOK c.zone = true) : mayC c = true := by
  unfold mayC
  simp only [Bool.and_eq_true, List.all_eq_true, List.mem_range, Bool.or_eq_true, decide_eq_true_eq]
  exact ⟨h1, h2⟩
theorem ofNums_nums (c : Cfg) : ofNums c.nums c.zone = c := by
  obtain ⟨_, _, _, _, _, _, _, _, _, _, _, _, _, _, _, one, _, _, _, _, _, _, fb⟩ := c
  cases one <;> cases fb <;> rfl
theorem nums_ext {a b : List Int} (ha : a.length = 23) (hb : b.length = 23) (h : ∀ i, i < 23 → a.getD i 0 = b.getD i 0) : a = b := by
  apply List.ext_getElem (by omega)
  intro i h1 h2
  have := h i (by omega)
  simpa [List.getD_eq_getElem?_getD, List.getElem?_eq_getElem h1, List.getElem?_eq_getElem h2] using this
theorem nums_21 (c : Cfg) : c.nums.getD 21 0 = 0 := rfl

/-- All the names, in whatever order: the configuration. -/
theorem putAll_whole (c : Cfg) (p : List Nat) (hp : ∀ i ∈ p, i < 23) (hall : ∀ i, i < 23 → i ∈ p) : (putAll c.nums c.zone read0 p).n = c.nums ∧ (putAll c.nums c.zone read0 p).z = c.zone := by
  refine ⟨nums_ext (putAll_n _ _ p read0 rfl hp 0).2 rfl fun i hi => ?_, ?_⟩
  · rw [(putAll_n _ _ p read0 rfl hp i).1, if_pos (hall i hi)]
    split
    · rename_i h; rw [h]; exact (nums_21 c).symm
    · rfl
  · rw [putAll_z, if_pos (hall 21 (by omega))]

theorem wordsL_two (a b : ByteArray) : wordsL [a, b] = a.data.toList ++ 32 :: b.data.toList := by unfold wordsL; simp [joinL]
/-- The text of some of the lines. -/
def someC (n : List Int) (z : ByteArray) (p : List Nat) : List UInt8 := p.flatMap fun i => lineC n z i ++ [10]
theorem someC_text (n : List Int) (z : ByteArray) (p : List Nat) : someC n z p = textL (numberedL 0 (p.map (pairC n z))) := by
  rw [textL_numbered, List.map_map]
  unfold someC
  rw [List.flatMap_map]
  congr 1
  funext i
  simp only [Function.comp, pairC, wordsL_two, lineC]
theorem line_short {n : List Int} {z : ByteArray} (i : Nat) (hi : i < 23) (hf : fitsC n i = true) (hz : z.size = 0 ∨ nameOK z = true) : (lineC n z i).length ≤ 25 := by
  have h1 : (nameC i).data.toList.length ≤ 12 := (name_clean i hi).2
  have h2 : (valW n z i).data.toList.length ≤ 12 := (val_clean i hi hf hz).2
  unfold lineC
  rw [List.length_append, List.length_cons]
  omega
theorem someC_length {n : List Int} {z : ByteArray} (hz : z.size = 0 ∨ nameOK z = true) (p : List Nat) (hp : ∀ i ∈ p, i < 23) (hf : ∀ i ∈ p, fitsC n i = true) : (someC n z p).length ≤ p.length * 26 := by
  induction p with
  | nil => simp [someC]
  | cons i p ih =>
    have e : someC n z (i :: p) = (lineC n z i ++ [10]) ++ someC n z p := by simp [someC]
    have h1 := ih (fun k hk => hp k (by simp [hk])) (fun k hk => hf k (by simp [hk]))
    have h2 := line_short i (hp i (by simp)) (hf i (by simp)) hz
    rw [e]
    simp only [List.length_append, List.length_cons, List.length_nil]
    omega
theorem rows_clean {n : List Int} {z : ByteArray} (hz : z.size = 0 ∨ nameOK z = true) (p : List Nat) (hp : ∀ i ∈ p, i < 23) (hf : ∀ i ∈ p, fitsC n i = true) : ∀ ws ∈ p.map (pairC n z), (ws ≠ [] ∧ ∀ s ∈ ws, Clean s) ∧ (wordsL ws).length ≤ 200 := by
  intro ws hws
  simp only [List.mem_map] at hws
  obtain ⟨i, hi, rfl⟩ := hws
  have h1 := name_clean i (hp i hi)
  have h2 := val_clean i (hp i hi) (hf i hi) hz
  refine ⟨⟨by simp [pairC], fun s hs => ?_⟩, ?_⟩
  · simp only [pairC, List.mem_cons, List.not_mem_nil, or_false] at hs
    rcases hs with rfl | rfl
    · exact h1.1
    · exact h2.1
  · have := line_short i (hp i hi) (hf i hi) hz
    unfold pairC
    rw [wordsL_two]
    unfold lineC at this
    omega
theorem split_some {n : List Int} {z : ByteArray} (hz : z.size = 0 ∨ nameOK z = true) (p : List Nat) (hp : ∀ i ∈ p, i < 23) (hf : ∀ i ∈ p, fitsC n i = true) (hl : p.length ≤ 100) : splitV (mkS (someC n z p)) = (numberedL 0 (p.map (pairC n z)), 0, 0) := by
  have h1 := someC_length hz p hp hf
  have := split_back (p.map (pairC n z)) [] (rows_clean hz p hp hf) (fun b hb => by simp at hb) (by decide) (by decide) (by rw [List.append_nil, ← someC_text]; omega)
  rw [List.append_nil, ← someC_text] at this
  exact this
theorem parse_some {n : List Int} {z : ByteArray} (hz : z.size = 0 ∨ nameOK z = true) (p : List Nat) (hp : ∀ i ∈ p, i < 23) (hf : ∀ i ∈ p, fitsC n i = true) (hd : p.Nodup) (hl : p.length ≤ 100) : parseV (mkS (someC n z p)) = (ofNums (putAll n z read0 p).n (putAll n z read0 p).z, 0, 0) := by
  unfold parseV
  rw [split_some hz p hp hf hl]
  simp only [if_true]
  have := run_lines hz p (numberedL 0 (p.map (pairC n z))) [] read0 (numberedL_words 0 _) hp hd hf (by decide) (fun i hi => by
    have h := hp i hi
    have h2 : ∀ k : Fin 23, read0.seen.getD k.1 false = false := by decide
    exact h2 ⟨i, h⟩)
  rw [List.append_nil] at this
  rw [this]
  rfl

theorem textC_may {c : Cfg} (h : mayC c = true) : textC c = someC c.nums c.zone (List.range 23) := by unfold textC someC; rw [if_pos h]
/-- What is written is read as it was. -/
theorem parse_text {c : Cfg} (h : mayC c = true) : parseV (mkS (textC c)) = (c, 0, 0) := by
  obtain ⟨h1, h2⟩ := may_parts h
  rw [textC_may h, parse_some h2 _ (fun i hi => by simpa using hi) (fun i hi => h1 i (by simpa using hi)) List.nodup_range (by simp)]
  obtain ⟨e1, e2⟩ := putAll_whole c (List.range 23) (fun i hi => by simpa using hi) (fun i hi => by simpa using hi)
  rw [e1, e2, ofNums_nums]
theorem text_inj {c d : Cfg} (hc : mayC c = true) (hd : mayC d = true) : mkS (textC c) = mkS (textC d) ↔ c = d := by
  constructor
  · intro e
    have h1 := parse_text hc
    rw [e, parse_text hd] at h1
    exact (Prod.ext_iff.1 h1).1.symm
  · rintro rfl; rfl

end Go.Proofs.YtjjehjbejldgmaaDoor

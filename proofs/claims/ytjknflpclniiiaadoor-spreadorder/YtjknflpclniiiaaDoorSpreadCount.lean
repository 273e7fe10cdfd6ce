/-
  How many are bad, and in which order: of those of enough requests alone; a greater factor tells no more. No program stands in it.
-/
import Derived.Test.YtjknflpclniiiaaDoorBase
namespace Go.Proofs.YtjknflpclniiiaaDoor

theorem badL_nil {c : Cfg} {L : List Rd} (h : mayC c = false ∨ mayRd L = false) : badL c L = [] := by
  unfold badL
  rcases h with h | h <;> rw [h] <;> simp
theorem badL_is {c : Cfg} {L : List Rd} (h1 : mayC c = true) (h2 : mayRd L = true) : badL c L = (badK c L).map (·.2) := by
  unfold badL
  rw [h1, h2]; rfl
theorem keysB_count (H : List Rd) (F : List Bool) (p : Int) (k : Nat) : (keysB H F p k).length = (List.range k).countP fun i => F.getD i false || failK (H.getD i noRd).b p := by
  unfold keysB
  rw [List.length_filterMap_eq_countP]
  congr 1
  funext i
  unfold keyB
  by_cases h : (F.getD i false || failK (H.getD i noRd).b p) = true
  · rw [if_pos h, h]; rfl
  · rw [if_neg h, Bool.eq_false_iff.2 h]; rfl
theorem keysB_mono (H : List Rd) {F G : List Bool} (p : Int) (k : Nat) (h : ∀ i, i < k → F.getD i false = true → G.getD i false = true) : (keysB H F p k).length ≤ (keysB H G p k).length := by
  rw [keysB_count, keysB_count]
  refine List.countP_mono_left fun i hi h1 => ?_
  rw [List.mem_range] at hi
  rw [Bool.or_eq_true] at h1 ⊢
  exact h1.imp (h i hi) id
theorem keysB_least (H : List Rd) (F : List Bool) (p : Int) : H.countP (fun x => failK x.b p) ≤ (keysB H F p H.length).length := by
  rw [keysB_count, ← count_range H noRd]
  refine List.countP_mono_left fun i _ h1 => ?_
  rw [Bool.or_eq_true]
  exact .inr h1
theorem keysB_none (H : List Rd) (n : Nat) (p : Int) : (keysB H (List.replicate n false) p H.length).length = H.countP (fun x => failK x.b p) := by
  rw [keysB_count, ← count_range H noRd]
  congr 1
  funext i
  have : (List.replicate n false).getD i false = false := by
    rw [List.getD_eq_getElem?_getD, List.getElem?_replicate]; split <;> rfl
  rw [this, Bool.false_or]
theorem badK_length (c : Cfg) (L : List Rd) : (badK c L).length = (keysB (enL L c.f10) (farOf (enL L c.f10) c.f9 c.f11) c.f12 (enL L c.f10).length).length := sortV_length _
/-- All that fail are told, of those of enough requests alone; where no spread is asked for, or there are too few, no others. -/
theorem bad_count {c : Cfg} {L : List Rd} (h1 : mayC c = true) (h2 : mayRd L = true) :
    (enL L c.f10).countP (fun x => failK x.b c.f12) ≤ (badL c L).length ∧ (badL c L).length ≤ (enL L c.f10).length ∧ ((c.f9 ≤ ((enL L c.f10).length : Int) ∧ 0 < c.f11) ∨ (badL c L).length = (enL L c.f10).countP fun x => failK x.b c.f12) := by
  rw [badL_is h1 h2, List.length_map, badK_length]
  refine ⟨keysB_least _ _ _, keysB_length _ _ _ _, ?_⟩
  by_cases h : c.f11 = 0 ∨ ((enL L c.f10).length : Int) < c.f9
  · right
    unfold farOf
    rw [if_pos h]
    exact keysB_none _ _ _
  · left
    have h11 : 0 ≤ c.f11 ∧ c.f11 ≤ 10000 := of_decide_eq_true ((may_parts h1).1 11 (by decide))
    omega
theorem bad_nobody {c : Cfg} {L : List Rd} (k : Nat) (hk : k < L.length) (h : mayBk (L.getD k noRd).b = false) : badL c L = [] := by
  refine badL_nil (.inr ?_)
  rw [Bool.eq_false_iff]
  intro h2
  have := ((mayRd_iff L).1 h2).2.1 _ (getD_mem noRd hk)
  rw [h] at this
  cases this
theorem enL_count (L : List Rd) (n p : Int) (k : Nat) (h : k < L.length) : (enL (L.take (k + 1)) n).length = (enL (L.take k) n).length + (if enoughK (L.getD k noRd).b n = true then 1 else 0) ∧
    (enL (L.take (k + 1)) n).countP (fun x => failK x.b p) = (enL (L.take k) n).countP (fun x => failK x.b p) + (if enoughK (L.getD k noRd).b n = true ∧ failK (L.getD k noRd).b p = true then 1 else 0) := by
  rw [enL_next L n k h]
  by_cases h1 : enoughK (L.getD k noRd).b n = true
  · rw [if_pos h1, if_pos h1, List.length_append, List.countP_append]
    refine ⟨rfl, ?_⟩
    congr 1
    by_cases h2 : failK (L.getD k noRd).b p = true
    · rw [if_pos ⟨h1, h2⟩, List.countP_cons_of_pos (p := fun x => failK x.b p) (a := L.getD k noRd) (l := []) h2, List.countP_nil]
    · rw [if_neg fun h => h2 h.2, List.countP_cons_of_neg (p := fun x => failK x.b p) (a := L.getD k noRd) (l := []) h2, List.countP_nil]
  · rw [if_neg h1, if_neg h1, if_neg fun h => h1 h.1, List.append_nil]
    exact ⟨rfl, rfl⟩

/-- A greater factor tells no more. -/
theorem farV_less {s q n r f g : Int} (hf : 0 ≤ f) (hfg : f ≤ g) (hv : 0 ≤ n * q - s * s) (h : farV s q n r g = true) : farV s q n r f = true := by
  unfold farV at h ⊢
  simp only [Bool.and_eq_true, decide_eq_true_eq] at h ⊢
  refine ⟨h.1, Int.lt_of_le_of_lt (Int.mul_le_mul_of_nonneg_right (Int.mul_le_mul hfg hfg hf (by omega)) hv) h.2⟩
theorem bad_less {c d : Cfg} {L : List Rd} (h1 : mayC c = true) (h0 : c.f11 ≠ 0) (h9 : d.f9 = c.f9) (h10 : d.f10 = c.f10) (h12 : d.f12 = c.f12) (h11 : c.f11 ≤ d.f11) : (badL d L).length ≤ (badL c L).length := by
  by_cases h2 : mayRd L = true
  · by_cases h3 : mayC d = true
    · rw [badL_is h1 h2, badL_is h3 h2, List.length_map, List.length_map, badK_length, badK_length, h9, h10, h12]
      refine keysB_mono _ _ _ fun i hi h => ?_
      have c11 : 0 ≤ c.f11 ∧ c.f11 ≤ 10000 := of_decide_eq_true ((may_parts h1).1 11 (by decide))
      have d11 : 0 ≤ d.f11 ∧ d.f11 ≤ 10000 := of_decide_eq_true ((may_parts h3).1 11 (by decide))
      have hl : (enL L c.f10).length ≤ 64 := Nat.le_trans (enL_length L c.f10) ((mayRd_iff L).1 h2).1
      rw [farOf_some hl d11.1 d11.2] at h
      rw [farOf_some hl c11.1 c11.2]
      by_cases hh : ((enL L c.f10).length : Int) < c.f9
      · rw [if_pos (.inr hh)] at h
        have : (List.replicate (enL L c.f10).length false).getD i false = false := by
          rw [List.getD_eq_getElem?_getD, List.getElem?_replicate]; split <;> rfl
        rw [this] at h
        cases h
      · rw [if_neg (by omega)] at h
        rw [if_neg (by omega)]
        rw [farK_get _ _ _ (by simpa using hi)] at h ⊢
        refine farV_less c11.1 h11 ?_ h
        have := cauchy ((enL L c.f10).map fun x => rateK x.b)
        omega
    · rw [badL_nil (.inl (Bool.eq_false_iff.2 h3))]; simp
  · rw [badL_nil (.inr (Bool.eq_false_iff.2 h2))]; simp

theorem keysB_nodup {H : List Rd} {F : List Bool} {p : Int} (hnd : (H.map (·.id)).Nodup) : ∀ k, k ≤ H.length → (keysB H F p k).Nodup := by
  intro k
  induction k with
  | zero => intro _; unfold keysB; simp
  | succ k ih =>
    intro hk
    rw [keysB_next]
    split
    · refine List.nodup_append.2 ⟨ih (by omega), by simp, fun a ha b hb e => ?_⟩
      rw [List.mem_singleton] at hb
      obtain ⟨i, hi, he⟩ := keysB_mem ha
      rw [e, hb] at he
      have h1 : (H.getD k noRd).id = (H.getD i noRd).id := (Prod.ext_iff.1 he).2
      unfold List.Nodup at hnd
      rw [List.pairwise_map, List.pairwise_iff_getElem] at hnd
      have := hnd i k (by omega) (by omega) hi
      have e1 : H.getD i noRd = H[i]'(by omega) := by simp [show i < H.length by omega]
      have e2 : H.getD k noRd = H[k]'(by omega) := by simp [show k < H.length by omega]
      rw [e1, e2] at h1
      exact this h1.symm
    · rw [List.append_nil]; exact ih (by omega)
/-- Who is bad stands in the row, once, with enough requests; they are told by rate, then by Id. -/
theorem bad_who {c : Cfg} {L : List Rd} (hne : badL c L ≠ []) : ∃ Q : Nat → Nat, (∀ i, i < (badL c L).length → Q i < L.length ∧ (L.getD (Q i) noRd).id = (badL c L).getD i 0 ∧ enoughK (L.getD (Q i) noRd).b c.f10 = true ∧ ∀ j, j < L.length → (L.getD j noRd).id = (badL c L).getD i 0 → j = Q i) ∧
    ∀ i, i + 1 < (badL c L).length → rateK (L.getD (Q i) noRd).b < rateK (L.getD (Q (i + 1)) noRd).b ∨ (rateK (L.getD (Q i) noRd).b = rateK (L.getD (Q (i + 1)) noRd).b ∧ (badL c L).getD i 0 < (badL c L).getD (i + 1) 0) := by
  have h1 : mayC c = true := by
    rcases Bool.eq_false_or_eq_true (mayC c) with h | h
    · exact h
    · exact absurd (badL_nil (.inl h)) hne
  have h2 : mayRd L = true := by
    rcases Bool.eq_false_or_eq_true (mayRd L) with h | h
    · exact h
    · exact absurd (badL_nil (.inr h)) hne
  have hnd := ((mayRd_iff L).1 h2).2.2
  have hinj : ∀ i j, i < L.length → j < L.length → (L.getD i noRd).id = (L.getD j noRd).id → i = j := by
    have hp : ∀ i j, i < j → j < L.length → (L.getD i noRd).id ≠ (L.getD j noRd).id := by
      intro i j hij hj
      unfold List.Nodup at hnd
      rw [List.pairwise_map, List.pairwise_iff_getElem] at hnd
      have := hnd i j (by omega) hj hij
      have e1 : L.getD i noRd = L[i]'(by omega) := by simp [show i < L.length by omega]
      have e2 : L.getD j noRd = L[j] := by simp [hj]
      rw [e1, e2]; exact this
    intro i j hi hj h
    rcases Nat.lt_trichotomy i j with h3 | h3 | h3
    · exact absurd h (hp i j h3 hj)
    · exact h3
    · exact absurd h.symm (hp j i h3 hi)
  rw [badL_is h1 h2]
  have hget : ∀ i, i < (badK c L).length → ((badK c L).map (·.2)).getD i 0 = ((badK c L).getD i (0, 0)).2 := fun i hi => by simp [hi]
  have hmem : ∀ i, i < (badK c L).length → ∃ q, q < L.length ∧ enoughK (L.getD q noRd).b c.f10 = true ∧ (badK c L).getD i (0, 0) = (rateK (L.getD q noRd).b, (L.getD q noRd).id) := by
    intro i hi
    have hm : (badK c L).getD i (0, 0) ∈ badK c L := getD_mem (0, 0) hi
    unfold badK at hm
    obtain ⟨k, hk, he⟩ := keysB_mem (sortV_mem.1 hm)
    have hx : (enL L c.f10).getD k noRd ∈ enL L c.f10 := getD_mem noRd hk
    have hx2 := List.mem_filter.1 hx
    obtain ⟨q, hq, hqe⟩ := mem_getD hx2.1 noRd
    refine ⟨q, hq, by rw [hqe]; exact hx2.2, ?_⟩
    rw [hqe]
    exact he
  have hQ : ∃ Q : Nat → Nat, ∀ i, i < (badK c L).length → Q i < L.length ∧ enoughK (L.getD (Q i) noRd).b c.f10 = true ∧ (badK c L).getD i (0, 0) = (rateK (L.getD (Q i) noRd).b, (L.getD (Q i) noRd).id) :=
    ⟨fun i => if h : i < (badK c L).length then (hmem i h).choose else 0, fun i hi => by simp only [hi, dif_pos]; exact (hmem i hi).choose_spec⟩
  obtain ⟨Q, hQ⟩ := hQ
  refine ⟨Q, fun i hi => ?_, fun i hi => ?_⟩
  · rw [List.length_map] at hi
    obtain ⟨q1, q2, q3⟩ := hQ i hi
    have e : ((badK c L).map (·.2)).getD i 0 = (L.getD (Q i) noRd).id := by rw [hget i hi, q3]
    rw [e]
    exact ⟨q1, rfl, q2, fun j hj h => hinj j (Q i) hj q1 h⟩
  · rw [List.length_map] at hi
    obtain ⟨q1, q2, q3⟩ := hQ i (by omega)
    obtain ⟨r1, r2, r3⟩ := hQ (i + 1) hi
    rw [hget i (by omega), hget (i + 1) hi, q3, r3]
    have hs : SortedK (badK c L) := sortV_sorted _
    have hle : leK ((badK c L).getD i (0, 0)) ((badK c L).getD (i + 1) (0, 0)) = true := by
      rw [kgetD _ (by omega), kgetD _ hi]
      exact (List.pairwise_iff_getElem.1 hs) i (i + 1) (by omega) hi (by omega)
    rw [q3, r3, leK_iff] at hle
    rcases hle with h3 | ⟨h3, h4⟩
    · exact .inl h3
    · refine .inr ⟨h3, ?_⟩
      rcases Int.lt_or_le (L.getD (Q i) noRd).id (L.getD (Q (i + 1)) noRd).id with h5 | h5
      · exact h5
      · exfalso
        have hn : (badK c L).Nodup := by
          have hs2 : ((enL L c.f10).map (·.id)).Nodup := List.Nodup.sublist (List.Sublist.map _ List.filter_sublist) hnd
          have hk2 := keysB_nodup (F := farOf (enL L c.f10) c.f9 c.f11) (p := c.f12) hs2 (enL L c.f10).length (Nat.le_refl _)
          exact (sortV_perm _).nodup_iff.2 hk2
        unfold List.Nodup at hn
        have h6 := (List.pairwise_iff_getElem.1 hn) i (i + 1) (by omega) hi (by omega)
        rw [← kgetD _ (by omega), ← kgetD _ hi, q3, r3] at h6
        simp only at h3 h4
        exact h6 (by rw [h3, Int.le_antisymm h4 h5])

end Go.Proofs.YtjknflpclniiiaaDoor

/-
  Plain mathematics on Spread's answer: all is spread; to each its share, but for one; who has more gets no less, but for one.
-/
import Derived.Test.YtkhklfbgfikeoaaPlain
namespace Go.Proofs.Ytkhklfbgfikeoaa

/-- What place i gets. -/
def outF (total : Int) (l : List Int) (i : Nat) : Int := giveF l (shareF total l) (total - fsum total l l.length) l.length i
def gsum (total : Int) (l : List Int) : Nat → Int
  | 0 => 0
  | k + 1 => gsum total l k + outF total l k

theorem spread_len (total : Int) (l : List Int) (h : mayB total l = true) : (spreadV total l).length = l.length := by
  unfold spreadV; rw [h]; simp
theorem spread_get (total : Int) (l : List Int) (h : mayB total l = true) (i : Nat) (hi : i < l.length) : (spreadV total l).getD i 0 = outF total l i := by
  unfold spreadV; rw [h]; simp [hi, outF]

theorem give_cases (l : List Int) (f : Nat → Int) (left : Int) (k i : Nat) : giveF l f left k i = f i ∨ (giveF l f left k i = f i + 1 ∧ 0 < l.getD i 0) := by
  unfold giveF
  split
  · right; exact ⟨rfl, by omega⟩
  · left; omega

/-- All parts are above -1, and their sum is within bounds. -/
theorem out_facts (total : Int) (l : List Int) (h : mayB total l = true) (hp : ∀ i, i < l.length → 0 ≤ l.getD i 0) (i : Nat) (hi : i < l.length) :
    (l.getD i 0 = 0 → outF total l i = 0) ∧ outF total l i * sm l ≤ total * l.getD i 0 + sm l ∧ total * l.getD i 0 - sm l ≤ outF total l i * sm l ∧ 0 ≤ outF total l i ∧ outF total l i ≤ 1000001 := by
  obtain ⟨h0, h1, h2, h3⟩ := may_facts total l h
  obtain ⟨e, hs⟩ := may_sum total l h
  have hsh := share_eq total l h i hi
  have hb := share_bd total l h i hi
  have hpi := hp i hi
  rw [oz_pos hpi] at hsh
  have m1 : shareF total l i * sm l ≤ total * l.getD i 0 := by rw [hsh]; exact Int.ediv_mul_le _ (by omega)
  have m2 : total * l.getD i 0 < (shareF total l i + 1) * sm l := by rw [hsh]; exact Int.lt_ediv_add_one_mul_self _ hs
  rw [Int.add_mul] at m2
  have hg := give_cases l (shareF total l) (total - fsum total l l.length) l.length i
  unfold outF
  rcases hg with hg | ⟨hg, hpos⟩
  · rw [hg]
    refine ⟨fun hz => ?_, by omega, by omega, by omega, by omega⟩
    rw [hsh, hz]; simp
  · rw [hg, Int.add_mul]
    exact ⟨fun hz => by omega, by omega, by omega, by omega, by omega⟩

theorem out_mono (total : Int) (l : List Int) (h : mayB total l = true) (hp : ∀ i, i < l.length → 0 ≤ l.getD i 0) (i j : Nat) (hi : i < l.length) (hj : j < l.length) (hle : l.getD i 0 ≤ l.getD j 0) :
    outF total l i ≤ outF total l j + 1 := by
  obtain ⟨h0, h1, h2, h3⟩ := may_facts total l h
  obtain ⟨e, hs⟩ := may_sum total l h
  have si := share_eq total l h i hi
  have sj := share_eq total l h j hj
  rw [oz_pos (hp i hi)] at si
  rw [oz_pos (hp j hj)] at sj
  have hm : total * l.getD i 0 ≤ total * l.getD j 0 := Int.mul_le_mul_of_nonneg_left hle h0
  have hd : shareF total l i ≤ shareF total l j := by rw [si, sj]; exact Int.ediv_le_ediv hs hm
  have gi := give_cases l (shareF total l) (total - fsum total l l.length) l.length i
  have gj := give_cases l (shareF total l) (total - fsum total l l.length) l.length j
  unfold outF
  omega

theorem rest_le (total : Int) (l : List Int) (h : mayB total l = true) (k : Nat) (hk : k ≤ l.length) : total * sm (l.take k) - sm l * fsum total l k ≤ sm l * cp l k := by
  obtain ⟨e, hs⟩ := may_sum total l h
  induction k with
  | zero => simp [fsum, sm, cp]
  | succ k ih =>
    have h1 := ih (by omega)
    have h2 := sm_snoc l k (by omega)
    have h3 := share_eq total l h k (by omega)
    have h4 := Int.lt_mul_ediv_self_add (x := total * oz (l.getD k 0)) hs
    simp only [fsum, cp]
    rw [h2, h3, Int.mul_add, Int.mul_add, Int.mul_add]
    split
    · rw [Int.mul_one]; omega
    · have ez : oz (l.getD k 0) = 0 := by unfold oz; split <;> omega
      rw [ez]
      simp
      omega

theorem left_le (total : Int) (l : List Int) (h : mayB total l = true) : total - fsum total l l.length ≤ cp l l.length := by
  obtain ⟨e, hs⟩ := may_sum total l h
  have h1 := rest_le total l h l.length (Nat.le_refl _)
  rw [List.take_length, Int.mul_comm total, ← Int.mul_sub] at h1
  exact Int.le_of_mul_le_mul_left h1 hs

theorem gsum_eq (total : Int) (l : List Int) (h : mayB total l = true) (k : Nat) (hk : k ≤ l.length) : gsum total l k = fsum total l k + ((total - fsum total l l.length) - leftF l (total - fsum total l l.length) k) := by
  have hb := fsum_bd total l h l.length
  induction k with
  | zero => rw [left_start _ _ (by omega)]; simp [gsum, fsum]
  | succ k ih =>
    have h1 := ih (by omega)
    simp only [gsum, fsum]
    rw [h1]
    have hs : giveF l (shareF total l) (total - fsum total l l.length) l.length k = giveF l (shareF total l) (total - fsum total l l.length) (k + 1) k := by
      unfold giveF; simp [show k < l.length by omega]
    unfold outF
    rw [hs]
    have hz : giveF l (shareF total l) (total - fsum total l l.length) k k = shareF total l k := by
      unfold giveF; rw [if_neg (by omega)]; omega
    by_cases hx : 0 < l.getD k 0
    · by_cases hl : leftF l (total - fsum total l l.length) k = 0
      · have hd := give_done l (shareF total l) (total - fsum total l l.length) k (k + 1) k hl (by omega)
        have hl2 : leftF l (total - fsum total l l.length) (k + 1) = 0 := by
          have hm := cp_mono l k (k + 1) (by omega)
          unfold leftF at hl ⊢
          split at hl
          · omega
          · rw [if_neg (by omega)]
        rw [← hd, hz, hl, hl2]; omega
      · rw [give_pos l _ _ k k hl hx, if_pos rfl, hz, left_pos l _ k hl hx]; omega
    · rw [give_neg l _ _ k k hx, hz, left_neg l _ k hx]; omega

theorem gsum_all (total : Int) (l : List Int) (h : mayB total l = true) : gsum total l l.length = total := by
  have h1 := gsum_eq total l h l.length (Nat.le_refl _)
  have h2 := left_le total l h
  have h3 : leftF l (total - fsum total l l.length) l.length = 0 := by unfold leftF; rw [if_neg (by omega)]
  rw [h1, h3]; omega

theorem gsum_bd (total : Int) (l : List Int) (h : mayB total l = true) (hp : ∀ i, i < l.length → 0 ≤ l.getD i 0) (k : Nat) (hk : k ≤ l.length) : 0 ≤ gsum total l k ∧ gsum total l k ≤ k * 1000001 := by
  induction k with
  | zero => simp [gsum]
  | succ k ih =>
    have h1 := ih (by omega)
    have h2 := out_facts total l h hp k (by omega)
    simp only [gsum]
    omega

end Go.Proofs.Ytkhklfbgfikeoaa

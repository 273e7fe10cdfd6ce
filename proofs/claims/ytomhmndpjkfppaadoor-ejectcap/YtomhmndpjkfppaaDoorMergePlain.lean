/-
  The plain mathematics of Merge and Sort by runs. No program stands in it.
-/
import Derived.Test.YtomhmndpjkfppaaDoorKeyCut
namespace Go.Proofs.YtomhmndpjkfppaaDoor
open Go.RowKit

def lenOf : Value → Nat
  | .slice _ n _ => n
  | _ => 0

/-- A is what is taken, L and M what is left of both rows. -/
def Taking (T A L M : List (Int × Int)) : Prop := SortedK (A ++ L) ∧ SortedK (A ++ M) ∧ (A ++ (L ++ M)).Perm T

theorem taking_start {ks js : List (Int × Int)} (hk : SortedK ks) (hj : SortedK js) : Taking (ks ++ js) [] ks js := ⟨hk, hj, List.Perm.refl _⟩

theorem taking_left {T A L M : List (Int × Int)} {x : Int × Int} (h : Taking T A (x :: L) M) (hx : ∀ y ∈ M, leK x y = true) : Taking T (A ++ [x]) L M := by
  obtain ⟨h1, h2, h3⟩ := h
  refine ⟨by rw [List.append_assoc]; exact h1, ?_, ?_⟩
  · obtain ⟨s1, s2, s3⟩ := List.pairwise_append.1 h2
    obtain ⟨_, _, t3⟩ := List.pairwise_append.1 h1
    rw [List.append_assoc]
    refine List.pairwise_append.2 ⟨s1, List.pairwise_cons.2 ⟨hx, s2⟩, fun a ha b hb => ?_⟩
    rcases List.mem_cons.1 hb with rfl | hb
    · exact t3 a ha _ (by simp)
    · exact s3 a ha b hb
  · rw [List.append_assoc]; exact h3

theorem taking_swap {T A L M : List (Int × Int)} (h : Taking T A L M) : Taking T A M L := ⟨h.2.1, h.1, (List.perm_append_comm.append_left A).trans h.2.2⟩

theorem taking_right {T A L M : List (Int × Int)} {x : Int × Int} (h : Taking T A L (x :: M)) (hx : ∀ y ∈ L, leK x y = true) : Taking T (A ++ [x]) L M :=
  taking_swap (taking_left (taking_swap h) hx)

theorem taking_end {T A M : List (Int × Int)} (h : Taking T A [] M) : A ++ M = sortV T := sortV_unique h.2.2 h.2.1
theorem taking_end' {T A L : List (Int × Int)} (h : Taking T A L []) : A ++ L = sortV T := taking_end (taking_swap h)

/-- Behind the head of a sorted row. -/
theorem le_all {x : Int × Int} {M : List (Int × Int)} (hs : SortedK M) (h : ∀ h : 0 < M.length, leK x M[0] = true) : ∀ y ∈ M, leK x y = true := by
  cases M with
  | nil => simp
  | cons m r =>
    intro y hy
    have h0 := h (by simp)
    rcases List.mem_cons.1 hy with rfl | hy
    · exact h0
    · exact leK_trans _ _ _ h0 ((List.pairwise_cons.1 hs).1 y hy)

theorem taking_len {T A L M : List (Int × Int)} (h : Taking T A L M) : A.length + L.length + M.length = T.length := by
  have := h.2.2.length_eq
  simp at this
  omega

theorem taking_mem {T A L M : List (Int × Int)} (h : Taking T A L M) {x : Int × Int} (hx : x ∈ A) : x ∈ T := h.2.2.mem_iff.1 (by simp [hx])

theorem cons_drop {L : List (Int × Int)} (h : 0 < L.length) : L = L.getD 0 (0, 0) :: L.drop 1 := by
  cases L with
  | nil => simp at h
  | cons x r => rfl

/-- The head of L is taken. -/
theorem taking_l {T A L M : List (Int × Int)} (h : Taking T A L M) (hl : 0 < L.length) (hlt : ltK (M.getD 0 (0, 0)) (L.getD 0 (0, 0)) = false) : Taking T (A ++ [L.getD 0 (0, 0)]) (L.drop 1) M := by
  have hM : SortedK M := (List.pairwise_append.1 h.2.1).2.1
  rw [cons_drop hl] at h
  refine taking_left h (le_all hM fun h0 => ?_)
  rw [← kgetD 0 h0]
  exact leK_of_not hlt
theorem taking_m {T A L M : List (Int × Int)} (h : Taking T A L M) (hm : 0 < M.length) (hlt : ltK (M.getD 0 (0, 0)) (L.getD 0 (0, 0)) = true) : Taking T (A ++ [M.getD 0 (0, 0)]) L (M.drop 1) := by
  have hL : SortedK L := (List.pairwise_append.1 h.1).2.1
  rw [cons_drop hm] at h
  refine taking_right h (le_all hL fun h0 => ?_)
  rw [← kgetD 0 h0]
  exact leK_of_ltK hlt

end Go.Proofs.YtomhmndpjkfppaaDoor

/-
  The plain mathematics of chapter 6, further: one field set; the text of nothing. No program stands in it.
-/
import Derived.Test.YtmhbfcjlbhighaaDoorConf4
import Derived.Test.YtmhbfcjlbhighaaDoorConfMath3
namespace Go.Proofs.YtmhbfcjlbhighaaDoor

theorem may_set (f : Nat) (hf : f < 21 ∧ f ≠ 15) (n : Int) : mayC (ofNums (defNums.set f n) ByteArray.empty) = decide (lowC f ≤ n ∧ n ≤ highC f) := by
  have hl : defNums.length = 23 := rfl
  rw [Bool.eq_iff_iff, decide_eq_true_eq]
  have hff : (ofNums (defNums.set f n) ByteArray.empty).nums.getD f 0 = n := by
    rw [nums_num _ hf]
    have : f < defNums.length := by omega
    simp [this]
  constructor
  · intro h
    have := fits_bounds ((may_parts h).1 f (by omega))
    rwa [hff] at this
  · intro h
    refine may_of (fun i hi => ?_) (.inl rfl)
    rcases kinds hi with h1 | h1 | rfl
    · unfold fitsC
      rw [decide_eq_true_eq]
      by_cases e : i = f
      · subst e; rw [hff]; exact h
      · have e2 : (ofNums (defNums.set f n) ByteArray.empty).nums.getD i 0 = defNums.getD i 0 := by
          rw [nums_num _ h1]
          simp only [List.getD_eq_getElem?_getD]
          rw [List.getElem?_set_ne (fun e' => e e'.symm)]
        rw [e2]
        exact fits_bounds (good0.fits i hi)
    · exact fits_bit _ h1
    · exact fits_21 _
set_option maxRecDepth 100000 in
theorem parse_nothing : parseV ⟨#[]⟩ = (defC, 0, 0) := by decide +kernel

end Go.Proofs.YtmhbfcjlbhighaaDoor

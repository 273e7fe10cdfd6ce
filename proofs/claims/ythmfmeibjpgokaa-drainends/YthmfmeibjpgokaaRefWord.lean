/-
  The reference's answers to chapter 5: Word.
-/
import Derived.Test.YthmfmeibjpgokaaSeqKit
import Derived.Test.YthmfmeibjpgokaaLinesPlain
import Derived.Test.YthmfmeibjpgokaaChecked
import Derived.WalkSmall
namespace Go.Proofs.Ythmfmeibjpgokaa
open Go.RowKit

theorem byte_name (c : Nat) :
    ((¬ (c : Int) < 97 ∧ ¬ (122 : Int) < (c : Int)) ∨ ((c : Int) < 97 ∧ ¬ (c : Int) < 48 ∧ ¬ (57 : Int) < (c : Int)) ∨ ((c : Int) < 97 ∧ (c : Int) < 48 ∧ ((c : Int) != 45) = false) ∨ ((c : Int) < 97 ∧ (c : Int) < 48 ∧ ((c : Int) != 45) = true ∧ ((c : Int) != 46) = false)) ∨
    (((c : Int) < 97 ∧ (c : Int) < 48 ∧ ((c : Int) != 45) = true ∧ ((c : Int) != 46) = true) ∨ ((c : Int) < 97 ∧ ¬ (c : Int) < 48 ∧ (57 : Int) < (c : Int) ∧ ((c : Int) != 45) = true ∧ ((c : Int) != 46) = true) ∨
      (¬ (c : Int) < 97 ∧ (122 : Int) < (c : Int) ∧ ¬ (c : Int) < 48 ∧ (57 : Int) < (c : Int) ∧ ((c : Int) != 45) = true ∧ ((c : Int) != 46) = true)) := by
  simp only [bne_iff_ne, ne_eq, bne_eq_false_iff_eq]
  omega
theorem byte_name_ok (b : UInt8) (h : (¬ (b.toNat : Int) < 97 ∧ ¬ (122 : Int) < (b.toNat : Int)) ∨ ((b.toNat : Int) < 97 ∧ ¬ (b.toNat : Int) < 48 ∧ ¬ (57 : Int) < (b.toNat : Int)) ∨ ((b.toNat : Int) < 97 ∧ (b.toNat : Int) < 48 ∧ ((b.toNat : Int) != 45) = false) ∨ ((b.toNat : Int) < 97 ∧ (b.toNat : Int) < 48 ∧ ((b.toNat : Int) != 45) = true ∧ ((b.toNat : Int) != 46) = false)) : nameB b = true := by
  unfold nameB
  simp only [bne_iff_ne, ne_eq, bne_eq_false_iff_eq] at h
  rw [decide_eq_true_eq]
  omega
theorem byte_name_bad (b : UInt8) (h : ((b.toNat : Int) < 97 ∧ (b.toNat : Int) < 48 ∧ ((b.toNat : Int) != 45) = true ∧ ((b.toNat : Int) != 46) = true) ∨ ((b.toNat : Int) < 97 ∧ ¬ (b.toNat : Int) < 48 ∧ (57 : Int) < (b.toNat : Int) ∧ ((b.toNat : Int) != 45) = true ∧ ((b.toNat : Int) != 46) = true) ∨
      (¬ (b.toNat : Int) < 97 ∧ (122 : Int) < (b.toNat : Int) ∧ ¬ (b.toNat : Int) < 48 ∧ (57 : Int) < (b.toNat : Int) ∧ ((b.toNat : Int) != 45) = true ∧ ((b.toNat : Int) != 46) = true)) : nameB b = false := by
  unfold nameB
  simp only [bne_iff_ne, ne_eq] at h
  rw [decide_eq_false_iff_not]
  omega


end Go.Proofs.Ythmfmeibjpgokaa

/-
  The plain mathematics of chapter 2: a text's number; unlike last bytes make unlike numbers. No program stands in it.
-/
import Derived.Lib.ItoaNum
import Derived.Lib.ItoaMem
import Derived.Lib.ItoaLen
namespace Go.Proofs.YtejjilnanmomcaaDoor

def hStep (h : Nat) (c : UInt8) : Nat := (h ^^^ c.toNat) * 1099511628211 % 18446744073709551616
def hFold (x : Nat) : Nat := x ^^^ x / 8589934592
def hState (l : List UInt8) : Nat := l.foldl hStep 14695981039346656037
def hMul (x : Nat) : Nat := x * 18397679294719823053 % 18446744073709551616
/-- Text's number. -/
def textV (l : List UInt8) : Nat := hFold (hMul (hFold (hState l)))

theorem hStep_lt (h : Nat) (c : UInt8) : hStep h c < 18446744073709551616 := by unfold hStep; omega
theorem hMul_lt (x : Nat) : hMul x < 18446744073709551616 := by unfold hMul; omega
theorem xor_lt {x y : Nat} (h : x < 18446744073709551616) (h' : y < 18446744073709551616) : x ^^^ y < 18446744073709551616 := by
  have e : (18446744073709551616 : Nat) = 2 ^ 64 := rfl
  rw [e] at h h' ⊢
  exact Nat.xor_lt_two_pow h h'
theorem hFold_lt {x : Nat} (h : x < 18446744073709551616) : hFold x < 18446744073709551616 := by
  have e : (18446744073709551616 : Nat) = 2 ^ 64 := rfl
  unfold hFold
  rw [e] at h ⊢
  exact Nat.xor_lt_two_pow h (Nat.lt_of_le_of_lt (Nat.div_le_self _ _) h)
theorem hState_snoc (l : List UInt8) (c : UInt8) : hState (l ++ [c]) = hStep (hState l) c := by
  unfold hState; rw [List.foldl_append, List.foldl_cons, List.foldl_nil]
theorem hState_lt (l : List UInt8) : hState l < 18446744073709551616 := by
  rcases List.eq_nil_or_concat l with rfl | ⟨m, c, rfl⟩
  · decide
  · rw [List.concat_eq_append, hState_snoc]; exact hStep_lt _ _
theorem textV_lt (l : List UInt8) : textV l < 18446744073709551616 := hFold_lt (hMul_lt _)

theorem hFold_hFold {x : Nat} (h : x < 18446744073709551616) : hFold (hFold x) = x := by
  unfold hFold
  have e : (8589934592 : Nat) = 2 ^ 33 := by decide
  rw [e, ← Nat.shiftRight_eq_div_pow, ← Nat.shiftRight_eq_div_pow, Nat.shiftRight_xor_distrib, ← Nat.shiftRight_add]
  have z : x >>> (33 + 33) = 0 := by rw [Nat.shiftRight_eq_div_pow]; exact Nat.div_eq_of_lt (by omega)
  rw [z, Nat.xor_zero, Nat.xor_assoc, Nat.xor_self, Nat.xor_zero]
theorem hFold_inj {x y : Nat} (hx : x < 18446744073709551616) (hy : y < 18446744073709551616) (h : hFold x = hFold y) : x = y := by
  rw [← hFold_hFold hx, ← hFold_hFold hy, h]

/-- Times an odd number, modulo 2^64: nothing is lost. -/
theorem mulmod_inj {x y p q k : Nat} (hpq : p * q = 18446744073709551616 * k + 1) (hx : x < 18446744073709551616) (hy : y < 18446744073709551616)
    (h : x * p % 18446744073709551616 = y * p % 18446744073709551616) : x = y := by
  have key : ∀ z, z < 18446744073709551616 → (z * p % 18446744073709551616) * q % 18446744073709551616 = z := by
    intro z hz
    rw [Nat.mod_mul_mod, Nat.mul_assoc, hpq, Nat.mul_add, Nat.mul_one, show z * (18446744073709551616 * k) = 18446744073709551616 * (z * k) by rw [Nat.mul_left_comm], Nat.mul_add_mod, Nat.mod_eq_of_lt hz]
  rw [← key x hx, ← key y hy, h]
theorem hMul_inj {x y : Nat} (hx : x < 18446744073709551616) (hy : y < 18446744073709551616) (h : hMul x = hMul y) : x = y :=
  mulmod_inj (p := 18397679294719823053) (q := 5725274745694666757) (k := 5710046619856821070) (by decide) hx hy h
theorem hStep_inj {h : Nat} {a b : UInt8} (hh : h < 18446744073709551616) (e : hStep h a = hStep h b) : a = b := by
  have la : a.toNat < 18446744073709551616 := by have := a.toNat_lt; omega
  have lb : b.toNat < 18446744073709551616 := by have := b.toNat_lt; omega
  have e1 : h ^^^ a.toNat = h ^^^ b.toNat := mulmod_inj (p := 1099511628211) (q := 14886173955864302971) (k := 887285111055) (by decide) (xor_lt hh la) (xor_lt hh lb) e
  have e2 : a.toNat = b.toNat := by
    have := congrArg (h ^^^ ·) e1
    simpa [← Nat.xor_assoc] using this
  exact UInt8.toNat_inj.1 e2

/-- Texts that are unlike in their last byte alone. -/
theorem textV_last (l : List UInt8) (a b : UInt8) : textV (l ++ [a]) = textV (l ++ [b]) ↔ a = b := by
  refine ⟨fun h => ?_, fun h => by rw [h]⟩
  unfold textV at h
  have h1 := hFold_inj (hMul_lt _) (hMul_lt _) h
  have h2 := hMul_inj (hFold_lt (hState_lt _)) (hFold_lt (hState_lt _)) h1
  have h3 := hFold_inj (hState_lt _) (hState_lt _) h2
  rw [hState_snoc, hState_snoc] at h3
  exact hStep_inj (hState_lt l) h3

/-- Below's number. -/
def belowV (h : Nat) (n : Int) : Int := if n < 1 then 0 else (h : Int) % n

theorem decDigits_step {m : Nat} (h : ¬ m < 10) : Lib.decDigits m = Lib.decDigits (m / 10) ++ [UInt8.ofNat (48 + m % 10)] := by
  rw [Lib.decDigits, dif_neg h]

end Go.Proofs.YtejjilnanmomcaaDoor

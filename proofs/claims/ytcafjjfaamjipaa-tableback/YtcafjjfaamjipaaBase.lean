/-
  Plain, Kit, RowKit, SeqKit, TurnPlain, LinesPlain, LineKit.
-/
import Derived.Laws.BitsAllLaws
import Derived.Lib.Mul64
import Derived.WalkKit
import Derived.WalkSpells
import Derived.BigQuiet
import Derived.OpenShut
import Derived.ChangeOld
import Derived.SizedLaws
import Derived.Laws.AppendOwnNone
import Derived.Maps.AppendAt
import Derived.BigFrame
import Derived.Deep.AppendLies
import Derived.RangeFuncNested
import Derived.RangeFuncBound
import Derived.RangeFuncCalls
import Derived.RangeFuncLeaves
import Derived.RangeFuncBox
import Derived.Shelf.Abstract
import Derived.Shelf.RegionOpen
import Derived.OwnWalkIn
import Derived.TacticsInMore
import Derived.LoopNIn
import Derived.LoopIn

/-
  Plain mathematics of the program's package ratio, no run of the model in it: what orZero, MulDiv, Compare, Sum, Draw and Spread come to, as functions on whole numbers and lists, and small lemmas on 128-bit products.
-/
namespace Go.Proofs.Ytcafjjfaamjipaa

/-- One below 0 counts as 0. -/
def oz (n : Int) : Int := if n < 0 then 0 else n
theorem oz_neg {n : Int} (h : n < 0) : oz n = 0 := by unfold oz; rw [if_pos h]
theorem oz_pos {n : Int} (h : 0 ≤ n) : oz n = n := by unfold oz; rw [if_neg (by omega)]
theorem oz_nonneg (n : Int) : 0 ≤ oz n := by unfold oz; split <;> omega
theorem oz_le (n : Int) (m : Int) (h : n ≤ m) (h0 : 0 ≤ m) : oz n ≤ m := by unfold oz; split <;> omega

/-- The upper and the lower word of a number of 128 bits. -/
def hiW (p : Int) : Int := p / 18446744073709551616
def loW (p : Int) : Int := p % 18446744073709551616
theorem loW_bd (p : Int) : 0 ≤ loW p ∧ loW p ≤ 18446744073709551615 := by unfold loW; omega
theorem hiW_bd (p : Int) (h : 0 ≤ p) (h2 : p ≤ 340282366920938463463374607431768211455) : 0 ≤ hiW p ∧ hiW p ≤ 18446744073709551615 := by unfold hiW; omega

theorem mulN (a b : Nat) : (a : Int) * (b : Int) = ((a * b : Nat) : Int) := (Int.natCast_mul a b).symm
theorem addN (a b : Nat) : (a : Int) + (b : Int) = ((a + b : Nat) : Int) := (Int.natCast_add a b).symm
theorem divN (a : Nat) : (a : Int) / 4294967296 = ((a / 4294967296 : Nat) : Int) := by omega
theorem maskN (a : Nat) (ha : a < 18446744073709551616) : bits .and .u64 (a : Int) 4294967295 = ((a % 4294967296 : Nat) : Int) := by
  have h := u64_and_nat a 4294967295 ha (by omega)
  have e : a &&& 4294967295 = a % 4294967296 := Nat.and_two_pow_sub_one_eq_mod a 32
  rw [e] at h
  exact h
theorem orN (a b : Nat) (ha : a < 18446744073709551616) (hb : b < 4294967296) (h : a % 4294967296 = 0) : bits .or .u64 (a : Int) (b : Int) = ((a + b : Nat) : Int) := by
  rw [u64_or_nat a b ha (by omega), nat_join 32 a b (by simpa using h) (by simpa using hb)]
theorem wrapN (a : Nat) (ha : a < 18446744073709551616) : IntKind.u64.wrap (a : Int) = (a : Int) := by rw [IntKind.wrap_u64]; omega
theorem wrapM (a : Nat) : IntKind.u64.wrap (a : Int) = ((a % 18446744073709551616 : Nat) : Int) := by rw [IntKind.wrap_u64]; omega

theorem lowN (o d : Nat) (hd : d < 4294967296) : bits .or .u64 (IntKind.u64.wrap ((o : Int) * 4294967296)) (d : Int) = ((o * 4294967296 % 18446744073709551616 + d : Nat) : Int) := by
  have e : (o : Int) * 4294967296 = ((o * 4294967296 : Nat) : Int) := by omega
  rw [e, wrapM, orN _ d (by omega) hd (by omega)]

/-- Division bit by bit: the quotient and the rest behind k of 64 steps. -/
def quotAt (p c : Int) (k : Nat) : Int := p / 2 ^ (64 - k) / c
def restAt (p c : Int) (k : Nat) : Int := p / 2 ^ (64 - k) % c

theorem low_bit (p : Int) (j : Nat) (hj : j ≤ 63) : loW p / 2 ^ j % 2 = p / 2 ^ j % 2 := by
  have hp : (0 : Int) < 2 ^ j := Int.pow_pos (by omega)
  have e : (18446744073709551616 : Int) = 2 ^ (63 - j) * 2 * 2 ^ j := by
    rw [show (18446744073709551616 : Int) = 2 ^ 64 from by decide, Int.mul_assoc, Int.mul_comm 2, ← Int.pow_succ, ← Int.pow_add]
    congr 1
    omega
  have h : p = loW p + hiW p * (2 ^ (63 - j) * 2) * 2 ^ j := by
    rw [Int.mul_assoc, ← e]; unfold loW hiW; omega
  have h2 : p / 2 ^ j = loW p / 2 ^ j + hiW p * (2 ^ (63 - j) * 2) := by
    conv => lhs; rw [h]
    rw [Int.add_mul_ediv_right _ _ (by omega)]
  rw [h2, ← Int.mul_assoc]
  generalize hiW p * 2 ^ (63 - j) = u
  omega
/-- The rest behind a step, ahead of what is taken off. -/
def nextR (p c : Int) (k : Nat) : Int := restAt p c k * 2 + p / 2 ^ (63 - k) % 2
theorem rest_bd (p c : Int) (k : Nat) (hc : 0 < c) : 0 ≤ restAt p c k ∧ restAt p c k < c :=
  ⟨Int.emod_nonneg _ (by omega), Int.emod_lt_of_pos _ hc⟩
theorem top_step (p : Int) (k : Nat) (hk : k < 64) : p / 2 ^ (64 - k) = p / 2 ^ (63 - k) / 2 := by
  rw [Int.ediv_ediv_of_nonneg (Int.le_of_lt (Int.pow_pos (by omega))), ← Int.pow_succ]
  congr 2
  omega
theorem step_eq (p c : Int) (k : Nat) (hk : k < 64) : p / 2 ^ (63 - k) = nextR p c k + c * (quotAt p c k * 2) := by
  have h := Int.emod_add_mul_ediv (p / 2 ^ (64 - k)) c
  have h2 := top_step p k hk
  unfold nextR restAt quotAt
  rw [← Int.mul_assoc]
  generalize p / 2 ^ (64 - k) % c = r at *
  generalize p / 2 ^ (64 - k) / c = q at *
  generalize p / 2 ^ (63 - k) = t at *
  generalize c * q = m at *
  omega
theorem step_lo (p c : Int) (k : Nat) (hk : k < 64) (hc : 0 < c) (h : nextR p c k < c) : restAt p c (k + 1) = nextR p c k ∧ quotAt p c (k + 1) = quotAt p c k * 2 := by
  have b := rest_bd p c k hc
  have hs := step_eq p c k hk
  have u := (Int.ediv_emod_unique (a := p / 2 ^ (63 - k)) (r := nextR p c k) (q := quotAt p c k * 2) hc).2 ⟨hs.symm, by unfold nextR; omega, h⟩
  have e : 64 - (k + 1) = 63 - k := by omega
  unfold restAt quotAt at *
  rw [e]
  exact ⟨u.2, u.1⟩
theorem step_hi (p c : Int) (k : Nat) (hk : k < 64) (hc : 0 < c) (h : c ≤ nextR p c k) : restAt p c (k + 1) = nextR p c k - c ∧ quotAt p c (k + 1) = quotAt p c k * 2 + 1 := by
  have b := rest_bd p c k hc
  have hs := step_eq p c k hk
  have hm : c * (quotAt p c k * 2 + 1) = c * (quotAt p c k * 2) + c := by rw [Int.mul_add, Int.mul_one]
  have u := (Int.ediv_emod_unique (a := p / 2 ^ (63 - k)) (r := nextR p c k - c) (q := quotAt p c k * 2 + 1) hc).2 ⟨by rw [hm]; omega, by omega, by unfold nextR at h ⊢; omega⟩
  have e : 64 - (k + 1) = 63 - k := by omega
  unfold restAt quotAt at *
  rw [e]
  exact ⟨u.2, u.1⟩
theorem quot_bd (p c : Int) (k : Nat) (h0 : 0 ≤ p) (hc : 0 < c) (h : hiW p < c) : 0 ≤ quotAt p c k ∧ quotAt p c k ≤ 18446744073709551615 := by
  have hp : (0 : Int) < 2 ^ (64 - k) := Int.pow_pos (by omega)
  have h1 : p < c * 18446744073709551616 := by unfold hiW at h; omega
  have h2 : p / 2 ^ (64 - k) ≤ p := Int.ediv_le_self _ h0
  have h3 : 0 ≤ p / 2 ^ (64 - k) := Int.ediv_nonneg h0 (by omega)
  have h4 : quotAt p c k < 18446744073709551616 := by
    unfold quotAt
    exact Int.ediv_lt_of_lt_mul hc (by rw [Int.mul_comm]; omega)
  exact ⟨Int.ediv_nonneg h3 (by omega), by omega⟩
theorem by_start (p c : Int) (h0 : 0 ≤ p) (h : hiW p < c) : restAt p c 0 = hiW p ∧ quotAt p c 0 = 0 := by
  have e : p / 2 ^ (64 - 0) = hiW p := rfl
  have b : 0 ≤ hiW p := by unfold hiW; omega
  unfold restAt quotAt
  rw [e]
  exact ⟨Int.emod_eq_of_lt b h, Int.ediv_eq_zero_of_lt b h⟩
theorem by_end (p c : Int) : quotAt p c 64 = p / c := by
  unfold quotAt; simp
theorem bitN (x : Int) (h : 0 ≤ x) (h2 : x ≤ 18446744073709551615) : bits .and .u64 x 1 = x % 2 := by
  obtain ⟨n, rfl⟩ := Int.eq_ofNat_of_zero_le h
  have e := u64_and_nat n 1 (by omega) (by omega)
  rw [nat_mask1] at e
  have e2 : bits .and .u64 (n : Int) 1 = bits .and .u64 (n : Int) ((1 : Nat) : Int) := rfl
  rw [e2, e]
  omega
theorem orBit (x b : Int) (h : 0 ≤ x) (h2 : x * 2 ≤ 18446744073709551615) (hb : 0 ≤ b) (hb2 : b ≤ 1) : bits .or .u64 (x * 2) b = x * 2 + b := by
  obtain ⟨n, rfl⟩ := Int.eq_ofNat_of_zero_le h
  obtain ⟨m, rfl⟩ := Int.eq_ofNat_of_zero_le hb
  have e := u64_or_nat (n * 2) m (by omega) (by omega)
  rw [nat_join 1 (n * 2) m (by omega) (by omega)] at e
  have e2 : (n : Int) * 2 = ((n * 2 : Nat) : Int) := by omega
  rw [e2, e]
  omega
theorem low_shift_bd (p : Int) (j : Nat) : 0 ≤ loW p / 2 ^ j ∧ loW p / 2 ^ j ≤ 18446744073709551615 := by
  have h := loW_bd p
  have h2 : loW p / 2 ^ j ≤ loW p := Int.ediv_le_self _ h.1
  exact ⟨Int.ediv_nonneg h.1 (Int.le_of_lt (Int.pow_pos (by omega))), by omega⟩

/-- MulDiv: whether there is an answer, and which. -/
def mdOk (a b c : Int) : Bool := decide (0 ≤ a) && decide (0 ≤ b) && decide (1 ≤ c) && decide (oz a * oz b / c ≤ 4611686018427387904)
def mdV (a b c : Int) : Int := if mdOk a b c then oz a * oz b / c else 0
theorem md_bad (a b c : Int) (h : a < 0 ∨ b < 0 ∨ c < 1) : mdV a b c = 0 ∧ mdOk a b c = false := by
  have e : mdOk a b c = false := by
    unfold mdOk
    rcases h with h | h | h
    · rw [decide_eq_false (by omega : ¬ 0 ≤ a)]; rfl
    · rw [decide_eq_false (by omega : ¬ 0 ≤ b)]; simp
    · rw [decide_eq_false (by omega : ¬ 1 ≤ c)]; simp
  exact ⟨by unfold mdV; rw [e]; rfl, e⟩
theorem md_over (a b c : Int) (h : 4611686018427387904 < oz a * oz b / c) : mdV a b c = 0 ∧ mdOk a b c = false := by
  have e : mdOk a b c = false := by
    unfold mdOk
    rw [decide_eq_false (by omega : ¬ oz a * oz b / c ≤ 4611686018427387904)]; simp
  exact ⟨by unfold mdV; rw [e]; rfl, e⟩
theorem md_good (a b c : Int) (ha : 0 ≤ a) (hb : 0 ≤ b) (hc : 1 ≤ c) (h : oz a * oz b / c ≤ 4611686018427387904) : mdV a b c = oz a * oz b / c ∧ mdOk a b c = true := by
  have e : mdOk a b c = true := by
    unfold mdOk
    rw [decide_eq_true ha, decide_eq_true hb, decide_eq_true hc, decide_eq_true h]; rfl
  exact ⟨by unfold mdV; rw [e]; rfl, e⟩
theorem hi_lt (p c : Int) (hc : 0 < c) (h : p / c ≤ 4611686018427387904) : hiW p < c := by
  have h1 : p < c * (p / c) + c := Int.lt_mul_ediv_self_add hc
  have h2 : c * (p / c) ≤ c * 4611686018427387904 := Int.mul_le_mul_of_nonneg_left h (by omega)
  unfold hiW
  omega
/-- Compare's answer. -/
def cmpV (p q : Int) : Int := if p < q then -1 else if q < p then 1 else 0
/-- Draw's answer. -/
def drawV (d n : Int) : Int := if n < 1 then 0 else d % n

theorem tmod_bd (d n : Int) (hn : 1 ≤ n) : -n < d.tmod n ∧ d.tmod n < n := by
  have h1 := Int.tmod_lt_of_pos d (b := n) (by omega)
  have h2 := Int.tmod_lt_of_pos (-d) (b := n) (by omega)
  rw [Int.neg_tmod] at h2
  omega
theorem draw_neg (d n : Int) (hn : 1 ≤ n) (h : d.tmod n < 0) : d.tmod n + n = drawV d n := by
  have b := tmod_bd d n hn
  have e := Int.tmod_add_mul_tdiv d n
  have u := (Int.ediv_emod_unique (a := d) (r := d.tmod n + n) (q := d.tdiv n - 1) (by omega : 0 < n)).2 ⟨by rw [Int.mul_sub]; omega, by omega, by omega⟩
  unfold drawV
  rw [if_neg (by omega), u.2]
theorem draw_pos (d n : Int) (hn : 1 ≤ n) (h : 0 ≤ d.tmod n) : d.tmod n = drawV d n := by
  have b := tmod_bd d n hn
  have e := Int.tmod_add_mul_tdiv d n
  have u := (Int.ediv_emod_unique (a := d) (r := d.tmod n) (q := d.tdiv n) (by omega : 0 < n)).2 ⟨by omega, by omega, by omega⟩
  unfold drawV
  rw [if_neg (by omega), u.2]

/-- The sum of those above 0; Sum's answer: at most MaxTime. -/
def sm : List Int → Int
  | [] => 0
  | x :: l => oz x + sm l
def sumV (l : List Int) : Int := if sm l ≤ 4611686018427387904 then sm l else 4611686018427387904
theorem sm_append (l m : List Int) : sm (l ++ m) = sm l + sm m := by
  induction l with
  | nil => simp [sm]
  | cons x l ih => simp only [List.cons_append, sm, ih]; omega
theorem sm_nonneg (l : List Int) : 0 ≤ sm l := by
  induction l with
  | nil => simp [sm]
  | cons x l ih => have := oz_nonneg x; simp only [sm]; omega
theorem getD_get (l : List Int) (k : Nat) (h : k < l.length) : l.getD k 0 = l[k] := by simp [List.getD, h]
theorem take_snoc (l : List Int) (k : Nat) (h : k < l.length) : l.take (k + 1) = l.take k ++ [l.getD k 0] := by
  rw [List.take_succ_eq_append_getElem h, getD_get _ _ h]
theorem sm_snoc (l : List Int) (k : Nat) (h : k < l.length) : sm (l.take (k + 1)) = sm (l.take k) + oz (l.getD k 0) := by
  rw [take_snoc l k h, sm_append]; simp [sm]
theorem sm_take_le (l : List Int) (k : Nat) : sm (l.take k) ≤ sm l := by
  have h := sm_append (l.take k) (l.drop k)
  rw [List.take_append_drop] at h
  have := sm_nonneg (l.drop k)
  omega
theorem sum_over (l : List Int) (k : Nat) (h : 4611686018427387904 < sm (l.take k)) : sumV l = 4611686018427387904 := by
  have := sm_take_le l k
  unfold sumV
  rw [if_neg (by omega)]
theorem sum_in (l : List Int) (h : sm l ≤ 4611686018427387904) : sumV l = sm l := by
  unfold sumV
  rw [if_pos h]

/-- May total be shared by the parts. -/
def mayB (total : Int) (l : List Int) : Bool := decide (0 ≤ total) && decide (total ≤ 1000000) && !decide (sumV l = 0) && l.all fun x => decide (x ≤ 4611686018427387904 / (l.length : Int))
theorem may_no1 (total : Int) (l : List Int) (h : total < 0) : mayB total l = false := by
  unfold mayB; rw [decide_eq_false (by omega : ¬ 0 ≤ total)]; rfl
theorem may_no2 (total : Int) (l : List Int) (h : 1000000 < total) : mayB total l = false := by
  unfold mayB; rw [decide_eq_false (by omega : ¬ total ≤ 1000000)]; simp
theorem may_no3 (total : Int) (l : List Int) (h : sumV l = 0) : mayB total l = false := by
  unfold mayB; rw [decide_eq_true h]; simp
theorem may_no4 (total : Int) (l : List Int) (k : Nat) (hk : k < l.length) (h : 4611686018427387904 / (l.length : Int) < l.getD k 0) : mayB total l = false := by
  have e : (l.all fun x => decide (x ≤ 4611686018427387904 / (l.length : Int))) = false := by
    rw [List.all_eq_false]
    exact ⟨l.getD k 0, by rw [getD_get _ _ hk]; exact List.getElem_mem hk, by simp only [decide_eq_true_eq]; omega⟩
  unfold mayB; rw [e]; simp
theorem may_yes (total : Int) (l : List Int) (h1 : 0 ≤ total) (h2 : total ≤ 1000000) (h3 : sumV l ≠ 0) (h4 : ∀ k, k < l.length → l.getD k 0 ≤ 4611686018427387904 / (l.length : Int)) : mayB total l = true := by
  have e : (l.all fun x => decide (x ≤ 4611686018427387904 / (l.length : Int))) = true := by
    rw [List.all_eq_true]
    intro x hx
    obtain ⟨k, hk, rfl⟩ := List.getElem_of_mem hx
    have := h4 k hk
    rw [getD_get _ _ hk] at this
    simpa using this
  unfold mayB; rw [e, decide_eq_true h1, decide_eq_true h2, decide_eq_false h3]; rfl

/-- How many of the first i are above 0. -/
def cp (l : List Int) : Nat → Int
  | 0 => 0
  | i + 1 => cp l i + if 0 < l.getD i 0 then 1 else 0
theorem cp_mono (l : List Int) (i j : Nat) (h : i ≤ j) : cp l i ≤ cp l j := by
  induction j with
  | zero => have : i = 0 := by omega
            subst this; exact Int.le_refl _
  | succ j ih =>
    by_cases e : i = j + 1
    · subst e; exact Int.le_refl _
    · have := ih (by omega)
      simp only [cp]
      split <;> omega
/-- What is left over, given one by one to those above 0: behind k places. -/
def giveF (l : List Int) (f : Nat → Int) (left : Int) (k i : Nat) : Int := f i + if i < k ∧ 0 < l.getD i 0 ∧ cp l i < left then 1 else 0
def leftF (l : List Int) (left : Int) (k : Nat) : Int := if cp l k < left then left - cp l k else 0
theorem give_start (l : List Int) (f : Nat → Int) (left : Int) (i : Nat) : giveF l f left 0 i = f i := by
  unfold giveF; rw [if_neg (by omega)]; omega
theorem left_start (l : List Int) (left : Int) (h : 0 ≤ left) : leftF l left 0 = left := by
  unfold leftF cp; split <;> omega
theorem left_bd (l : List Int) (left : Int) (k : Nat) (h : 0 ≤ left) : 0 ≤ leftF l left k ∧ leftF l left k ≤ left := by
  have h0 := cp_mono l 0 k (by omega)
  have e : cp l 0 = 0 := rfl
  unfold leftF
  split <;> omega
theorem give_done (l : List Int) (f : Nat → Int) (left : Int) (k n i : Nat) (h : leftF l left k = 0) (hi : i < n) : giveF l f left k i = giveF l f left n i := by
  have hc : left ≤ cp l k := by unfold leftF at h; split at h <;> omega
  unfold giveF
  by_cases e : i < k
  · simp [e, hi]
  · have := cp_mono l k i (by omega)
    rw [if_neg (by omega), if_neg (by omega)]
theorem give_pos (l : List Int) (f : Nat → Int) (left : Int) (k i : Nat) (h : leftF l left k ≠ 0) (hx : 0 < l.getD k 0) :
    giveF l f left (k + 1) i = if i = k then giveF l f left k k + 1 else giveF l f left k i := by
  have hc : cp l k < left := by unfold leftF at h; split at h <;> omega
  unfold giveF
  by_cases e : i = k
  · subst e
    rw [if_pos rfl, if_pos ⟨by omega, hx, hc⟩, if_neg (by omega)]; omega
  · rw [if_neg e]
    congr 1
    by_cases e2 : i < k
    · simp [e2, show i < k + 1 by omega]
    · rw [if_neg (by omega), if_neg (by omega)]
theorem left_pos (l : List Int) (left : Int) (k : Nat) (h : leftF l left k ≠ 0) (hx : 0 < l.getD k 0) : leftF l left (k + 1) = leftF l left k - 1 := by
  have e : cp l (k + 1) = cp l k + 1 := by simp only [cp]; rw [if_pos hx]
  unfold leftF at *
  rw [e]
  split at h
  · rename_i hc
    rw [if_pos hc]
    split <;> omega
  · omega
theorem give_neg (l : List Int) (f : Nat → Int) (left : Int) (k i : Nat) (hx : ¬ 0 < l.getD k 0) : giveF l f left (k + 1) i = giveF l f left k i := by
  unfold giveF
  congr 1
  by_cases e : i = k
  · subst e; rw [if_neg (by omega), if_neg (by omega)]
  · by_cases e2 : i < k
    · simp [e2, show i < k + 1 by omega]
    · rw [if_neg (by omega), if_neg (by omega)]
theorem left_neg (l : List Int) (left : Int) (k : Nat) (hx : ¬ 0 < l.getD k 0) : leftF l left (k + 1) = leftF l left k := by
  have e : cp l (k + 1) = cp l k := by simp only [cp]; rw [if_neg hx]; omega
  unfold leftF
  rw [e]

/-- The share of place i, ahead of what is left over; the sum of the first k shares. -/
def shareF (total : Int) (l : List Int) (i : Nat) : Int := mdV total (oz (l.getD i 0)) (sumV l)
def fsum (total : Int) (l : List Int) : Nat → Int
  | 0 => 0
  | k + 1 => fsum total l k + shareF total l k
/-- Spread's answer. -/
def spreadV (total : Int) (l : List Int) : List Int :=
  if mayB total l then (List.range l.length).map (giveF l (shareF total l) (total - fsum total l l.length) l.length) else []
theorem may_facts (total : Int) (l : List Int) (h : mayB total l = true) : 0 ≤ total ∧ total ≤ 1000000 ∧ sumV l ≠ 0 ∧ ∀ x ∈ l, x ≤ 4611686018427387904 / (l.length : Int) := by
  unfold mayB at h
  simp only [Bool.and_eq_true, decide_eq_true_eq, Bool.not_eq_true', decide_eq_false_iff_not, List.all_eq_true] at h
  exact ⟨h.1.1.1, h.1.1.2, h.1.2, h.2⟩

theorem sumV_bd (l : List Int) : 0 ≤ sumV l ∧ sumV l ≤ 4611686018427387904 := by
  have := sm_nonneg l
  unfold sumV
  split <;> omega
theorem sm_le (l : List Int) (m : Int) (h0 : 0 ≤ m) (h : ∀ x ∈ l, x ≤ m) : sm l ≤ l.length * m := by
  induction l with
  | nil => simp [sm]
  | cons x l ih =>
    have h1 := ih fun y hy => h y (List.mem_cons_of_mem _ hy)
    have h2 := oz_le x m (h x List.mem_cons_self) h0
    have e : ((l.length + 1 : Nat) : Int) * m = l.length * m + m := by rw [Int.natCast_add, Int.add_mul]; simp
    simp only [sm, List.length_cons]
    omega
theorem may_sum (total : Int) (l : List Int) (h : mayB total l = true) : sumV l = sm l ∧ 0 < sm l := by
  obtain ⟨h0, h1, h2, h3⟩ := may_facts total l h
  have hq : 0 ≤ 4611686018427387904 / (l.length : Int) := Int.ediv_nonneg (by omega) (by omega)
  have hs := sm_le l _ hq h3
  have hl : (l.length : Int) ≠ 0 := by
    intro e
    have : l = [] := List.eq_nil_of_length_eq_zero (by omega)
    subst this
    exact h2 rfl
  have hd : (l.length : Int) * (4611686018427387904 / (l.length : Int)) ≤ 4611686018427387904 := Int.mul_ediv_self_le hl
  have e := sum_in l (by omega)
  have := sm_nonneg l
  exact ⟨e, by omega⟩
theorem oz_le_sm (l : List Int) (k : Nat) (h : k < l.length) : oz (l.getD k 0) ≤ sm l := by
  have h1 := sm_snoc l k h
  have h2 := sm_take_le l (k + 1)
  have h3 := sm_nonneg (l.take k)
  omega
theorem share_eq (total : Int) (l : List Int) (h : mayB total l = true) (k : Nat) (hk : k < l.length) : shareF total l k = total * oz (l.getD k 0) / sm l := by
  obtain ⟨h0, h1, h2, h3⟩ := may_facts total l h
  obtain ⟨e, hp⟩ := may_sum total l h
  have hz := oz_nonneg (l.getD k 0)
  have hle := oz_le_sm l k hk
  unfold shareF
  rw [e]
  have e1 : oz total = total := oz_pos h0
  have e2 : oz (oz (l.getD k 0)) = oz (l.getD k 0) := oz_pos hz
  have hb : total * oz (l.getD k 0) / sm l ≤ total := by
    have : total * oz (l.getD k 0) ≤ total * sm l := Int.mul_le_mul_of_nonneg_left hle h0
    exact Int.le_trans (Int.ediv_le_ediv hp this) (by rw [Int.mul_ediv_cancel _ (by omega)]; exact Int.le_refl _)
  have g := (md_good total (oz (l.getD k 0)) (sm l) h0 hz (by omega) (by rw [e1, e2]; omega)).1
  rw [g, e1, e2]
theorem share_bd (total : Int) (l : List Int) (h : mayB total l = true) (k : Nat) (hk : k < l.length) : 0 ≤ shareF total l k ∧ shareF total l k ≤ 1000000 := by
  obtain ⟨h0, h1, h2, h3⟩ := may_facts total l h
  obtain ⟨e, hp⟩ := may_sum total l h
  have hz := oz_nonneg (l.getD k 0)
  have hle := oz_le_sm l k hk
  rw [share_eq total l h k hk]
  have hb : total * oz (l.getD k 0) / sm l ≤ total := by
    have : total * oz (l.getD k 0) ≤ total * sm l := Int.mul_le_mul_of_nonneg_left hle h0
    exact Int.le_trans (Int.ediv_le_ediv hp this) (by rw [Int.mul_ediv_cancel _ (by omega)]; exact Int.le_refl _)
  exact ⟨Int.ediv_nonneg (Int.mul_nonneg h0 hz) (by omega), by omega⟩
theorem fsum_mul (total : Int) (l : List Int) (h : mayB total l = true) (k : Nat) (hk : k ≤ l.length) : sm l * fsum total l k ≤ total * sm (l.take k) := by
  obtain ⟨e, hp⟩ := may_sum total l h
  induction k with
  | zero => simp [fsum, sm]
  | succ k ih =>
    have h1 := ih (by omega)
    have h2 := sm_snoc l k (by omega)
    have h3 := share_eq total l h k (by omega)
    have h4 : sm l * (total * oz (l.getD k 0) / sm l) ≤ total * oz (l.getD k 0) := Int.mul_ediv_self_le (by omega)
    simp only [fsum]
    rw [h2, h3, Int.mul_add, Int.mul_add]
    omega
theorem getD_out (l : List Int) (k : Nat) (h : l.length ≤ k) : l.getD k 0 = 0 := by simp [List.getD, h]
theorem fsum_bd (total : Int) (l : List Int) (h : mayB total l = true) (k : Nat) : 0 ≤ fsum total l k ∧ fsum total l k ≤ total := by
  obtain ⟨h0, h1, h2, h3⟩ := may_facts total l h
  obtain ⟨e, hp⟩ := may_sum total l h
  have out : ∀ k, l.length ≤ k → shareF total l k = 0 := by
    intro k hk
    unfold shareF
    rw [getD_out l k hk, e]
    have e1 : oz total = total := oz_pos h0
    have e2 : oz (oz 0) = 0 := rfl
    have e3 : oz 0 = 0 := rfl
    have g := (md_good total (oz 0) (sm l) h0 (by rw [e3]; omega) (by omega) (by rw [e1, e2]; simp)).1
    rw [g, e1, e2]
    simp
  have pos : ∀ k, 0 ≤ fsum total l k := by
    intro k
    induction k with
    | zero => simp [fsum]
    | succ k ih =>
      simp only [fsum]
      by_cases hk : k < l.length
      · have := (share_bd total l h k hk).1
        omega
      · rw [out k (by omega)]; omega
  have le : ∀ k, k ≤ l.length → fsum total l k ≤ total := by
    intro k hk
    have h4 := fsum_mul total l h k hk
    have h5 : total * sm (l.take k) ≤ total * sm l := Int.mul_le_mul_of_nonneg_left (sm_take_le l k) h0
    rw [Int.mul_comm] at h4
    exact Int.le_of_mul_le_mul_right (Int.le_trans h4 h5) hp
  refine ⟨pos k, ?_⟩
  induction k with
  | zero => simpa [fsum] using h0
  | succ k ih =>
    by_cases hk : k < l.length
    · exact le (k + 1) (by omega)
    · simp only [fsum]
      rw [out k (by omega)]
      omega

/-- The school method on halves of 32 bits, as the program's 'times' goes: no step wraps, and what it comes to. -/
theorem times_law (x y : Nat) (hx : x < 18446744073709551616) (hy : y < 18446744073709551616) :
    (x % 4294967296) * (y % 4294967296) < 18446744073709551616 ∧
    (x / 4294967296) * (y % 4294967296) < 18446744073709551616 ∧
    (x / 4294967296) * (y % 4294967296) + (x % 4294967296) * (y % 4294967296) / 4294967296 < 18446744073709551616 ∧
    (x % 4294967296) * (y / 4294967296) < 18446744073709551616 ∧
    (x % 4294967296) * (y / 4294967296) + ((x / 4294967296) * (y % 4294967296) + (x % 4294967296) * (y % 4294967296) / 4294967296) % 4294967296 < 18446744073709551616 ∧
    (x / 4294967296) * (y / 4294967296) < 18446744073709551616 ∧
    (x / 4294967296) * (y / 4294967296) + ((x / 4294967296) * (y % 4294967296) + (x % 4294967296) * (y % 4294967296) / 4294967296) / 4294967296 < 18446744073709551616 ∧
    (x / 4294967296) * (y / 4294967296) + ((x / 4294967296) * (y % 4294967296) + (x % 4294967296) * (y % 4294967296) / 4294967296) / 4294967296 +
      ((x % 4294967296) * (y / 4294967296) + ((x / 4294967296) * (y % 4294967296) + (x % 4294967296) * (y % 4294967296) / 4294967296) % 4294967296) / 4294967296 < 18446744073709551616 ∧
    (x / 4294967296) * (y / 4294967296) + ((x / 4294967296) * (y % 4294967296) + (x % 4294967296) * (y % 4294967296) / 4294967296) / 4294967296 +
      ((x % 4294967296) * (y / 4294967296) + ((x / 4294967296) * (y % 4294967296) + (x % 4294967296) * (y % 4294967296) / 4294967296) % 4294967296) / 4294967296 = x * y / 18446744073709551616 ∧
    ((x % 4294967296) * (y / 4294967296) + ((x / 4294967296) * (y % 4294967296) + (x % 4294967296) * (y % 4294967296) / 4294967296) % 4294967296) * 4294967296 % 18446744073709551616 + (x % 4294967296) * (y % 4294967296) % 4294967296 = x * y % 18446744073709551616 := by
  have e : x * y = (x / 4294967296) * (y / 4294967296) * (4294967296 * 4294967296) + ((x / 4294967296) * (y % 4294967296) + (x % 4294967296) * (y / 4294967296)) * 4294967296 + (x % 4294967296) * (y % 4294967296) := by
    rw [← Lib.split_mul, Nat.div_add_mod' x 4294967296, Nat.div_add_mod' y 4294967296]
  have ha := Lib.half_mul_le (a := x / 4294967296) (b := y / 4294967296) (by omega) (by omega)
  have hb := Lib.half_mul_le (a := x / 4294967296) (b := y % 4294967296) (by omega) (by omega)
  have hc := Lib.half_mul_le (a := x % 4294967296) (b := y / 4294967296) (by omega) (by omega)
  have hd := Lib.half_mul_le (a := x % 4294967296) (b := y % 4294967296) (by omega) (by omega)
  rw [e]
  generalize (x / 4294967296) * (y / 4294967296) = a at *
  generalize (x / 4294967296) * (y % 4294967296) = b at *
  generalize (x % 4294967296) * (y / 4294967296) = c at *
  generalize (x % 4294967296) * (y % 4294967296) = d at *
  refine ⟨by omega, by omega, by omega, by omega, by omega, by omega, by omega, by omega, by omega, by omega⟩

end Go.Proofs.Ytcafjjfaamjipaa

/-
  Lemmas of our own that no program stands in: how a slice of numbers lies in memory, what is owned, a region that draws its order over worlds that are alike below a block.
-/
namespace Go.Proofs.Ytcafjjfaamjipaa
open Go.RowKit Go.ChangeShapes

theorem ret_int {k : IntKind} {a b : Int} (h : a = b) : Ending.returned (.int k a) = .returned (.int k b) := by rw [h]

theorem ret_ib {k : IntKind} {a b : Int} (h : a = b) (c : Bool) : Ending.returned (.tuple #[.int k a, .bool c]) = .returned (.tuple #[.int k b, .bool c]) := by rw [h]
theorem bcell {W w1 : World} (hb : Below W.heap.size W w1) : (∀ b o, b < W.heap.size → w1.cell? ⟨b, o, none⟩ = W.cell? ⟨b, o, none⟩) ∧ (∀ b o, b < W.heap.size → w1.frozen? ⟨b, o, none⟩ = W.frozen? ⟨b, o, none⟩) :=
  ⟨fun b o h => hb.cell (p := ⟨b, o, none⟩) h, fun b o h => hb.frozen (p := ⟨b, o, none⟩) h⟩

theorem ret_tup (a b : Int) (c d : Bool) (h : a = b) (h2 : c = d) : Ending.returned (.tuple #[.int .i64 a, .bool c]) = .returned (.tuple #[.int .i64 b, .bool d]) := by rw [h, h2]

/-- A slice value that holds the numbers zs. -/
def IsInts (w : World) (v : Value) (zs : List Int) : Prop :=
  (∀ n ∈ zs, -9223372036854775808 ≤ n ∧ n ≤ 9223372036854775807) ∧ zs.length ≤ 9223372036854775807 ∧
  ((zs = [] ∧ ∃ ao cap, v = .slice ao 0 cap ∧ (ao = none → cap = 0)) ∨ (zs ≠ [] ∧ ∃ b off cap, v = .slice (some ⟨b, off, none⟩) zs.length cap ∧ b < w.heap.size ∧ ∀ i, i < zs.length → w.cell? ⟨b, off + i, none⟩ = some (.int .i64 (zs.getD i 0))))

theorem IsInts.below {w w' : World} {v : Value} {zs : List Int} (h : IsInts w v zs) (hb : Below w.heap.size w w') : IsInts w' v zs := by
  obtain ⟨h1, h2, h3⟩ := h
  refine ⟨h1, h2, ?_⟩
  rcases h3 with h3 | ⟨h3, b, off, cap, rfl, hlt, hc⟩
  · exact .inl h3
  · exact .inr ⟨h3, b, off, cap, rfl, Nat.lt_of_lt_of_le hlt hb.size, fun i hi => (hb.cell (p := ⟨b, off + i, none⟩) hlt).trans (hc i hi)⟩

theorem getD_bd {zs : List Int} (h : ∀ n ∈ zs, -9223372036854775808 ≤ n ∧ n ≤ 9223372036854775807) (k : Nat) (hk : k < zs.length) : -9223372036854775808 ≤ zs.getD k 0 ∧ zs.getD k 0 ≤ 9223372036854775807 := by
  rw [getD_get _ _ hk]
  exact h _ (List.getElem_mem hk)

theorem ret_bool {a b : Bool} (h : a = b) : Ending.returned (.bool a) = .returned (.bool b) := by rw [h]

/-- Block B, not frozen, holds the n numbers f 0, f 1, .. -/
def Own (w : World) (B n : Nat) (f : Nat → Int) : Prop :=
  B < w.heap.size ∧ (∀ i, i < n → w.cell? ⟨B, i, none⟩ = some (.int .i64 (f i))) ∧ ∀ i, w.frozen? ⟨B, i, none⟩ = false

theorem Own.congr {w : World} {B n : Nat} {f g : Nat → Int} (h : Own w B n f) (e : ∀ i, i < n → f i = g i) : Own w B n g :=
  ⟨h.1, fun i hi => by rw [h.2.1 i hi, e i hi], h.2.2⟩

theorem Own.set {w : World} {B n : Nat} {f : Nat → Int} (h : Own w B n f) (k : Nat) (hk : k < n) (x : Int) :
    Own (w.setCell ⟨B, k, none⟩ (.int .i64 x)) B n (fun i => if i = k then x else f i) := by
  refine ⟨by simpa [World.setCell] using h.1, fun i hi => ?_, fun i => ?_⟩
  · by_cases e : i = k
    · subst e
      show _ = some (Value.int .i64 (if i = i then x else f i))
      rw [if_pos rfl]
      exact World.cell?_setCell_same _ _ _ (h.2.1 i hi)
    · show _ = some (Value.int .i64 (if i = k then x else f i))
      rw [if_neg e, World.cell?_setCell_other _ _ _ _ (fun h => e (congrArg Addr.off h).symm)]
      exact h.2.1 i hi
  · simp [h.2.2 i]

theorem Own.below {w w' : World} {B n : Nat} {f : Nat → Int} (h : Own w B n f) (hb : Below w.heap.size w w') : Own w' B n f :=
  ⟨Nat.lt_of_lt_of_le h.1 hb.size, fun i hi => (hb.cell (p := ⟨B, i, none⟩) h.1).trans (h.2.1 i hi), fun i => (hb.frozen (p := ⟨B, i, none⟩) h.1).trans (h.2.2 i)⟩

theorem Own.isInts {w : World} {B n : Nat} {f : Nat → Int} (h : Own w B n f) (h0 : 0 < n) (hn : n ≤ 1000000) (hf : ∀ i, i < n → 0 ≤ f i ∧ f i ≤ 1000001) :
    IsInts w (.slice (some ⟨B, 0, none⟩) n n) ((List.range n).map f) := by
  refine ⟨?_, by simp; omega, .inr ⟨?_, B, 0, n, by simp, h.1, ?_⟩⟩
  · intro x hx
    simp only [List.mem_map, List.mem_range] at hx
    obtain ⟨i, hi, rfl⟩ := hx
    have := hf i hi
    omega
  · intro e
    have := congrArg List.length e
    simp at this
    omega
  · intro i hi
    have hi' : i < n := by simpa using hi
    rw [Nat.zero_add, h.2.1 i hi']
    simp [hi']

theorem Own.made {w' : World} {base e n : Nat} {B : Nat} (h : w'.ownsRow base e 1 (.slice (some ⟨B, 0, none⟩) n n) n (madeCells #[Value.int IntKind.i64 0] n).toList) (hB : B < w'.heap.size) :
    Own w' B n (fun _ => 0) := by
  refine ⟨hB, fun i hi => ?_, fun i => h.frozenAt i⟩
  rw [h.cellAt i (by omega), toList_madeCells_one]
  simp [hi]

/-- A slice that the call has just laid down. -/
theorem IsInts.fresh (w : World) (zs : List Int) (t cap : Nat) (h : ∀ n ∈ zs, -9223372036854775808 ≤ n ∧ n ≤ 9223372036854775807) (hl : zs.length ≤ 9223372036854775807) (hne : zs ≠ []) :
    IsInts (w.alloc (.cells (zs.map (Value.int .i64)).toArray t)) (.slice (some ⟨w.heap.size, 0, none⟩) zs.length cap) zs := by
  refine ⟨h, hl, .inr ⟨hne, w.heap.size, 0, cap, rfl, by simp, fun i hi => ?_⟩⟩
  rw [Nat.zero_add, World.cell?_alloc_at _ _ _ _ rfl]
  simp [hi]

theorem wf_i64 {n : Int} (h : (Lit.int .i64 n).wf = true) : -9223372036854775808 ≤ n ∧ n ≤ 9223372036854775807 := bounds_i64 h

theorem isInts_nil (w : World) : IsInts w (.slice none 0 0) [] := ⟨by simp, by simp, .inl ⟨rfl, _, _, rfl, fun _ => rfl⟩⟩

theorem isInts_row {w : World} {x : Addr} {len cap : Nat} {zs : List Int} (hl : len ≤ cap) (hm : cap ≤ maxLen) (hz : zs.length = cap)
    (hcell : ∀ i, i < zs.length → w.cell? (x.add i) = some (.int .i64 (zs.getD i 0))) (hwz : ∀ n ∈ zs, (Lit.int .i64 n).wf = true) : IsInts w (.slice (some x) len cap) (zs.take len) := by
  have e : (zs.take len).length = len := by simp; omega
  unfold maxLen at hm
  refine ⟨fun n hn => wf_i64 (hwz n (List.mem_of_mem_take hn)), by omega, ?_⟩
  by_cases h0 : len = 0
  · subst h0
    exact .inl ⟨by simp, _, _, rfl, fun h => by cases h⟩
  · obtain ⟨b, off, spot⟩ := x
    have hc := hcell 0 (by omega)
    have hspot : spot = none := by simpa [Addr.add] using World.cell?_spot hc
    subst hspot
    refine .inr ⟨fun h => by rw [h] at e; simp at e; omega, b, off, cap, by rw [e], ?_, fun i hi => ?_⟩
    · have hc0 : w.cell? ⟨b, off, none⟩ = some (.int .i64 (zs.getD 0 0)) := by simpa [Addr.add] using hc
      exact World.block_lt_of_cell? _ _ hc0
    · have h1 := hcell i (by omega)
      have h2 : (zs.take len).getD i 0 = zs.getD i 0 := by
        rw [getD_get _ _ hi, getD_get _ _ (by omega)]; simp
      rw [h2, ← h1]
      by_cases e0 : i = 0
      · subst e0; simp [Addr.add]
      · simp [Addr.add, e0]

/-- A world that is as w0 was below block B. -/
structure WB (B : Nat) (w0 : World) where
  w : World
  h : Below B w0 w

/-- A region that draws its order, and whose operations yield one value each in whatever world that is as w0 was below block B: one walk, in the order of the text. -/
theorem wp_region_below {P : Program} {id : Nat} {Q : Exit → Act → World → Prop} {a : Act} {w : World} {l : List Oper} (B : Nat) (w0 : World) (hm : P.follows .mixedOrders = true) (hB : Region.lexB .any l.toArray = true)
    (hb : Below B w0 w) (h : wpQuiet P l.toArray (fun w' => ∃ s : WB B w0, w' = s.w) (fun a' => ∀ w', (∃ s : WB B w0, w' = s.w) → Q .normal a' w') l a) : (Code.region id l.toArray true).wp P Q a w :=
  wp_region_quiet (C := fun w' => ∃ s : WB B w0, w' = s.w) hm hB ⟨⟨_, hb.drew⟩, rfl⟩ (by simpa using h)

/-- A callee that makes memory and turns none. -/
theorem calls_below {P : Program} {f : FuncId} {args : Array Value} {B : Nat} {w0 : World} {s : WB B w0} {v : Value} (hB : B ≤ w0.heap.size)
    (h : Calls P f args s.w fun e w' => e = .returned v ∧ Below s.w.heap.size s.w w') : Calls P f args s.w fun e w'' => e = .returned v ∧ ∃ s' : WB B w0, w'' = s'.w :=
  h.mono fun _ _ ⟨he, hb⟩ => ⟨he, ⟨_, s.h.trans (hb.mono (Nat.le_trans hB s.h.size))⟩, rfl⟩
/-- A callee that leaves the world as it is. -/
theorem calls_same {P : Program} {f : FuncId} {args : Array Value} {B : Nat} {w0 : World} {s : WB B w0} {v : Value}
    (h : Calls P f args s.w fun e w' => e = .returned v ∧ w' = s.w) : Calls P f args s.w fun e w'' => e = .returned v ∧ ∃ s' : WB B w0, w'' = s'.w :=
  h.mono fun _ _ ⟨he, hb⟩ => ⟨he, s, hb⟩

theorem IsInts.shape {w : World} {v : Value} {zs : List Int} (h : IsInts w v zs) : ∃ ao cap, v = .slice ao zs.length cap := by
  rcases h.2.2 with ⟨rfl, ao, cap, rfl, _⟩ | ⟨_, b, off, cap, rfl, _⟩
  · exact ⟨ao, cap, rfl⟩
  · exact ⟨_, cap, rfl⟩

/-- What the call owns, as a slice of numbers. -/
theorem isInts_own {w : World} {base e n : Nat} {v : Value} {zs : List Int} (h : w.ownsRow base e 1 v n (zs.map (Value.int .i64))) (hn : n = zs.length) (hl : zs.length ≤ 9223372036854775807)
    (hz : ∀ x ∈ zs, -9223372036854775808 ≤ x ∧ x ≤ 9223372036854775807) : IsInts w v zs := by
  subst hn
  refine ⟨hz, hl, ?_⟩
  have ho := h
  rcases h.2 with ⟨rfl, h0⟩ | ⟨g, cap, cur, rfl, _, hg, _⟩
  · exact .inl ⟨List.eq_nil_of_length_eq_zero h0, _, _, rfl, fun _ => rfl⟩
  · by_cases e0 : zs = []
    · subst e0
      exact .inl ⟨rfl, _, _, rfl, fun h => by cases h⟩
    · refine .inr ⟨e0, g, 0, cap, rfl, (Array.getElem?_eq_some_iff.1 hg).1, fun i hi => ?_⟩
      rw [Nat.zero_add, ho.cellAt i (by omega)]
      simp [hi]

/-- 'T[]{}', laid down by the call. -/
theorem own_lit0 (w : World) (e : TypeId) : (w.alloc (.cells #[] e)).ownsRow w.heap.size e 1 (.slice (some ⟨w.heap.size, 0, none⟩) 0 0) 0 [] :=
  ⟨rfl, .inr ⟨w.heap.size, 0, #[], rfl, Nat.le_refl _, by show (w.heap.push _)[w.heap.size]? = _; simp, Nat.le_refl _, by decide, rfl, rfl⟩⟩

theorem own_base {w : World} {base e size n : Nat} {v : Value} {xs : List Value} (h : w.ownsRow base e size v n xs) : ∀ k, v.ownBlock = some k → base ≤ k := by
  intro k hk
  rcases h.2 with ⟨rfl, _⟩ | ⟨g, cap, cur, rfl, hb, _⟩
  · simp [Value.ownBlock] at hk
  · simp [Value.ownBlock] at hk; omega

/-- 'append(s, x...)' onto what the call owns, x a slice of numbers, nil or empty or not. -/
theorem wpList_append_ints {P : Program} {w : World} {ops : Array Oper} {rest : List Oper} {o : Oper} {a : Act} {Q : Exit → Act → World → Prop} (hgd : o.guard = none) (s x : Operand) (t : TypeId)
    (ho : o.op = .call { callee := .builtin .append, args := #[s, x], argTypes := #[t, t] })
    (base : Nat) (e : TypeId) (i : TypeInfo) (ht : P.underlying t = some (.slice e)) (hi : P.info? e = some i) (hz : i.zero = some (.int .i64 0)) (hsize : i.size = 1) (hby : i.bytes = 8)
    (v : Value) (ys : List Int) (hs : a.eval s = v) (hown : w.ownsRow base e 1 v ys.length (ys.map (Value.int .i64)))
    (X : Value) (zs : List Int) (hx : a.eval x = X) (hX : IsInts w X zs) (hb : (ys.length + zs.length) * 8 ≤ 140737488355328) (hbase : base ≤ w.heap.size)
    (h : ∀ v' w', w'.ownsRow base e 1 v' (ys ++ zs).length ((ys ++ zs).map (Value.int .i64)) → w.grownBy w' v.ownBlock → wpList P ops Q rest (a.put o.dst v') w') : wpList P ops Q (o :: rest) a w := by
  rcases hX.2.2 with ⟨rfl, ao, cap, rfl, hn⟩ | ⟨_, b, off, cap, rfl, _, hc⟩
  · cases ao with
    | none =>
      have := hn rfl
      subst this
      exact wpList_append_own_none hgd s x t ho base e i 1 ht hi v ys.length _ hs hown hx (h v w (by simpa using hown) ⟨rfl, rfl, rfl, Nat.le_refl _, fun _ _ _ => rfl⟩)
    | some ad =>
      refine wpList_append_own w hgd s x t ho base e i _ 1 8 ht hi hz hsize hby rfl (by decide) v ys.length _ hs hown ad 0 cap [] hx rfl (by simp) (by simp) (by unfold maxLen; omega) (by simpa using hb) hbase ?_
      intro v' w' h1 h2 _
      exact h v' w' (by simpa using h1) h2
  · refine wpList_append_own w hgd s x t ho base e i _ 1 8 ht hi hz hsize hby rfl (by decide) v ys.length _ hs hown ⟨b, off, none⟩ zs.length cap (zs.map (Value.int .i64)) hx (by simp) ?_ ?_ (by unfold maxLen; omega) hb hbase ?_
    · intro j u hu
      rw [List.getElem?_map] at hu
      cases hj : zs[j]? with
      | none => rw [hj] at hu; simp at hu
      | some y =>
        rw [hj] at hu
        simp at hu
        subst hu
        obtain ⟨hlt, he⟩ := List.getElem?_eq_some_iff.1 hj
        have h1 := hc j hlt
        rw [getD_get _ _ hlt, he] at h1
        by_cases e0 : j = 0
        · subst e0; simpa [Addr.add] using h1
        · simpa [Addr.add, e0] using h1
    · intro u hu
      simp at hu
      obtain ⟨y, _, rfl⟩ := hu
      rfl
    · intro v' w' h1 h2 _
      exact h v' w' (by simpa using h1) h2

end Go.Proofs.Ytcafjjfaamjipaa

/-
  How a slice of flat elements (sz cells each) lies in memory; append onto what the call owns. No program stands in it.
-/
namespace Go.Proofs.Ytcafjjfaamjipaa
open Go.RowKit Go.ChangeShapes

/-- A slice's length is within its room. -/
def roomy : Value → Prop
  | .slice _ n cap => n ≤ cap ∧ cap ≤ maxLen
  | _ => True

/-- A slice value of n elements of sz cells each, the cells cs. -/
def IsRow (sz : Nat) (w : World) (v : Value) (n : Nat) (cs : List Value) : Prop :=
  cs.length = n * sz ∧ (n ≤ maxLen ∧ roomy v) ∧
  ((n = 0 ∧ ∃ ao cap, v = .slice ao 0 cap ∧ (ao = none → cap = 0)) ∨ (0 < n ∧ ∃ b off cap, v = .slice (some ⟨b, off, none⟩) n cap ∧ b < w.heap.size ∧ ∀ j, j < n * sz → w.cell? ⟨b, off + j, none⟩ = cs[j]?))

theorem IsRow.below {sz n : Nat} {w w' : World} {v : Value} {cs : List Value} (h : IsRow sz w v n cs) (hb : Below w.heap.size w w') : IsRow sz w' v n cs := by
  obtain ⟨h1, h2, h3⟩ := h
  refine ⟨h1, h2, ?_⟩
  rcases h3 with h3 | ⟨h3, b, off, cap, rfl, hlt, hc⟩
  · exact .inl h3
  · exact .inr ⟨h3, b, off, cap, rfl, Nat.lt_of_lt_of_le hlt hb.size, fun j hj => (hb.cell (p := ⟨b, off + j, none⟩) hlt).trans (hc j hj)⟩

/-- What the call owns. -/
theorem isRow_own {w : World} {base e sz n : Nat} {v : Value} {cs : List Value} (h : w.ownsRow base e sz v n cs) : IsRow sz w v n cs := by
  have ho := h
  obtain ⟨hl, h⟩ := h
  rcases h with ⟨rfl, rfl⟩ | ⟨g, cap, cur, rfl, _, hg, hn, hm, _⟩
  · exact ⟨hl, ⟨by unfold maxLen; omega, by unfold roomy maxLen; omega⟩, .inl ⟨rfl, _, _, rfl, fun _ => rfl⟩⟩
  · refine ⟨hl, ⟨Nat.le_trans hn hm, hn, hm⟩, ?_⟩
    by_cases e0 : n = 0
    · subst e0
      exact .inl ⟨rfl, _, _, rfl, fun h => by cases h⟩
    · exact .inr ⟨by omega, g, 0, cap, rfl, (Array.getElem?_eq_some_iff.1 hg).1, fun j hj => by rw [Nat.zero_add]; exact ho.cellAt j hj⟩

/-- A slice that the call has just laid down. -/
theorem IsRow.fresh (w : World) (cs : List Value) (sz n t cap : Nat) (hl : cs.length = n * sz) (hn : n ≤ cap) (hm : cap ≤ maxLen) (h0 : 0 < n) :
    IsRow sz (w.alloc (.cells cs.toArray t)) (.slice (some ⟨w.heap.size, 0, none⟩) n cap) n cs := by
  refine ⟨hl, ⟨Nat.le_trans hn hm, hn, hm⟩, .inr ⟨h0, w.heap.size, 0, cap, rfl, by simp, fun j hj => ?_⟩⟩
  rw [Nat.zero_add, World.cell?_alloc_at _ _ _ _ rfl]
  simp

/-- 'append(s, x...)' onto what the call owns, x a slice of flat elements, nil or empty or not: the run. -/
theorem run_append_row {P : Program} {w : World} (base : Nat) (t ty e : TypeId) (i : TypeInfo) (z : Value) (sz bytes : Nat) (ht : P.underlying t = some (.slice e)) (hi : P.info? e = some i) (hz : i.zero = some z)
    (hsize : i.size = sz) (hby : i.bytes = bytes) (hzs : z.cells.size = sz) (hsz : 0 < sz)
    (v : Value) (n : Nat) (xs : List Value) (hown : w.ownsRow base e sz v n xs)
    (X : Value) (m : Nat) (cs : List Value) (hX : IsRow sz w X m cs) (h1 : ∀ u ∈ cs, u.oneCell' = true) (h63 : n + m ≤ maxLen) (hbytes : (n + m) * bytes ≤ 140737488355328) (hbase : base ≤ w.heap.size) :
    ∃ v' w', (Builtin.append_ #[t, t] ty #[v, X]).run P w = .ok v' w' ∧ w'.ownsRow base e sz v' (n + m) (xs ++ cs) ∧ w.grownBy w' v.ownBlock ∧ (v'.ownBlock = v.ownBlock ∨ v'.ownBlock = some w.heap.size) := by
  obtain ⟨hl, hm, hX⟩ := hX
  rcases hX with ⟨rfl, ao, cap, rfl, hn⟩ | ⟨hpos, b, off, cap, rfl, _, hc⟩
  · obtain rfl : cs = [] := List.eq_nil_of_length_eq_zero (by omega)
    cases ao with
    | none =>
      have := hn rfl
      subst this
      exact ⟨v, w, run_append_owned_none w base t ty e i sz ht hi v n _ hown, by simpa using hown, ⟨rfl, rfl, rfl, Nat.le_refl _, fun _ _ _ => rfl⟩, .inl rfl⟩
    | some ad =>
      obtain ⟨v', w', hr, h2, h3, _, h5⟩ := run_append_own_at (P := P) w base t ty e i z sz bytes ht hi hz hsize hby hzs hsz v n _ hown ad 0 cap [] (by simp) (by simp) (by simp) h63 hbytes hbase
      exact ⟨v', w', hr, h2, h3, h5⟩
  · obtain ⟨v', w', hr, h2, h3, _, h5⟩ := run_append_own_at (P := P) w base t ty e i z sz bytes ht hi hz hsize hby hzs hsz v n _ hown ⟨b, off, none⟩ m cap cs hl (fun j u hu => by
      have hj : j < m * sz := by rw [← hl]; exact (List.getElem?_eq_some_iff.1 hu).1
      have h1 := hc j hj
      rw [hu] at h1
      by_cases e0 : j = 0
      · subst e0; simpa [Addr.add] using h1
      · simpa [Addr.add, e0] using h1) h1 h63 hbytes hbase
    exact ⟨v', w', hr, h2, h3, h5⟩

/-- The same at an operation whose guard says yes. -/
theorem wpList_append_row {P : Program} {w : World} {ops : Array Oper} {rest : List Oper} {o : Oper} {a : Act} {Q : Exit → Act → World → Prop} (hgd : Region.wanted o (yielded ops a.tmps) = true) (s x : Operand) (t : TypeId)
    (ho : o.op = .call { callee := .builtin .append, args := #[s, x], argTypes := #[t, t] })
    (base : Nat) (e : TypeId) (i : TypeInfo) (z : Value) (sz bytes : Nat) (ht : P.underlying t = some (.slice e)) (hi : P.info? e = some i) (hz : i.zero = some z)
    (hsize : i.size = sz) (hby : i.bytes = bytes) (hzs : z.cells.size = sz) (hsz : 0 < sz)
    (v : Value) (n : Nat) (xs : List Value) (hs : a.eval s = v) (hown : w.ownsRow base e sz v n xs)
    (X : Value) (m : Nat) (cs : List Value) (hx : a.eval x = X) (hX : IsRow sz w X m cs) (h1 : ∀ u ∈ cs, u.oneCell' = true) (h63 : n + m ≤ maxLen) (hbytes : (n + m) * bytes ≤ 140737488355328) (hbase : base ≤ w.heap.size)
    (h : ∀ v' w', w'.ownsRow base e sz v' (n + m) (xs ++ cs) → w.grownBy w' v.ownBlock → (v'.ownBlock = v.ownBlock ∨ v'.ownBlock = some w.heap.size) → wpList P ops Q rest (a.put o.dst v') w') : wpList P ops Q (o :: rest) a w := by
  refine BigFrame.wpList_want hgd fun K hK => ?_
  obtain ⟨v', w', hr, h2, h3, h5⟩ := run_append_row (P := P) (w := w) base t o.type e i z sz bytes ht hi hz hsize hby hzs hsz v n xs hown X m cs hX h1 h63 hbytes hbase
  unfold Oper.wp execOp
  simp only [ho, resolve, invoke, builtin, Sem.run_bind, Sem.run_pure, Result.andThen_ok, List.map_toArray, List.map_cons, List.map_nil, hs, hx, hr]
  exact hK _ _ (h v' w' h2 h3 h5)

/-- The same at a step of a region that draws its order. -/
theorem step_append_row {P : Program} {w : World} {ops : Array Oper} {o : Oper} {a : Act} {K : Act → World → Prop} {Q : Exit → Act → World → Prop} {E : Prop} (hgd : o.guard = none) (s x : Operand) (t : TypeId)
    (ho : o.op = .call { callee := .builtin .append, args := #[s, x], argTypes := #[t, t] })
    (base : Nat) (e : TypeId) (i : TypeInfo) (z : Value) (sz bytes : Nat) (ht : P.underlying t = some (.slice e)) (hi : P.info? e = some i) (hz : i.zero = some z)
    (hsize : i.size = sz) (hby : i.bytes = bytes) (hzs : z.cells.size = sz) (hsz : 0 < sz)
    (v : Value) (n : Nat) (xs : List Value) (hs : a.eval s = v) (hown : w.ownsRow base e sz v n xs)
    (X : Value) (m : Nat) (cs : List Value) (hx : a.eval x = X) (hX : IsRow sz w X m cs) (h1 : ∀ u ∈ cs, u.oneCell' = true) (h63 : n + m ≤ maxLen) (hbytes : (n + m) * bytes ≤ 140737488355328) (hbase : base ≤ w.heap.size)
    (h : ∀ v' w', w'.ownsRow base e sz v' (n + m) (xs ++ cs) → w.grownBy w' v.ownBlock → (v'.ownBlock = v.ownBlock ∨ v'.ownBlock = some w.heap.size) → K (a.put o.dst v') w') :
    if Region.wanted o (yielded ops a.tmps) = true then Oper.wp P o a w K Q else E := by
  have hw : Region.wanted o (yielded ops a.tmps) = true := by simp [Region.wanted, hgd]
  rw [if_pos hw]
  obtain ⟨v', w', hr, h2, h3, h5⟩ := run_append_row (P := P) (w := w) base t o.type e i z sz bytes ht hi hz hsize hby hzs hsz v n xs hown X m cs hX h1 h63 hbytes hbase
  unfold Oper.wp execOp
  simp only [ho, resolve, invoke, builtin, Sem.run_bind, Sem.run_pure, Result.andThen_ok, List.map_toArray, List.map_cons, List.map_nil, hs, hx, hr]
  exact h v' w' h2 h3 h5

/-- 'T[]{}', laid down by the call. -/
theorem own_empty (w : World) (e sz : Nat) (base : Nat) (hb : base ≤ w.heap.size) : (w.alloc (.cells #[] e)).ownsRow base e sz (.slice (some ⟨w.heap.size, 0, none⟩) 0 0) 0 [] :=
  ⟨by simp, .inr ⟨w.heap.size, 0, #[], rfl, hb, by show (w.heap.push _)[w.heap.size]? = _; simp, Nat.le_refl _, by decide, by simp, by simp⟩⟩

end Go.Proofs.Ytcafjjfaamjipaa

/-
  Function values that go through a list ('iter.Seq'). No program stands in it.
-/
namespace Go.Proofs.Ytcafjjfaamjipaa
open Go.RowKit

/-- The blocks from n₀ to n₁ stand. -/
def KeepsIv (n₀ n₁ : Nat) (W W' : World) : Prop := ∀ b, n₀ ≤ b → b < n₁ → W'.heap[b]? = W.heap[b]?
theorem keepsIv_refl (n₀ n₁ : Nat) (W : World) : KeepsIv n₀ n₁ W W := fun _ _ _ => rfl
theorem keepsIv_t {n₀ n₁ : Nat} {A B C : World} (h : KeepsIv n₀ n₁ A B) (k : KeepsIv n₀ n₁ B C) : KeepsIv n₀ n₁ A C := fun b h1 h2 => (k b h1 h2).trans (h b h1 h2)
theorem keepsIv_b {n₀ n₁ : Nat} {w : World} (hn : n₁ ≤ w.heap.size) (W : World) (l : Nat) (o o' : Obj) (hl : w.heap.size ≤ l) (_ : W.heap[l]? = some o) (_ : o.isCells = false) (_ : o.isWalk = false) : KeepsIv n₀ n₁ W (W.putObj l o') :=
  fun b _ h2 => World.putObj_heap_other (by omega)
theorem keepsIv_below {n₀ n₁ n : Nat} {W W' : World} (h : Below n W W') (hn : n₁ ≤ n) : KeepsIv n₀ n₁ W W' := fun b _ h2 => (h.mono hn).block b h2
theorem keepsIv_set {n₀ n₁ B : Nat} (W : World) (v : Value) (hB : B < n₀) : KeepsIv n₀ n₁ W (W.setCell ⟨B, 0, none⟩ v) := fun b h1 _ => Below.heap_setCell _ _ _ b (fun e => by simp at e; omega)
theorem KeepsIv.mono {n₀ n₁ m : Nat} {W W' : World} (h : KeepsIv n₀ m W W') (hm : n₁ ≤ m) : KeepsIv n₀ n₁ W W' := fun b h1 h2 => h b h1 (by omega)
theorem KeepsIv.cell {n₀ n₁ : Nat} {W W' : World} (h : KeepsIv n₀ n₁ W W') (b o : Nat) (h1 : n₀ ≤ b) (h2 : b < n₁) : W'.cell? ⟨b, o, none⟩ = W.cell? ⟨b, o, none⟩ := by
  simp [World.cell?, h b h1 h2]

/-- A function value that goes through xs, whoever goes through it and wherever he leaves, as long as the blocks from n₀ on that lay there stand. -/
def IsSeqK {α : Type} (P : Program) (encs : α → Array Value) (n₀ : Nat) (w : World) (v : Value) (xs : List α) : Prop :=
  ∃ g lb, v = .func (.func g) #[] lb ∧ (∀ args w, (callFunc g args).run P w = .ok (.enter g args) w) ∧
    ∀ n, 1 ≤ n → SeqStopsK Fence.wide n P g lb encs (KeepsIv n₀ w.heap.size) (fun ys => ys = xs) (fun pre => pre <+: xs) xs.length w

theorem IsSeqK.below {α : Type} {P : Program} {encs : α → Array Value} {n₀ : Nat} {w w' : World} {v : Value} {xs : List α} (h : IsSeqK P encs n₀ w v xs) (hb : Below w.heap.size w w') : IsSeqK P encs n₀ w' v xs := by
  obtain ⟨g, lb, hv, he, hs⟩ := h
  refine ⟨g, lb, hv, he, fun n hn l J Jx W hW hJ hJx hY h0 => hs n hn l J Jx W (hb.trans (hW.mono hb.size)) hJ hJx (fun pre x W1 hJ1 hlt => ?_) h0⟩
  refine (hY pre x W1 hJ1 hlt).mono ?_
  rintro e W' (⟨h1, h2, h3⟩ | h)
  · exact .inl ⟨h1, h2, h3.mono hb.size⟩
  · exact .inr h

def encI (x : Int) : Array Value := #[.int .i64 x]

/-- One cell, laid down by the call. -/
theorem one_cell (w : World) (v : Value) (t g : Nat) (hg : g = w.heap.size) : IsRow 1 (w.alloc (.cells #[v] t)) (.slice (some ⟨g, 0, none⟩) 1 1) 1 [v] := by
  subst hg
  exact IsRow.fresh w [v] 1 1 t 1 rfl (by omega) (by unfold maxLen; omega) (by omega)

/-- 'append(s, x...)' onto what the call owns, inside a fence. -/
theorem wpListIn_append_row {F : Fence} {nf : Nat} {P : Program} {w : World} {ops : Array Oper} {rest : List Oper} {o : Oper} {a : Act} {Q : Exit → Act → World → Prop} (hgd : o.guard = none) (s x : Operand) (t : TypeId)
    (ho : o.op = .call { callee := .builtin .append, args := #[s, x], argTypes := #[t, t] })
    (base : Nat) (e : TypeId) (i : TypeInfo) (z : Value) (sz bytes : Nat) (ht : P.underlying t = some (.slice e)) (hi : P.info? e = some i) (hz : i.zero = some z)
    (hsize : i.size = sz) (hby : i.bytes = bytes) (hzs : z.cells.size = sz) (hsz : 0 < sz)
    (v : Value) (n : Nat) (xs : List Value) (hs : a.eval s = v) (hown : w.ownsRow base e sz v n xs)
    (X : Value) (m : Nat) (cs : List Value) (hx : a.eval x = X) (hX : IsRow sz w X m cs) (h1 : ∀ u ∈ cs, u.oneCell' = true) (h63 : n + m ≤ maxLen) (hbytes : (n + m) * bytes ≤ 140737488355328) (hbase : base ≤ w.heap.size)
    (h : ∀ v' w', w'.ownsRow base e sz v' (n + m) (xs ++ cs) → w.grownBy w' v.ownBlock → (v'.ownBlock = v.ownBlock ∨ v'.ownBlock = some w.heap.size) → wpListIn F nf P ops Q rest (a.put o.dst v') w') : wpListIn F nf P ops Q (o :: rest) a w := by
  refine wpListIn_plain hgd fun K hK' => ?_
  obtain ⟨v', w', hrun, h2, h3, h5⟩ := run_append_row (P := P) (w := w) base t o.type e i z sz bytes ht hi hz hsize hby hzs hsz v n xs hown X m cs hX h1 h63 hbytes hbase
  unfold Oper.wpIn
  refine ⟨?_, ?_⟩
  · simp [Oper.about, ho, resolve, Target.leads, Sem.run_pure]
  · rw [Oper.semAt_plain F _ _ (by rw [ho]; intro c hc'; cases hc')]
    simp [execOp, ho, resolve, invoke, builtin, hs, hx, hrun, Result.andThen]
    exact hK' _ _ (h v' w' h2 h3 h5)

/-- 'out = append(out, ..)', out in a box, its row beyond all boxes: what stands behind the store. -/
theorem boxed_gathered {W w1 : World} {n₀ base B : Nat} {t e : TypeId} {size : Nat} {v v' : Value} {k m : Nat} {xs ys : List Value} {tmp : Obj}
    (hv : Boxed W B t v) (hrow : W.ownsRow base e size v k xs) (hn₀ : n₀ ≤ B) (hB : B < base) (hbase : base ≤ W.heap.size)
    (hown' : w1.ownsRow base e size v' m ys) (hgrow : (W.alloc tmp).grownBy w1 v.ownBlock) :
    Boxed w1 B t v ∧ Boxed (w1.setCell ⟨B, 0, none⟩ v') B t v' ∧ (w1.setCell ⟨B, 0, none⟩ v').ownsRow base e size v' m ys ∧ KeepsOthers W (w1.setCell ⟨B, 0, none⟩ v') ∧ Below n₀ W (w1.setCell ⟨B, 0, none⟩ v') ∧ (∀ b, b < base → b ≠ B → (w1.setCell ⟨B, 0, none⟩ v').heap[b]? = W.heap[b]?) ∧
      ∀ B2 t2 u, Boxed W B2 t2 u → B2 ≠ B → B2 < base → Boxed (w1.setCell ⟨B, 0, none⟩ v') B2 t2 u := by
  have hne : ∀ B2, B2 < base → some B2 ≠ v.ownBlock := fun B2 h2 e' => by have := own_base hrow B2 e'.symm; omega
  have hne' : v'.ownBlock ≠ some B := fun e' => by have := own_base hown' B e'; omega
  have hv1 : Boxed w1 B t v := (hv.alloc tmp).kept hgrow (hne B hB)
  refine ⟨hv1, hv1.set v', hown'.kept (grownBy_setCell' w1 B v') (.inr hne'), ?_, ?_, fun b h2 hn => ?_, fun B2 t2 u h2 hn h3 => ((h2.alloc tmp).kept hgrow (hne B2 h3)).kept (grownBy_setCell' w1 B v') (by simpa using hn)⟩
  · refine ((KeepsOthers.alloc W tmp).trans (KeepsOthers.of_grownBy hgrow fun j o ej hj => ?_)).trans (KeepsOthers.setCell _ _ _)
    rcases (hrow.alloc tmp).2 with ⟨rfl, _⟩ | ⟨g, cap, cur, rfl, _, hgb, _⟩
    · simp [Value.ownBlock] at ej
    · obtain rfl : g = j := by simpa [Value.ownBlock] using ej
      rw [hgb] at hj; cases hj; rfl
  · refine (((Below.refl n₀ W).alloc (by omega) tmp).grown hgrow (by simp; omega) fun j ej => ?_).setCell (p := ⟨B, 0, none⟩) hn₀ v'
    have := own_base hrow j ej
    omega
  · rw [Below.heap_setCell _ _ _ b (fun e => hn (by simpa using e)), hgrow.block b (by simp; omega) (hne b h2)]
    exact Below.heap_alloc W tmp b (by omega)

theorem own_shape {w : World} {base e sz n : Nat} {v : Value} {cs : List Value} (h : w.ownsRow base e sz v n cs) : ∃ ao cap, v = .slice ao n cap := by
  rcases h.2 with ⟨rfl, h0⟩ | ⟨g, cap, cur, rfl, _⟩
  · exact ⟨none, 0, by rw [h0]⟩
  · exact ⟨_, _, rfl⟩

theorem boxed_below {w w' : World} {B t : Nat} {v : Value} (h : Boxed w B t v) (hb : Below w.heap.size w w') : Boxed w' B t v := (hb.block B h.lt).trans h

end Go.Proofs.Ytcafjjfaamjipaa

/-
  The plain mathematics of chapter 4: numbers in turn, times, the parts of a text. No program stands in it.
-/
namespace Go.Proofs.Ytcafjjfaamjipaa

/-- Turn's numbers. -/
def turnV (n f : Int) : List Int := (List.range n.toNat).map fun i : Nat => (drawV f n + (i : Int)) % n
/-- Times' numbers. -/
def timesN (f st to : Int) : Nat := if st < 1 ∨ f < 0 ∨ 4611686018427387904 < to ∨ to < f then 0 else ((to - f) / st).toNat + 1
def timesV (f st to : Int) : List Int := (List.range (timesN f st to)).map fun i : Nat => f + (i : Int) * st

/-- The parts of a text: cur is what stands since the last separator. -/
def goL (c : Int) : List UInt8 → List UInt8 → List (List UInt8)
  | cur, [] => [cur]
  | cur, b :: r => if (b.toNat : Int) = c then cur :: goL c [] r else goL c (cur ++ [b]) r
def mkS (l : List UInt8) : ByteArray := ⟨l.toArray⟩
def partsV (s : ByteArray) (c : Int) : List ByteArray := (goL c [] s.data.toList).map mkS
/-- Numbered from 0 on. -/
def numbered (l : List ByteArray) : List (Int × ByteArray) := l.zipIdx.map fun p => ((p.2 : Nat), p.1)

theorem goL_length (c : Int) (cur l : List UInt8) : (goL c cur l).length ≤ l.length + 1 := by
  induction l generalizing cur with
  | nil => simp [goL]
  | cons b r ih =>
    unfold goL
    split
    · have := ih []; simp; omega
    · have := ih (cur ++ [b]); simp; omega
theorem goL_pos (c : Int) (cur l : List UInt8) : 0 < (goL c cur l).length := by
  induction l generalizing cur with
  | nil => simp [goL]
  | cons b r ih =>
    unfold goL
    split
    · simp
    · exact ih _
theorem partsV_length (s : ByteArray) (c : Int) : (partsV s c).length ≤ s.size + 1 := by
  unfold partsV
  rw [List.length_map]
  exact goL_length c [] s.data.toList

/-- From place a to place b. -/
def cutL (l : List UInt8) (a b : Nat) : List UInt8 := (l.drop a).take (b - a)
theorem cutL_self (l : List UInt8) (a : Nat) : cutL l a a = [] := by unfold cutL; simp
theorem cutL_snoc {l : List UInt8} {a k : Nat} (h : a ≤ k) (hk : k < l.length) : cutL l a (k + 1) = cutL l a k ++ [l[k]] := by
  unfold cutL
  have h1 : k - a < (l.drop a).length := by simp; omega
  rw [show k + 1 - a = k - a + 1 by omega, List.take_succ_eq_append_getElem h1, List.getElem_drop]
  congr 3
  omega
theorem goL_hit {c : Int} {cur l : List UInt8} {k : Nat} (hk : k < l.length) (h : (l[k].toNat : Int) = c) : goL c cur (l.drop k) = cur :: goL c [] (l.drop (k + 1)) := by
  rw [List.drop_eq_getElem_cons hk, goL, if_pos h]
theorem goL_miss {c : Int} {cur l : List UInt8} {k : Nat} (hk : k < l.length) (h : ¬ (l[k].toNat : Int) = c) : goL c cur (l.drop k) = goL c (cur ++ [l[k]]) (l.drop (k + 1)) := by
  rw [List.drop_eq_getElem_cons hk, goL, if_neg h]
theorem goL_end {c : Int} {cur l : List UInt8} {k : Nat} (hk : l.length ≤ k) : goL c cur (l.drop k) = [cur] := by
  rw [List.drop_eq_nil_of_le hk, goL]
theorem extract_cut (s : ByteArray) (a b : Nat) : s.extract a b = mkS (cutL s.data.toList a b) := by
  apply ByteArray.ext
  unfold mkS cutL
  rw [ByteArray.data_extract]
  apply Array.ext'
  rw [Array.toList_extract, List.extract_eq_take_drop]

/-- D is told, from place a on nothing yet; the text is read up to place k. -/
def Parting (s : ByteArray) (c : Int) (D : List ByteArray) (a k : Nat) : Prop :=
  a ≤ k ∧ k ≤ s.size ∧ D.length ≤ a ∧ D ++ (goL c (cutL s.data.toList a k) (s.data.toList.drop k)).map mkS = partsV s c
theorem parting_start (s : ByteArray) (c : Int) : Parting s c [] 0 0 := ⟨Nat.le_refl _, Nat.zero_le _, Nat.zero_le _, by simp [cutL_self, partsV]⟩
theorem parting_hit {s : ByteArray} {c : Int} {D : List ByteArray} {a k : Nat} (h : Parting s c D a k) (hk : k < s.size) (hc : ((s[k]).toNat : Int) = c) : Parting s c (D ++ [s.extract a k]) (k + 1) (k + 1) := by
  obtain ⟨h1, h2, h3, h4⟩ := h
  have hl : k < s.data.toList.length := hk
  refine ⟨Nat.le_refl _, hk, by simp; omega, ?_⟩
  rw [goL_hit hl hc] at h4
  rw [← h4, extract_cut, cutL_self, List.append_assoc]
  rfl
theorem parting_miss {s : ByteArray} {c : Int} {D : List ByteArray} {a k : Nat} (h : Parting s c D a k) (hk : k < s.size) (hc : ¬ ((s[k]).toNat : Int) = c) : Parting s c D a (k + 1) := by
  obtain ⟨h1, h2, h3, h4⟩ := h
  have hl : k < s.data.toList.length := hk
  refine ⟨by omega, hk, h3, ?_⟩
  rw [goL_miss hl hc, ← cutL_snoc h1 hl] at h4
  exact h4
theorem parting_end {s : ByteArray} {c : Int} {D : List ByteArray} {a k : Nat} (h : Parting s c D a k) (hk : ¬ k < s.size) : D ++ [s.extract a s.size] = partsV s c := by
  obtain ⟨h1, h2, h3, h4⟩ := h
  have e : k = s.size := by omega
  subst e
  rw [goL_end (by exact Nat.le_refl _)] at h4
  rw [← h4, extract_cut]
  rfl

theorem numbered_length (l : List ByteArray) : (numbered l).length = l.length := by unfold numbered; simp
theorem numbered_get (l : List ByteArray) (j : Nat) : (numbered l)[j]? = (l[j]?).map fun x => ((j : Int), x) := by
  unfold numbered
  rw [List.getElem?_map, List.getElem?_zipIdx]
  cases l[j]? <;> simp
theorem numbered_at (l : List ByteArray) (j : Nat) (h : j < (numbered l).length) : (numbered l)[j] = ((j : Int), l[j]'(by rw [← numbered_length l]; exact h)) := by
  have h2 : j < l.length := by rw [← numbered_length l]; exact h
  have e := numbered_get l j
  rw [List.getElem?_eq_getElem h, List.getElem?_eq_getElem h2] at e
  simpa using e
theorem numbered_snd (l : List ByteArray) : (numbered l).map (·.2) = l := by
  apply List.ext_getElem
  · simp [numbered_length]
  · intro j h1 h2
    rw [List.getElem_map, numbered_at]

/-- Numbered as they come. -/
def Enum (l : List (Int × ByteArray)) : Prop := ∀ j (h : j < l.length), l[j].1 = (j : Int)
theorem numbered_enum (l : List ByteArray) : Enum (numbered l) := fun j h => by rw [numbered_at]
theorem Enum.prefix {a b : List (Int × ByteArray)} (h : Enum b) (hp : a <+: b) : Enum a := fun j hj => by
  obtain ⟨t, rfl⟩ := hp
  have := h j (by simp; omega)
  rwa [List.getElem_append_left hj] at this
theorem Enum.snoc {a : List (Int × ByteArray)} {x : Int × ByteArray} (h : Enum a) (hx : x.1 = (a.length : Int)) : Enum (a ++ [x]) := fun j hj => by
  rcases Nat.lt_or_ge j a.length with h1 | h1
  · rw [List.getElem_append_left h1]; exact h j h1
  · simp at hj
    have e : j = a.length := by omega
    subst e
    simpa using hx
theorem Enum.last {a : List (Int × ByteArray)} {x : Int × ByteArray} (h : Enum (a ++ [x])) : x.1 = (a.length : Int) := by
  have := h a.length (by simp)
  simpa using this

theorem turnV_length (n f : Int) : (turnV n f).length = n.toNat := by unfold turnV; simp
theorem timesV_length (f st to : Int) : (timesV f st to).length = timesN f st to := by unfold timesV; simp
theorem turnV_in (n f : Int) (x : Int) (h : x ∈ turnV n f) : 0 ≤ x ∧ x < n := by
  unfold turnV at h
  simp only [List.mem_map, List.mem_range] at h
  obtain ⟨i, hi, rfl⟩ := h
  exact ⟨Int.emod_nonneg _ (by omega), Int.emod_lt_of_pos _ (by omega)⟩
theorem timesN_in (f st to : Int) (i : Nat) (h : i < timesN f st to) : 1 ≤ st ∧ 0 ≤ f ∧ to ≤ 4611686018427387904 ∧ f ≤ to ∧ f + (i : Int) * st ≤ to := by
  unfold timesN at h
  split at h
  · omega
  · rename_i hn
    have h1 : (i : Int) ≤ (to - f) / st := by
      have := Int.ediv_nonneg (show (0 : Int) ≤ to - f by omega) (show (0 : Int) ≤ st by omega)
      omega
    have h2 : (i : Int) * st ≤ to - f := Int.le_trans (Int.mul_le_mul_of_nonneg_right h1 (by omega)) (Int.ediv_mul_le _ (by omega))
    omega
theorem timesV_in (f st to : Int) (x : Int) (h : x ∈ timesV f st to) : 0 ≤ x ∧ x ≤ 4611686018427387904 := by
  unfold timesV at h
  simp only [List.mem_map, List.mem_range] at h
  obtain ⟨i, hi, rfl⟩ := h
  have h1 := timesN_in f st to i hi
  have h2 : 0 ≤ (i : Int) * st := Int.mul_nonneg (by omega) (by omega)
  omega

/-- Parts with the byte between. -/
def joinL (c : UInt8) : List (List UInt8) → List UInt8
  | [] => []
  | p :: r => p ++ r.flatMap fun q => c :: q
theorem joinL_snoc (c : UInt8) (ps : List (List UInt8)) (q : List UInt8) : joinL c (ps ++ [q]) = joinL c ps ++ ((if ps = [] then [] else [c]) ++ q) := by
  cases ps with
  | nil => simp [joinL]
  | cons p r => simp [joinL]
theorem joinL_goL (c : UInt8) (cur l : List UInt8) : joinL c (goL (c.toNat : Int) cur l) = cur ++ l := by
  induction l generalizing cur with
  | nil => simp [goL, joinL]
  | cons b r ih =>
    unfold goL
    split
    · rename_i h
      have hb : b = c := UInt8.toNat_inj.1 (by omega)
      subst hb
      have h2 := ih []
      have hp := goL_pos (b.toNat : Int) [] r
      cases hg : goL (b.toNat : Int) [] r with
      | nil => rw [hg] at hp; simp at hp
      | cons p ps =>
        rw [hg] at h2
        simp only [joinL, List.flatMap_cons, List.nil_append] at h2 ⊢
        rw [List.cons_append, h2]
    · rw [ih]; simp
theorem joinL_take_le (c : UInt8) (ps : List (List UInt8)) (k : Nat) : (joinL c (ps.take k)).length ≤ (joinL c ps).length := by
  cases ps with
  | nil => simp [joinL]
  | cons p r =>
    cases k with
    | zero => simp [joinL]
    | succ k =>
      have h : r.flatMap (fun q => c :: q) = (r.take k).flatMap (fun q => c :: q) ++ (r.drop k).flatMap (fun q => c :: q) := by rw [← List.flatMap_append, List.take_append_drop]
      simp only [List.take_succ_cons, joinL, List.length_append]
      rw [h, List.length_append]
      omega
theorem joinL_step (c : UInt8) (ps : List (List UInt8)) (k : Nat) (h : k < ps.length) : joinL c (ps.take (k + 1)) = joinL c (ps.take k) ++ ((if k = 0 then [] else [c]) ++ ps.getD k []) := by
  rw [List.take_succ_eq_append_getElem h, joinL_snoc]
  have e : (ps.take k = []) = (k = 0) := by
    apply propext
    constructor
    · intro e
      have := congrArg List.length e
      rw [List.length_take, List.length_nil] at this
      omega
    · rintro rfl; rfl
  simp only [e, List.getD_eq_getElem?_getD, List.getElem?_eq_getElem h, Option.getD_some]

end Go.Proofs.Ytcafjjfaamjipaa

/-
  The plain mathematics of chapter 5: numbers and names, lines and words. No program stands in it.
-/
namespace Go.Proofs.Ytcafjjfaamjipaa

def isDig (b : UInt8) : Bool := decide (48 ≤ b.toNat ∧ b.toNat ≤ 57)
def numL (l : List UInt8) : Nat := l.foldl (fun n b => n * 10 + (b.toNat - 48)) 0
theorem numL_snoc (l : List UInt8) (b : UInt8) : numL (l ++ [b]) = numL l * 10 + (b.toNat - 48) := by unfold numL; rw [List.foldl_append]; rfl
theorem numL_acc (l : List UInt8) (a : Nat) (h : ∀ b ∈ l, isDig b = true) : l.foldl (fun n b => n * 10 + (b.toNat - 48)) a < (a + 1) * 10 ^ l.length := by
  induction l generalizing a with
  | nil => simp
  | cons c r ih =>
    have hc := h c (by simp)
    unfold isDig at hc
    simp only [decide_eq_true_eq] at hc
    have h1 := ih (a * 10 + (c.toNat - 48)) (fun b hb => h b (by simp [hb]))
    have h2 : (a * 10 + (c.toNat - 48) + 1) * 10 ^ r.length ≤ ((a + 1) * 10) * 10 ^ r.length := Nat.mul_le_mul_right _ (by omega)
    rw [List.foldl_cons, List.length_cons, Nat.pow_succ, Nat.mul_comm (10 ^ r.length) 10, ← Nat.mul_assoc]
    omega
theorem numL_lt (l : List UInt8) (h : ∀ b ∈ l, isDig b = true) : numL l < 10 ^ l.length := by
  have := numL_acc l 0 h
  unfold numL
  omega

/-- A text's bytes, up to place k. -/
def upto (s : ByteArray) (k : Nat) : List UInt8 := s.data.toList.take k
theorem upto_succ (s : ByteArray) (k : Nat) (h : k < s.size) : upto s (k + 1) = upto s k ++ [s[k]] := by
  unfold upto
  rw [List.take_succ_eq_append_getElem (by simpa using h)]; rfl
theorem upto_all (s : ByteArray) (k : Nat) (h : s.size ≤ k) : upto s k = s.data.toList := List.take_of_length_le (by simpa using h)
theorem upto_length (s : ByteArray) (k : Nat) (h : k ≤ s.size) : (upto s k).length = k := by
  unfold upto
  rw [List.length_take]
  have : s.data.toList.length = s.size := rfl
  omega
theorem upto_mem {s : ByteArray} {k : Nat} {b : UInt8} (h : b ∈ upto s k) : b ∈ s.data.toList := List.mem_of_mem_take h
theorem mem_at (s : ByteArray) (k : Nat) (h : k < s.size) : s[k] ∈ s.data.toList := by
  have e : s[k] = s.data.toList[k]'h := rfl
  rw [e]; exact List.getElem_mem _

/-- May it be a number, and which. -/
def numOK (s : ByteArray) : Bool := decide (1 ≤ s.size ∧ s.size ≤ 7) && !(decide (1 < s.size) && decide (s.data.toList.head? = some 48)) && s.data.toList.all isDig && decide (numL s.data.toList ≤ 1000000)
def numV (s : ByteArray) : Int := if numOK s then (numL s.data.toList : Int) else 0

def nameB (b : UInt8) : Bool := decide ((97 ≤ b.toNat ∧ b.toNat ≤ 122) ∨ (48 ≤ b.toNat ∧ b.toNat ≤ 57) ∨ b.toNat = 45 ∨ b.toNat = 46)
def nameOK (s : ByteArray) : Bool := decide (1 ≤ s.size ∧ s.size ≤ 12) && !decide (s.data.toList = [45]) && s.data.toList.all nameB

theorem head_at (s : ByteArray) (h : 0 < s.size) : s.data.toList.head? = some s[0] := by
  have hl : 0 < s.data.toList.length := h
  rw [List.head?_eq_getElem?, List.getElem?_eq_getElem hl]
  rfl

theorem numOK_short {s : ByteArray} (h : ¬ (1 ≤ s.size ∧ s.size ≤ 7)) : numOK s = false := by unfold numOK; simp [h]
theorem numOK_nought {s : ByteArray} (h : 1 < s.size) (h0 : (s[0]).toNat = 48) : numOK s = false := by
  unfold numOK
  have e : s[0] = 48 := UInt8.toNat_inj.1 h0
  rw [head_at s (by omega), e]
  simp [h]
theorem numOK_bad {s : ByteArray} (k : Nat) (h : k < s.size) (hb : isDig s[k] = false) : numOK s = false := by
  unfold numOK
  have : s.data.toList.all isDig = false := by
    rw [List.all_eq_false]
    exact ⟨s[k], mem_at s k h, by simp [hb]⟩
  rw [this]; simp
theorem numOK_end {s : ByteArray} (h1 : 1 ≤ s.size) (h2 : s.size ≤ 7) (h3 : ¬ (1 < s.size ∧ (s[0]).toNat = 48)) (h4 : ∀ b ∈ s.data.toList, isDig b = true) : numOK s = decide (numL s.data.toList ≤ 1000000) := by
  unfold numOK
  rw [List.all_eq_true.2 h4, head_at s (by omega)]
  have e : (decide (1 < s.size) && decide (some s[0] = some (48 : UInt8))) = false := by
    rw [Bool.and_eq_false_iff]
    by_cases h : 1 < s.size
    · right
      rw [decide_eq_false_iff_not]
      intro e
      exact h3 ⟨h, by rw [Option.some.inj e]; rfl⟩
    · left; simpa using h
  rw [e]
  simp [h1, h2]

theorem nameOK_short {s : ByteArray} (h : ¬ (1 ≤ s.size ∧ s.size ≤ 12)) : nameOK s = false := by unfold nameOK; simp [h]
theorem nameOK_minus {s : ByteArray} (h : s.data.toList = [45]) : nameOK s = false := by unfold nameOK; simp [h]
theorem nameOK_bad {s : ByteArray} (k : Nat) (h : k < s.size) (hb : nameB s[k] = false) : nameOK s = false := by
  unfold nameOK
  have : s.data.toList.all nameB = false := by
    rw [List.all_eq_false]
    exact ⟨s[k], mem_at s k h, by simp [hb]⟩
  rw [this]; simp
theorem nameOK_end {s : ByteArray} (h1 : 1 ≤ s.size) (h2 : s.size ≤ 12) (h3 : ¬ s.data.toList = [45]) (h4 : ∀ b ∈ s.data.toList, nameB b = true) : nameOK s = true := by
  unfold nameOK
  rw [List.all_eq_true.2 h4]
  simp [h1, h2, h3]

/-- Lines and words. -/
def lineB (b : UInt8) : Bool := decide (32 ≤ b.toNat ∧ b.toNat ≤ 126)
def lineOK (p : ByteArray) : Bool := decide (p.size ≤ 200) && p.data.toList.all lineB
def cutH (l : List UInt8) : List UInt8 := l.takeWhile fun b => decide (b.toNat ≠ 35)
def wordsOf (p : ByteArray) : List ByteArray := (partsV (mkS (cutH p.data.toList)) 32).filter fun s => decide (s.size ≠ 0)
def linesOf (i : Nat) : List ByteArray → List (Int × List ByteArray)
  | [] => []
  | p :: r => (if wordsOf p = [] then [] else [(((i + 1 : Nat) : Int), wordsOf p)]) ++ linesOf (i + 1) r
def splitV (s : ByteArray) : List (Int × List ByteArray) × Int × Int :=
  if 4000 < s.size then ([], 0, 2) else match (partsV s 10).findIdx? (fun p => !lineOK p) with
    | some i => ([], ((i + 1 : Nat) : Int), 2)
    | none => (linesOf 0 (partsV s 10), 0, 0)

theorem lineOK_long {p : ByteArray} (h : 200 < p.size) : lineOK p = false := by unfold lineOK; rw [decide_eq_false (by omega)]; rfl
theorem lineOK_bad {p : ByteArray} (k : Nat) (h : k < p.size) (hb : lineB p[k] = false) : lineOK p = false := by
  unfold lineOK
  have : p.data.toList.all lineB = false := by
    rw [List.all_eq_false]
    exact ⟨p[k], mem_at p k h, by simp [hb]⟩
  rw [this]; simp
theorem lineOK_end {p : ByteArray} (h1 : p.size ≤ 200) (h4 : ∀ b ∈ p.data.toList, lineB b = true) : lineOK p = true := by
  unfold lineOK
  rw [List.all_eq_true.2 h4]
  simp [h1]
theorem cutH_all {l : List UInt8} (h : ∀ b ∈ l, b.toNat ≠ 35) : cutH l = l := by
  unfold cutH
  induction l with
  | nil => rfl
  | cons b r ih =>
    have hb := h b (by simp)
    rw [List.takeWhile_cons]
    simp only [hb, ne_eq, not_false_eq_true, decide_true, if_true]
    rw [ih (fun x hx => h x (by simp [hx]))]
theorem cutH_hit {s : ByteArray} {k : Nat} (hk : k < s.size) (h : ∀ b ∈ upto s k, b.toNat ≠ 35) (hb : (s[k]).toNat = 35) : s.extract 0 k = mkS (cutH s.data.toList) := by
  rw [extract_cut]
  congr 1
  unfold cutL cutH
  have hl : k < s.data.toList.length := hk
  have e : s.data.toList = s.data.toList.take k ++ s[k] :: s.data.toList.drop (k + 1) := by
    have e2 : s[k] = s.data.toList[k] := rfl
    rw [e2, ← List.drop_eq_getElem_cons hl, List.take_append_drop]
  rw [List.drop_zero, Nat.sub_zero]
  conv => rhs; rw [e]
  rw [List.takeWhile_append_of_pos (by intro a ha; simpa using h a ha), List.takeWhile_cons]
  simp [hb]
theorem mkS_data' (l : List UInt8) : (mkS l).size = l.length := rfl
theorem mkS_data (s : ByteArray) : mkS s.data.toList = s := by unfold mkS; simp

theorem linesOf_append (i : Nat) (a b : List ByteArray) : linesOf i (a ++ b) = linesOf i a ++ linesOf (i + a.length) b := by
  induction a generalizing i with
  | nil => simp [linesOf]
  | cons p r ih =>
    simp only [List.cons_append, linesOf, List.length_cons]
    rw [ih, List.append_assoc, show i + 1 + r.length = i + (r.length + 1) by omega]
theorem linesOf_next (P : List ByteArray) (i : Nat) (h : i < P.length) : linesOf 0 (P.take (i + 1)) = linesOf 0 (P.take i) ++ (if wordsOf (P.getD i ByteArray.empty) = [] then [] else [(((i + 1 : Nat) : Int), wordsOf (P.getD i ByteArray.empty))]) := by
  rw [List.take_succ_eq_append_getElem h, linesOf_append]
  have e : 0 + (P.take i).length = i := by rw [List.length_take]; omega
  have e2 : P.getD i ByteArray.empty = P[i] := by simp [h]
  rw [e, e2]
  simp [linesOf]
theorem linesOf_length (i : Nat) (P : List ByteArray) : (linesOf i P).length ≤ P.length := by
  induction P generalizing i with
  | nil => simp [linesOf]
  | cons p r ih =>
    simp only [linesOf, List.length_append, List.length_cons]
    have := ih (i + 1)
    split
    · simp; omega
    · simp; omega

theorem split_bad {s : ByteArray} (hs : ¬ 4000 < s.size) (i : Nat) (h : i < (partsV s 10).length) (hp : ∀ j, j < i → lineOK ((partsV s 10).getD j ByteArray.empty) = true) (hb : lineOK ((partsV s 10).getD i ByteArray.empty) = false) : splitV s = ([], ((i + 1 : Nat) : Int), 2) := by
  unfold splitV
  rw [if_neg hs]
  generalize partsV s 10 = P at *
  have : P.findIdx? (fun p => !lineOK p) = some i := by
    rw [List.findIdx?_eq_some_iff_getElem]
    refine ⟨h, ?_, fun j hj => ?_⟩
    · have e : P.getD i ByteArray.empty = P[i] := by simp [h]
      rw [← e, hb]; rfl
    · have hj2 : j < P.length := by omega
      have e : P.getD j ByteArray.empty = P[j] := by simp [hj2]
      rw [← e, hp j hj]; simp
  rw [this]
theorem split_good {s : ByteArray} (hs : ¬ 4000 < s.size) (hp : ∀ j, j < (partsV s 10).length → lineOK ((partsV s 10).getD j ByteArray.empty) = true) : splitV s = (linesOf 0 (partsV s 10), 0, 0) := by
  unfold splitV
  rw [if_neg hs]
  generalize partsV s 10 = P at *
  have : P.findIdx? (fun p => !lineOK p) = none := by
    rw [List.findIdx?_eq_none_iff]
    intro x hx
    obtain ⟨j, hj, rfl⟩ := List.getElem_of_mem hx
    have e : P.getD j ByteArray.empty = P[j] := by simp [hj]
    rw [← e, hp j hj]; rfl
  rw [this]

end Go.Proofs.Ytcafjjfaamjipaa

/-
  How lines (structs of a number and a slice of texts) lie in memory. No program stands in it.
-/
namespace Go.Proofs.Ytcafjjfaamjipaa
open Go.RowKit Go.ChangeShapes

abbrev LineT := Int × List ByteArray
abbrev nilW : Value := .slice none 0 0
abbrev IsStrs (w : World) (v : Value) (ss : List ByteArray) : Prop := IsRow 1 w v ss.length (ss.map Value.string)

/-- The block that a slice lies in. -/
def blkOf : Value → Option Nat
  | .slice (some a) _ _ => some a.block
  | _ => none

theorem isStrs_nil (w : World) : IsStrs w nilW [] := ⟨rfl, ⟨by unfold maxLen; simp, by unfold roomy maxLen; omega⟩, .inl ⟨rfl, _, _, rfl, fun _ => rfl⟩⟩

theorem IsRow.shaped {w : World} {sz n : Nat} {v : Value} {cs : List Value} (h : IsRow sz w v n cs) : ∃ ao cap, v = .slice ao n cap := by
  rcases h.2.2 with ⟨h0, ao, cap, rfl, _⟩ | ⟨_, b, off, cap, rfl, _⟩
  · exact ⟨ao, cap, by rw [h0]⟩
  · exact ⟨_, cap, rfl⟩

theorem IsRow.grown {w w' : World} {sz n : Nat} {v : Value} {cs : List Value} {o : Option Nat} (h : IsRow sz w v n cs) (hg : w.grownBy w' o) (hne : 0 < n → blkOf v ≠ o) : IsRow sz w' v n cs := by
  obtain ⟨h1, h2, h3⟩ := h
  refine ⟨h1, h2, ?_⟩
  rcases h3 with h3 | ⟨h3, b, off, cap, rfl, hlt, hc⟩
  · exact .inl h3
  · have hb : some b ≠ o := hne h3
    exact .inr ⟨h3, b, off, cap, rfl, Nat.lt_of_lt_of_le hlt hg.size, fun j hj => by rw [hg.cell_far _ hlt hb]; exact hc j hj⟩

theorem IsRow.blk_lt {w : World} {sz n : Nat} {v : Value} {cs : List Value} (h : IsRow sz w v n cs) (h0 : 0 < n) : ∃ b, blkOf v = some b ∧ b < w.heap.size := by
  rcases h.2.2 with ⟨h1, _⟩ | ⟨_, b, off, cap, rfl, hlt, _⟩
  · omega
  · exact ⟨b, rfl, hlt⟩

theorem own_blkOf {w : World} {base e sz n : Nat} {v : Value} {cs : List Value} (h : w.ownsRow base e sz v n cs) : ∀ b, blkOf v = some b → base ≤ b := by
  intro b hb
  rcases h.2 with ⟨rfl, _⟩ | ⟨g, cap, cur, rfl, hg, _⟩
  · simp [blkOf] at hb
  · simp [blkOf] at hb; omega

/-- What the call owns stands while what was there stands. -/
theorem own_stays {w w' : World} {base e sz n : Nat} {v : Value} {cs : List Value} (h : w.ownsRow base e sz v n cs) (hb : Below w.heap.size w w') : w'.ownsRow base e sz v n cs := by
  refine ⟨h.1, ?_⟩
  rcases h.2 with h | ⟨g, cap, cur, h1, h2, h3, h4⟩
  · exact .inl h
  · exact .inr ⟨g, cap, cur, h1, h2, (hb.block g (Array.getElem?_eq_some_iff.1 h3).1).trans h3, h4⟩

theorem strsAt {w : World} {ao : Option Addr} {n cap : Nat} {ss : List ByteArray} (h : IsStrs w (.slice ao n cap) ss) (i : Nat) (hi : i < ss.length) :
    ∃ b off, ao = some ⟨b, off, none⟩ ∧ b < w.heap.size ∧ w.cell? ⟨b, off + i, none⟩ = some (.string (ss.getD i ByteArray.empty)) := by
  rcases h.2.2 with ⟨h0, _⟩ | ⟨_, b, off, c, e, hlt, hc⟩
  · omega
  · simp only [Value.slice.injEq] at e
    refine ⟨b, off, e.1, hlt, ?_⟩
    rw [hc i (by omega)]
    simp [hi]

/-- The cells of lines: each its number and its slice of words. -/
def lineCells : List LineT → List Value → List Value
  | l :: L, v :: vs => .int .i64 l.1 :: v :: lineCells L vs
  | _, _ => []
theorem lineCells_length (L : List LineT) (vs : List Value) (h : vs.length = L.length) : (lineCells L vs).length = L.length * 2 := by
  induction L generalizing vs with
  | nil => cases vs <;> rfl
  | cons l r ih =>
    cases vs with
    | nil => simp at h
    | cons v vr => simp only [lineCells, List.length_cons]; rw [ih vr (by simpa using h)]; omega
theorem lineCells_at (L : List LineT) (vs : List Value) (h : vs.length = L.length) (i : Nat) (hi : i < L.length) : (lineCells L vs)[i * 2]? = some (.int .i64 (L.getD i (0, [])).1) ∧ (lineCells L vs)[i * 2 + 1]? = some (vs.getD i nilW) := by
  induction L generalizing vs i with
  | nil => simp at hi
  | cons l r ih =>
    cases vs with
    | nil => simp at h
    | cons v vr =>
      cases i with
      | zero => exact ⟨rfl, rfl⟩
      | succ i =>
        have := ih vr (by simpa using h) i (by simpa using hi)
        rw [show (i + 1) * 2 = i * 2 + 2 by omega]
        simpa [lineCells] using this
theorem lineCells_snoc (L : List LineT) (vs : List Value) (h : vs.length = L.length) (l : LineT) (v : Value) : lineCells (L ++ [l]) (vs ++ [v]) = lineCells L vs ++ [.int .i64 l.1, v] := by
  induction L generalizing vs with
  | nil => cases vs with
    | nil => rfl
    | cons _ _ => simp at h
  | cons x r ih =>
    cases vs with
    | nil => simp at h
    | cons y vr => simp only [List.cons_append, lineCells]; rw [ih vr (by simpa using h)]

/-- A slice value that holds the lines L, their words in the slices vs. -/
def IsLines (w : World) (v : Value) (vs : List Value) (L : List LineT) : Prop :=
  vs.length = L.length ∧ IsRow 2 w v L.length (lineCells L vs) ∧ ∀ i, i < L.length → IsStrs w (vs.getD i nilW) (L.getD i (0, [])).2

/-- Lines, wherever their words lie. -/
def HasLines (w : World) (v : Value) (L : List LineT) : Prop := ∃ vs, IsLines w v vs L

theorem IsLines.below {w w' : World} {v : Value} {vs : List Value} {L : List LineT} (h : IsLines w v vs L) (hb : Below w.heap.size w w') : IsLines w' v vs L :=
  ⟨h.1, h.2.1.below hb, fun i hi => (h.2.2 i hi).below hb⟩
theorem isLines_nil (w : World) : IsLines w nilW [] [] := ⟨rfl, ⟨rfl, ⟨by unfold maxLen; simp, by unfold roomy maxLen; omega⟩, .inl ⟨rfl, _, _, rfl, fun _ => rfl⟩⟩, fun i hi => by simp at hi⟩

theorem IsLines.at {w : World} {ao : Option Addr} {n cap : Nat} {vs : List Value} {L : List LineT} (h : IsLines w (.slice ao n cap) vs L) (i : Nat) (hi : i < L.length) :
    ∃ b off, ao = some ⟨b, off, none⟩ ∧ b < w.heap.size ∧ w.cell? ⟨b, off + i * 2, none⟩ = some (.int .i64 (L.getD i (0, [])).1) ∧ w.cell? ⟨b, off + i * 2 + 1, none⟩ = some (vs.getD i nilW) := by
  obtain ⟨h1, h2, _⟩ := h
  rcases h2.2.2 with ⟨h0, _⟩ | ⟨_, b, off, c, e, hlt, hc⟩
  · omega
  · simp only [Value.slice.injEq] at e
    obtain ⟨a1, a2⟩ := lineCells_at L vs h1 i hi
    exact ⟨b, off, e.1, hlt, by rw [hc (i * 2) (by omega), a1], by rw [Nat.add_assoc, hc (i * 2 + 1) (by omega), a2]⟩

/-- Lines that the call collects: none of their words in the block of o. -/
def HeldL (w : World) (o : Value) (vs : List Value) (L : List LineT) : Prop :=
  vs.length = L.length ∧ ∀ j, j < L.length → IsStrs w (vs.getD j nilW) (L.getD j (0, [])).2 ∧ (0 < (L.getD j (0, [])).2.length → blkOf (vs.getD j nilW) ≠ o.ownBlock)
theorem heldL_nil (w : World) (o : Value) : HeldL w o [] [] := ⟨rfl, fun j h => by simp at h⟩
theorem HeldL.below {w w' : World} {o : Value} {vs : List Value} {L : List LineT} (h : HeldL w o vs L) (hb : Below w.heap.size w w') : HeldL w' o vs L :=
  ⟨h.1, fun j hj => ⟨(h.2 j hj).1.below hb, (h.2 j hj).2⟩⟩
theorem getD_snoc_left {α : Type} (a b : List α) (d : α) (i : Nat) (h : i < a.length) : (a ++ b).getD i d = a.getD i d := by
  rw [List.getD_eq_getElem?_getD, List.getElem?_append_left h, List.getD_eq_getElem?_getD]
theorem getD_snoc_last {α : Type} (a : List α) (x d : α) : (a ++ [x]).getD a.length d = x := by
  rw [List.getD_eq_getElem?_getD, List.getElem?_append_right (Nat.le_refl _), Nat.sub_self]
  rfl
theorem heldL_append {w w' : World} {o v' v : Value} {vs : List Value} {L : List LineT} {l : LineT} (h : HeldL w o vs L) (hg : w.grownBy w' o.ownBlock) (hat : v'.ownBlock = o.ownBlock ∨ v'.ownBlock = some w.heap.size)
    (hv : IsStrs w v l.2) (hvo : 0 < l.2.length → blkOf v ≠ o.ownBlock) : HeldL w' v' (vs ++ [v]) (L ++ [l]) := by
  have key : ∀ (u : Value) (q : List ByteArray), IsStrs w u q → (0 < q.length → blkOf u ≠ o.ownBlock) → IsStrs w' u q ∧ (0 < q.length → blkOf u ≠ v'.ownBlock) := fun u q hu hq =>
    ⟨hu.grown hg hq, fun hne => by
      rcases hat with h | h
      · rw [h]; exact hq hne
      · obtain ⟨b, hb, hlt⟩ := hu.blk_lt hne
        rw [h, hb]
        intro e
        simp at e
        omega⟩
  refine ⟨by simp [h.1], fun j hj => ?_⟩
  simp only [List.length_append, List.length_singleton] at hj
  rcases Nat.lt_or_ge j L.length with h1 | h1
  · rw [getD_snoc_left _ _ _ _ h1, getD_snoc_left _ _ _ _ (by rw [h.1]; exact h1)]; exact key _ _ (h.2 j h1).1 (h.2 j h1).2
  · have e : j = L.length := by omega
    subst e
    rw [getD_snoc_last, ← h.1, getD_snoc_last]; exact key _ _ hv hvo
theorem heldL_lines {w : World} {o : Value} {vs : List Value} {L : List LineT} (h : HeldL w o vs L) (ho : IsRow 2 w o L.length (lineCells L vs)) : IsLines w o vs L := ⟨h.1, ho, fun i hi => (h.2 i hi).1⟩

/-- One line, laid down by the call. -/
theorem one_line (w : World) (x : Int) (v : Value) (t g : Nat) (hg : g = w.heap.size) : IsRow 2 (w.alloc (.cells #[.int .i64 x, v] t)) (.slice (some ⟨g, 0, none⟩) 1 1) 1 [.int .i64 x, v] := by
  subst hg
  exact IsRow.fresh w [.int .i64 x, v] 2 1 t 1 rfl (by omega) (by unfold maxLen; omega) (by omega)

/-- The bytes of lines as a text. -/
def wordsL (ws : List ByteArray) : List UInt8 := joinL 32 (ws.map fun s => s.data.toList)
def textL (L : List LineT) : List UInt8 := L.flatMap fun l => wordsL l.2 ++ [10]
theorem textL_snoc (L : List LineT) (l : LineT) : textL (L ++ [l]) = textL L ++ (wordsL l.2 ++ [10]) := by unfold textL; simp
theorem textL_take (L : List LineT) (i : Nat) (h : i < L.length) : textL (L.take (i + 1)) = textL (L.take i) ++ (wordsL (L.getD i (0, [])).2 ++ [10]) := by
  rw [List.take_succ_eq_append_getElem h, textL_snoc]
  simp [h]
theorem textL_le (L : List LineT) (i : Nat) : (textL (L.take i)).length ≤ (textL L).length := by
  have h : textL L = textL (L.take i) ++ textL (L.drop i) := by unfold textL; rw [← List.flatMap_append, List.take_append_drop]
  rw [h, List.length_append]; omega
theorem wordsL_take (ws : List ByteArray) (k : Nat) (h : k < ws.length) : wordsL (ws.take (k + 1)) = wordsL (ws.take k) ++ ((if k = 0 then [] else [32]) ++ (ws.getD k ByteArray.empty).data.toList) := by
  unfold wordsL
  rw [List.map_take, List.map_take, joinL_step 32 _ k (by simpa using h)]
  simp [h]
theorem wordsL_le (ws : List ByteArray) (k : Nat) : (wordsL (ws.take k)).length ≤ (wordsL ws).length := by
  unfold wordsL
  rw [List.map_take]
  exact joinL_take_le 32 _ k

theorem mkS_append (a : List UInt8) (x : ByteArray) : mkS a ++ x = mkS (a ++ x.data.toList) := by
  apply ByteArray.ext
  unfold mkS
  simp
theorem mkS_size (a : List UInt8) : (mkS a).size = a.length := rfl

end Go.Proofs.Ytcafjjfaamjipaa

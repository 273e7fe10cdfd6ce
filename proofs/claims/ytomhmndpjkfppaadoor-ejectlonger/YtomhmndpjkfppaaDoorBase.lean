/-
  Plain, OrderPlain, TurnPlain, LinesPlain, ConfPlain, Kit, RowKit, TimerPlain, EjectMath, EqKit, BoxOne, SeqKit, LineKit, LinesMath, DigPlain, ConfMath, ConfMath2, HostKit, HostPlain, BoxKit, KeyKit, TimerKit.
-/
import Derived.Laws.BitsAllLaws
import Derived.Lib.Mul64
import Derived.WalkKit
import Derived.Lib.ItoaNum
import Derived.WalkSpells
import Derived.BigQuiet
import Derived.OpenShut
import Derived.ChangeOld
import Derived.SizedLaws
import Derived.Laws.AppendOwnNone
import Derived.Maps.AppendAt
import Derived.BigFrame
import Derived.Deep.AppendLies
import Derived.Laws.StructEq
import Derived.Laws.Rows
import Derived.Laws.Tables
import Derived.Laws.CopyOwn
import Derived.RangeFuncNested
import Derived.RangeFuncBound
import Derived.RangeFuncCalls
import Derived.RangeFuncLeaves
import Derived.RangeFuncBox
import Derived.Shelf.Abstract
import Derived.Shelf.RegionOpen
import Derived.OwnWalkIn
import Derived.TacticsInMore
import Derived.LoopNIn
import Derived.LoopIn

/-
  Plain mathematics of the program's package ratio, no run of the model in it: what orZero, MulDiv, Compare, Sum, Draw and Spread come to, as functions on whole numbers and lists, and small lemmas on 128-bit products.
-/
namespace Go.Proofs.YtomhmndpjkfppaaDoor

/-- One below 0 counts as 0. -/
def oz (n : Int) : Int := if n < 0 then 0 else n
theorem oz_neg {n : Int} (h : n < 0) : oz n = 0 := by unfold oz; rw [if_pos h]
theorem oz_pos {n : Int} (h : 0 ≤ n) : oz n = n := by unfold oz; rw [if_neg (by omega)]
theorem oz_nonneg (n : Int) : 0 ≤ oz n := by unfold oz; split <;> omega
theorem oz_le (n : Int) (m : Int) (h : n ≤ m) (h0 : 0 ≤ m) : oz n ≤ m := by unfold oz; split <;> omega

/-- The upper and the lower word of a number of 128 bits. -/
def hiW (p : Int) : Int := p / 18446744073709551616
def loW (p : Int) : Int := p % 18446744073709551616
theorem loW_bd (p : Int) : 0 ≤ loW p ∧ loW p ≤ 18446744073709551615 := by unfold loW; omega
theorem hiW_bd (p : Int) (h : 0 ≤ p) (h2 : p ≤ 340282366920938463463374607431768211455) : 0 ≤ hiW p ∧ hiW p ≤ 18446744073709551615 := by unfold hiW; omega

theorem mulN (a b : Nat) : (a : Int) * (b : Int) = ((a * b : Nat) : Int) := (Int.natCast_mul a b).symm
theorem addN (a b : Nat) : (a : Int) + (b : Int) = ((a + b : Nat) : Int) := (Int.natCast_add a b).symm
theorem divN (a : Nat) : (a : Int) / 4294967296 = ((a / 4294967296 : Nat) : Int) := by omega
theorem maskN (a : Nat) (ha : a < 18446744073709551616) : bits .and .u64 (a : Int) 4294967295 = ((a % 4294967296 : Nat) : Int) := by
  have h := u64_and_nat a 4294967295 ha (by omega)
  have e : a &&& 4294967295 = a % 4294967296 := Nat.and_two_pow_sub_one_eq_mod a 32
  rw [e] at h
  exact h
theorem orN (a b : Nat) (ha : a < 18446744073709551616) (hb : b < 4294967296) (h : a % 4294967296 = 0) : bits .or .u64 (a : Int) (b : Int) = ((a + b : Nat) : Int) := by
  rw [u64_or_nat a b ha (by omega), nat_join 32 a b (by simpa using h) (by simpa using hb)]
theorem wrapN (a : Nat) (ha : a < 18446744073709551616) : IntKind.u64.wrap (a : Int) = (a : Int) := by rw [IntKind.wrap_u64]; omega
theorem wrapM (a : Nat) : IntKind.u64.wrap (a : Int) = ((a % 18446744073709551616 : Nat) : Int) := by rw [IntKind.wrap_u64]; omega

theorem lowN (o d : Nat) (hd : d < 4294967296) : bits .or .u64 (IntKind.u64.wrap ((o : Int) * 4294967296)) (d : Int) = ((o * 4294967296 % 18446744073709551616 + d : Nat) : Int) := by
  have e : (o : Int) * 4294967296 = ((o * 4294967296 : Nat) : Int) := by omega
  rw [e, wrapM, orN _ d (by omega) hd (by omega)]

/-- Division bit by bit: the quotient and the rest behind k of 64 steps. -/
def quotAt (p c : Int) (k : Nat) : Int := p / 2 ^ (64 - k) / c
def restAt (p c : Int) (k : Nat) : Int := p / 2 ^ (64 - k) % c

theorem low_bit (p : Int) (j : Nat) (hj : j ≤ 63) : loW p / 2 ^ j % 2 = p / 2 ^ j % 2 := by
  have hp : (0 : Int) < 2 ^ j := Int.pow_pos (by omega)
  have e : (18446744073709551616 : Int) = 2 ^ (63 - j) * 2 * 2 ^ j := by
    rw [show (18446744073709551616 : Int) = 2 ^ 64 from by decide, Int.mul_assoc, Int.mul_comm 2, ← Int.pow_succ, ← Int.pow_add]
    congr 1
    omega
  have h : p = loW p + hiW p * (2 ^ (63 - j) * 2) * 2 ^ j := by
    rw [Int.mul_assoc, ← e]; unfold loW hiW; omega
  have h2 : p / 2 ^ j = loW p / 2 ^ j + hiW p * (2 ^ (63 - j) * 2) := by
    conv => lhs; rw [h]
    rw [Int.add_mul_ediv_right _ _ (by omega)]
  rw [h2, ← Int.mul_assoc]
  generalize hiW p * 2 ^ (63 - j) = u
  omega
/-- The rest behind a step, ahead of what is taken off. -/
def nextR (p c : Int) (k : Nat) : Int := restAt p c k * 2 + p / 2 ^ (63 - k) % 2
theorem rest_bd (p c : Int) (k : Nat) (hc : 0 < c) : 0 ≤ restAt p c k ∧ restAt p c k < c :=
  ⟨Int.emod_nonneg _ (by omega), Int.emod_lt_of_pos _ hc⟩
theorem top_step (p : Int) (k : Nat) (hk : k < 64) : p / 2 ^ (64 - k) = p / 2 ^ (63 - k) / 2 := by
  rw [Int.ediv_ediv_of_nonneg (Int.le_of_lt (Int.pow_pos (by omega))), ← Int.pow_succ]
  congr 2
  omega
theorem step_eq (p c : Int) (k : Nat) (hk : k < 64) : p / 2 ^ (63 - k) = nextR p c k + c * (quotAt p c k * 2) := by
  have h := Int.emod_add_mul_ediv (p / 2 ^ (64 - k)) c
  have h2 := top_step p k hk
  unfold nextR restAt quotAt
  rw [← Int.mul_assoc]
  generalize p / 2 ^ (64 - k) % c = r at *
  generalize p / 2 ^ (64 - k) / c = q at *
  generalize p / 2 ^ (63 - k) = t at *
  generalize c * q = m at *
  omega
theorem step_lo (p c : Int) (k : Nat) (hk : k < 64) (hc : 0 < c) (h : nextR p c k < c) : restAt p c (k + 1) = nextR p c k ∧ quotAt p c (k + 1) = quotAt p c k * 2 := by
  have b := rest_bd p c k hc
  have hs := step_eq p c k hk
  have u := (Int.ediv_emod_unique (a := p / 2 ^ (63 - k)) (r := nextR p c k) (q := quotAt p c k * 2) hc).2 ⟨hs.symm, by unfold nextR; omega, h⟩
  have e : 64 - (k + 1) = 63 - k := by omega
  unfold restAt quotAt at *
  rw [e]
  exact ⟨u.2, u.1⟩
theorem step_hi (p c : Int) (k : Nat) (hk : k < 64) (hc : 0 < c) (h : c ≤ nextR p c k) : restAt p c (k + 1) = nextR p c k - c ∧ quotAt p c (k + 1) = quotAt p c k * 2 + 1 := by
  have b := rest_bd p c k hc
  have hs := step_eq p c k hk
  have hm : c * (quotAt p c k * 2 + 1) = c * (quotAt p c k * 2) + c := by rw [Int.mul_add, Int.mul_one]
  have u := (Int.ediv_emod_unique (a := p / 2 ^ (63 - k)) (r := nextR p c k - c) (q := quotAt p c k * 2 + 1) hc).2 ⟨by rw [hm]; omega, by omega, by unfold nextR at h ⊢; omega⟩
  have e : 64 - (k + 1) = 63 - k := by omega
  unfold restAt quotAt at *
  rw [e]
  exact ⟨u.2, u.1⟩
theorem quot_bd (p c : Int) (k : Nat) (h0 : 0 ≤ p) (hc : 0 < c) (h : hiW p < c) : 0 ≤ quotAt p c k ∧ quotAt p c k ≤ 18446744073709551615 := by
  have hp : (0 : Int) < 2 ^ (64 - k) := Int.pow_pos (by omega)
  have h1 : p < c * 18446744073709551616 := by unfold hiW at h; omega
  have h2 : p / 2 ^ (64 - k) ≤ p := Int.ediv_le_self _ h0
  have h3 : 0 ≤ p / 2 ^ (64 - k) := Int.ediv_nonneg h0 (by omega)
  have h4 : quotAt p c k < 18446744073709551616 := by
    unfold quotAt
    exact Int.ediv_lt_of_lt_mul hc (by rw [Int.mul_comm]; omega)
  exact ⟨Int.ediv_nonneg h3 (by omega), by omega⟩
theorem by_start (p c : Int) (h0 : 0 ≤ p) (h : hiW p < c) : restAt p c 0 = hiW p ∧ quotAt p c 0 = 0 := by
  have e : p / 2 ^ (64 - 0) = hiW p := rfl
  have b : 0 ≤ hiW p := by unfold hiW; omega
  unfold restAt quotAt
  rw [e]
  exact ⟨Int.emod_eq_of_lt b h, Int.ediv_eq_zero_of_lt b h⟩
theorem by_end (p c : Int) : quotAt p c 64 = p / c := by
  unfold quotAt; simp
theorem bitN (x : Int) (h : 0 ≤ x) (h2 : x ≤ 18446744073709551615) : bits .and .u64 x 1 = x % 2 := by
  obtain ⟨n, rfl⟩ := Int.eq_ofNat_of_zero_le h
  have e := u64_and_nat n 1 (by omega) (by omega)
  rw [nat_mask1] at e
  have e2 : bits .and .u64 (n : Int) 1 = bits .and .u64 (n : Int) ((1 : Nat) : Int) := rfl
  rw [e2, e]
  omega
theorem orBit (x b : Int) (h : 0 ≤ x) (h2 : x * 2 ≤ 18446744073709551615) (hb : 0 ≤ b) (hb2 : b ≤ 1) : bits .or .u64 (x * 2) b = x * 2 + b := by
  obtain ⟨n, rfl⟩ := Int.eq_ofNat_of_zero_le h
  obtain ⟨m, rfl⟩ := Int.eq_ofNat_of_zero_le hb
  have e := u64_or_nat (n * 2) m (by omega) (by omega)
  rw [nat_join 1 (n * 2) m (by omega) (by omega)] at e
  have e2 : (n : Int) * 2 = ((n * 2 : Nat) : Int) := by omega
  rw [e2, e]
  omega
theorem low_shift_bd (p : Int) (j : Nat) : 0 ≤ loW p / 2 ^ j ∧ loW p / 2 ^ j ≤ 18446744073709551615 := by
  have h := loW_bd p
  have h2 : loW p / 2 ^ j ≤ loW p := Int.ediv_le_self _ h.1
  exact ⟨Int.ediv_nonneg h.1 (Int.le_of_lt (Int.pow_pos (by omega))), by omega⟩

/-- MulDiv: whether there is an answer, and which. -/
def mdOk (a b c : Int) : Bool := decide (0 ≤ a) && decide (0 ≤ b) && decide (1 ≤ c) && decide (oz a * oz b / c ≤ 4611686018427387904)
def mdV (a b c : Int) : Int := if mdOk a b c then oz a * oz b / c else 0
theorem md_bad (a b c : Int) (h : a < 0 ∨ b < 0 ∨ c < 1) : mdV a b c = 0 ∧ mdOk a b c = false := by
  have e : mdOk a b c = false := by
    unfold mdOk
    rcases h with h | h | h
    · rw [decide_eq_false (by omega : ¬ 0 ≤ a)]; rfl
    · rw [decide_eq_false (by omega : ¬ 0 ≤ b)]; simp
    · rw [decide_eq_false (by omega : ¬ 1 ≤ c)]; simp
  exact ⟨by unfold mdV; rw [e]; rfl, e⟩
theorem md_over (a b c : Int) (h : 4611686018427387904 < oz a * oz b / c) : mdV a b c = 0 ∧ mdOk a b c = false := by
  have e : mdOk a b c = false := by
    unfold mdOk
    rw [decide_eq_false (by omega : ¬ oz a * oz b / c ≤ 4611686018427387904)]; simp
  exact ⟨by unfold mdV; rw [e]; rfl, e⟩
theorem md_good (a b c : Int) (ha : 0 ≤ a) (hb : 0 ≤ b) (hc : 1 ≤ c) (h : oz a * oz b / c ≤ 4611686018427387904) : mdV a b c = oz a * oz b / c ∧ mdOk a b c = true := by
  have e : mdOk a b c = true := by
    unfold mdOk
    rw [decide_eq_true ha, decide_eq_true hb, decide_eq_true hc, decide_eq_true h]; rfl
  exact ⟨by unfold mdV; rw [e]; rfl, e⟩
theorem hi_lt (p c : Int) (hc : 0 < c) (h : p / c ≤ 4611686018427387904) : hiW p < c := by
  have h1 : p < c * (p / c) + c := Int.lt_mul_ediv_self_add hc
  have h2 : c * (p / c) ≤ c * 4611686018427387904 := Int.mul_le_mul_of_nonneg_left h (by omega)
  unfold hiW
  omega
/-- Compare's answer. -/
def cmpV (p q : Int) : Int := if p < q then -1 else if q < p then 1 else 0
/-- Draw's answer. -/
def drawV (d n : Int) : Int := if n < 1 then 0 else d % n

theorem tmod_bd (d n : Int) (hn : 1 ≤ n) : -n < d.tmod n ∧ d.tmod n < n := by
  have h1 := Int.tmod_lt_of_pos d (b := n) (by omega)
  have h2 := Int.tmod_lt_of_pos (-d) (b := n) (by omega)
  rw [Int.neg_tmod] at h2
  omega
theorem draw_neg (d n : Int) (hn : 1 ≤ n) (h : d.tmod n < 0) : d.tmod n + n = drawV d n := by
  have b := tmod_bd d n hn
  have e := Int.tmod_add_mul_tdiv d n
  have u := (Int.ediv_emod_unique (a := d) (r := d.tmod n + n) (q := d.tdiv n - 1) (by omega : 0 < n)).2 ⟨by rw [Int.mul_sub]; omega, by omega, by omega⟩
  unfold drawV
  rw [if_neg (by omega), u.2]
theorem draw_pos (d n : Int) (hn : 1 ≤ n) (h : 0 ≤ d.tmod n) : d.tmod n = drawV d n := by
  have b := tmod_bd d n hn
  have e := Int.tmod_add_mul_tdiv d n
  have u := (Int.ediv_emod_unique (a := d) (r := d.tmod n) (q := d.tdiv n) (by omega : 0 < n)).2 ⟨by omega, by omega, by omega⟩
  unfold drawV
  rw [if_neg (by omega), u.2]

/-- The sum of those above 0; Sum's answer: at most MaxTime. -/
def sm : List Int → Int
  | [] => 0
  | x :: l => oz x + sm l
def sumV (l : List Int) : Int := if sm l ≤ 4611686018427387904 then sm l else 4611686018427387904
theorem sm_append (l m : List Int) : sm (l ++ m) = sm l + sm m := by
  induction l with
  | nil => simp [sm]
  | cons x l ih => simp only [List.cons_append, sm, ih]; omega
theorem sm_nonneg (l : List Int) : 0 ≤ sm l := by
  induction l with
  | nil => simp [sm]
  | cons x l ih => have := oz_nonneg x; simp only [sm]; omega
theorem getD_get (l : List Int) (k : Nat) (h : k < l.length) : l.getD k 0 = l[k] := by simp [List.getD, h]
theorem take_snoc (l : List Int) (k : Nat) (h : k < l.length) : l.take (k + 1) = l.take k ++ [l.getD k 0] := by
  rw [List.take_succ_eq_append_getElem h, getD_get _ _ h]
theorem sm_snoc (l : List Int) (k : Nat) (h : k < l.length) : sm (l.take (k + 1)) = sm (l.take k) + oz (l.getD k 0) := by
  rw [take_snoc l k h, sm_append]; simp [sm]
theorem sm_take_le (l : List Int) (k : Nat) : sm (l.take k) ≤ sm l := by
  have h := sm_append (l.take k) (l.drop k)
  rw [List.take_append_drop] at h
  have := sm_nonneg (l.drop k)
  omega
theorem sum_over (l : List Int) (k : Nat) (h : 4611686018427387904 < sm (l.take k)) : sumV l = 4611686018427387904 := by
  have := sm_take_le l k
  unfold sumV
  rw [if_neg (by omega)]
theorem sum_in (l : List Int) (h : sm l ≤ 4611686018427387904) : sumV l = sm l := by
  unfold sumV
  rw [if_pos h]

/-- May total be shared by the parts. -/
def mayB (total : Int) (l : List Int) : Bool := decide (0 ≤ total) && decide (total ≤ 1000000) && !decide (sumV l = 0) && l.all fun x => decide (x ≤ 4611686018427387904 / (l.length : Int))
theorem may_no1 (total : Int) (l : List Int) (h : total < 0) : mayB total l = false := by
  unfold mayB; rw [decide_eq_false (by omega : ¬ 0 ≤ total)]; rfl
theorem may_no2 (total : Int) (l : List Int) (h : 1000000 < total) : mayB total l = false := by
  unfold mayB; rw [decide_eq_false (by omega : ¬ total ≤ 1000000)]; simp
theorem may_no3 (total : Int) (l : List Int) (h : sumV l = 0) : mayB total l = false := by
  unfold mayB; rw [decide_eq_true h]; simp
theorem may_no4 (total : Int) (l : List Int) (k : Nat) (hk : k < l.length) (h : 4611686018427387904 / (l.length : Int) < l.getD k 0) : mayB total l = false := by
  have e : (l.all fun x => decide (x ≤ 4611686018427387904 / (l.length : Int))) = false := by
    rw [List.all_eq_false]
    exact ⟨l.getD k 0, by rw [getD_get _ _ hk]; exact List.getElem_mem hk, by simp only [decide_eq_true_eq]; omega⟩
  unfold mayB; rw [e]; simp
theorem may_yes (total : Int) (l : List Int) (h1 : 0 ≤ total) (h2 : total ≤ 1000000) (h3 : sumV l ≠ 0) (h4 : ∀ k, k < l.length → l.getD k 0 ≤ 4611686018427387904 / (l.length : Int)) : mayB total l = true := by
  have e : (l.all fun x => decide (x ≤ 4611686018427387904 / (l.length : Int))) = true := by
    rw [List.all_eq_true]
    intro x hx
    obtain ⟨k, hk, rfl⟩ := List.getElem_of_mem hx
    have := h4 k hk
    rw [getD_get _ _ hk] at this
    simpa using this
  unfold mayB; rw [e, decide_eq_true h1, decide_eq_true h2, decide_eq_false h3]; rfl

/-- How many of the first i are above 0. -/
def cp (l : List Int) : Nat → Int
  | 0 => 0
  | i + 1 => cp l i + if 0 < l.getD i 0 then 1 else 0
theorem cp_mono (l : List Int) (i j : Nat) (h : i ≤ j) : cp l i ≤ cp l j := by
  induction j with
  | zero => have : i = 0 := by omega
            subst this; exact Int.le_refl _
  | succ j ih =>
    by_cases e : i = j + 1
    · subst e; exact Int.le_refl _
    · have := ih (by omega)
      simp only [cp]
      split <;> omega
/-- What is left over, given one by one to those above 0: behind k places. -/
def giveF (l : List Int) (f : Nat → Int) (left : Int) (k i : Nat) : Int := f i + if i < k ∧ 0 < l.getD i 0 ∧ cp l i < left then 1 else 0
def leftF (l : List Int) (left : Int) (k : Nat) : Int := if cp l k < left then left - cp l k else 0
theorem give_start (l : List Int) (f : Nat → Int) (left : Int) (i : Nat) : giveF l f left 0 i = f i := by
  unfold giveF; rw [if_neg (by omega)]; omega
theorem left_start (l : List Int) (left : Int) (h : 0 ≤ left) : leftF l left 0 = left := by
  unfold leftF cp; split <;> omega
theorem left_bd (l : List Int) (left : Int) (k : Nat) (h : 0 ≤ left) : 0 ≤ leftF l left k ∧ leftF l left k ≤ left := by
  have h0 := cp_mono l 0 k (by omega)
  have e : cp l 0 = 0 := rfl
  unfold leftF
  split <;> omega
theorem give_done (l : List Int) (f : Nat → Int) (left : Int) (k n i : Nat) (h : leftF l left k = 0) (hi : i < n) : giveF l f left k i = giveF l f left n i := by
  have hc : left ≤ cp l k := by unfold leftF at h; split at h <;> omega
  unfold giveF
  by_cases e : i < k
  · simp [e, hi]
  · have := cp_mono l k i (by omega)
    rw [if_neg (by omega), if_neg (by omega)]
theorem give_pos (l : List Int) (f : Nat → Int) (left : Int) (k i : Nat) (h : leftF l left k ≠ 0) (hx : 0 < l.getD k 0) :
    giveF l f left (k + 1) i = if i = k then giveF l f left k k + 1 else giveF l f left k i := by
  have hc : cp l k < left := by unfold leftF at h; split at h <;> omega
  unfold giveF
  by_cases e : i = k
  · subst e
    rw [if_pos rfl, if_pos ⟨by omega, hx, hc⟩, if_neg (by omega)]; omega
  · rw [if_neg e]
    congr 1
    by_cases e2 : i < k
    · simp [e2, show i < k + 1 by omega]
    · rw [if_neg (by omega), if_neg (by omega)]
theorem left_pos (l : List Int) (left : Int) (k : Nat) (h : leftF l left k ≠ 0) (hx : 0 < l.getD k 0) : leftF l left (k + 1) = leftF l left k - 1 := by
  have e : cp l (k + 1) = cp l k + 1 := by simp only [cp]; rw [if_pos hx]
  unfold leftF at *
  rw [e]
  split at h
  · rename_i hc
    rw [if_pos hc]
    split <;> omega
  · omega
theorem give_neg (l : List Int) (f : Nat → Int) (left : Int) (k i : Nat) (hx : ¬ 0 < l.getD k 0) : giveF l f left (k + 1) i = giveF l f left k i := by
  unfold giveF
  congr 1
  by_cases e : i = k
  · subst e; rw [if_neg (by omega), if_neg (by omega)]
  · by_cases e2 : i < k
    · simp [e2, show i < k + 1 by omega]
    · rw [if_neg (by omega), if_neg (by omega)]
theorem left_neg (l : List Int) (left : Int) (k : Nat) (hx : ¬ 0 < l.getD k 0) : leftF l left (k + 1) = leftF l left k := by
  have e : cp l (k + 1) = cp l k := by simp only [cp]; rw [if_neg hx]; omega
  unfold leftF
  rw [e]

/-- The share of place i, ahead of what is left over; the sum of the first k shares. -/
def shareF (total : Int) (l : List Int) (i : Nat) : Int := mdV total (oz (l.getD i 0)) (sumV l)
def fsum (total : Int) (l : List Int) : Nat → Int
  | 0 => 0
  | k + 1 => fsum total l k + shareF total l k
/-- Spread's answer. -/
def spreadV (total : Int) (l : List Int) : List Int :=
  if mayB total l then (List.range l.length).map (giveF l (shareF total l) (total - fsum total l l.length) l.length) else []
theorem may_facts (total : Int) (l : List Int) (h : mayB total l = true) : 0 ≤ total ∧ total ≤ 1000000 ∧ sumV l ≠ 0 ∧ ∀ x ∈ l, x ≤ 4611686018427387904 / (l.length : Int) := by
  unfold mayB at h
  simp only [Bool.and_eq_true, decide_eq_true_eq, Bool.not_eq_true', decide_eq_false_iff_not, List.all_eq_true] at h
  exact ⟨h.1.1.1, h.1.1.2, h.1.2, h.2⟩

theorem sumV_bd (l : List Int) : 0 ≤ sumV l ∧ sumV l ≤ 4611686018427387904 := by
  have := sm_nonneg l
  unfold sumV
  split <;> omega
theorem sm_le (l : List Int) (m : Int) (h0 : 0 ≤ m) (h : ∀ x ∈ l, x ≤ m) : sm l ≤ l.length * m := by
  induction l with
  | nil => simp [sm]
  | cons x l ih =>
    have h1 := ih fun y hy => h y (List.mem_cons_of_mem _ hy)
    have h2 := oz_le x m (h x List.mem_cons_self) h0
    have e : ((l.length + 1 : Nat) : Int) * m = l.length * m + m := by rw [Int.natCast_add, Int.add_mul]; simp
    simp only [sm, List.length_cons]
    omega
theorem may_sum (total : Int) (l : List Int) (h : mayB total l = true) : sumV l = sm l ∧ 0 < sm l := by
  obtain ⟨h0, h1, h2, h3⟩ := may_facts total l h
  have hq : 0 ≤ 4611686018427387904 / (l.length : Int) := Int.ediv_nonneg (by omega) (by omega)
  have hs := sm_le l _ hq h3
  have hl : (l.length : Int) ≠ 0 := by
    intro e
    have : l = [] := List.eq_nil_of_length_eq_zero (by omega)
    subst this
    exact h2 rfl
  have hd : (l.length : Int) * (4611686018427387904 / (l.length : Int)) ≤ 4611686018427387904 := Int.mul_ediv_self_le hl
  have e := sum_in l (by omega)
  have := sm_nonneg l
  exact ⟨e, by omega⟩
theorem oz_le_sm (l : List Int) (k : Nat) (h : k < l.length) : oz (l.getD k 0) ≤ sm l := by
  have h1 := sm_snoc l k h
  have h2 := sm_take_le l (k + 1)
  have h3 := sm_nonneg (l.take k)
  omega
theorem share_eq (total : Int) (l : List Int) (h : mayB total l = true) (k : Nat) (hk : k < l.length) : shareF total l k = total * oz (l.getD k 0) / sm l := by
  obtain ⟨h0, h1, h2, h3⟩ := may_facts total l h
  obtain ⟨e, hp⟩ := may_sum total l h
  have hz := oz_nonneg (l.getD k 0)
  have hle := oz_le_sm l k hk
  unfold shareF
  rw [e]
  have e1 : oz total = total := oz_pos h0
  have e2 : oz (oz (l.getD k 0)) = oz (l.getD k 0) := oz_pos hz
  have hb : total * oz (l.getD k 0) / sm l ≤ total := by
    have : total * oz (l.getD k 0) ≤ total * sm l := Int.mul_le_mul_of_nonneg_left hle h0
    exact Int.le_trans (Int.ediv_le_ediv hp this) (by rw [Int.mul_ediv_cancel _ (by omega)]; exact Int.le_refl _)
  have g := (md_good total (oz (l.getD k 0)) (sm l) h0 hz (by omega) (by rw [e1, e2]; omega)).1
  rw [g, e1, e2]
theorem share_bd (total : Int) (l : List Int) (h : mayB total l = true) (k : Nat) (hk : k < l.length) : 0 ≤ shareF total l k ∧ shareF total l k ≤ 1000000 := by
  obtain ⟨h0, h1, h2, h3⟩ := may_facts total l h
  obtain ⟨e, hp⟩ := may_sum total l h
  have hz := oz_nonneg (l.getD k 0)
  have hle := oz_le_sm l k hk
  rw [share_eq total l h k hk]
  have hb : total * oz (l.getD k 0) / sm l ≤ total := by
    have : total * oz (l.getD k 0) ≤ total * sm l := Int.mul_le_mul_of_nonneg_left hle h0
    exact Int.le_trans (Int.ediv_le_ediv hp this) (by rw [Int.mul_ediv_cancel _ (by omega)]; exact Int.le_refl _)
  exact ⟨Int.ediv_nonneg (Int.mul_nonneg h0 hz) (by omega), by omega⟩
theorem fsum_mul (total : Int) (l : List Int) (h : mayB total l = true) (k : Nat) (hk : k ≤ l.length) : sm l * fsum total l k ≤ total * sm (l.take k) := by
  obtain ⟨e, hp⟩ := may_sum total l h
  induction k with
  | zero => simp [fsum, sm]
  | succ k ih =>
    have h1 := ih (by omega)
    have h2 := sm_snoc l k (by omega)
    have h3 := share_eq total l h k (by omega)
    have h4 : sm l * (total * oz (l.getD k 0) / sm l) ≤ total * oz (l.getD k 0) := Int.mul_ediv_self_le (by omega)
    simp only [fsum]
    rw [h2, h3, Int.mul_add, Int.mul_add]
    omega
theorem getD_out (l : List Int) (k : Nat) (h : l.length ≤ k) : l.getD k 0 = 0 := by simp [List.getD, h]
theorem fsum_bd (total : Int) (l : List Int) (h : mayB total l = true) (k : Nat) : 0 ≤ fsum total l k ∧ fsum total l k ≤ total := by
  obtain ⟨h0, h1, h2, h3⟩ := may_facts total l h
  obtain ⟨e, hp⟩ := may_sum total l h
  have out : ∀ k, l.length ≤ k → shareF total l k = 0 := by
    intro k hk
    unfold shareF
    rw [getD_out l k hk, e]
    have e1 : oz total = total := oz_pos h0
    have e2 : oz (oz 0) = 0 := rfl
    have e3 : oz 0 = 0 := rfl
    have g := (md_good total (oz 0) (sm l) h0 (by rw [e3]; omega) (by omega) (by rw [e1, e2]; simp)).1
    rw [g, e1, e2]
    simp
  have pos : ∀ k, 0 ≤ fsum total l k := by
    intro k
    induction k with
    | zero => simp [fsum]
    | succ k ih =>
      simp only [fsum]
      by_cases hk : k < l.length
      · have := (share_bd total l h k hk).1
        omega
      · rw [out k (by omega)]; omega
  have le : ∀ k, k ≤ l.length → fsum total l k ≤ total := by
    intro k hk
    have h4 := fsum_mul total l h k hk
    have h5 : total * sm (l.take k) ≤ total * sm l := Int.mul_le_mul_of_nonneg_left (sm_take_le l k) h0
    rw [Int.mul_comm] at h4
    exact Int.le_of_mul_le_mul_right (Int.le_trans h4 h5) hp
  refine ⟨pos k, ?_⟩
  induction k with
  | zero => simpa [fsum] using h0
  | succ k ih =>
    by_cases hk : k < l.length
    · exact le (k + 1) (by omega)
    · simp only [fsum]
      rw [out k (by omega)]
      omega

/-- The school method on halves of 32 bits, as the program's 'times' goes: no step wraps, and what it comes to. -/
theorem times_law (x y : Nat) (hx : x < 18446744073709551616) (hy : y < 18446744073709551616) :
    (x % 4294967296) * (y % 4294967296) < 18446744073709551616 ∧
    (x / 4294967296) * (y % 4294967296) < 18446744073709551616 ∧
    (x / 4294967296) * (y % 4294967296) + (x % 4294967296) * (y % 4294967296) / 4294967296 < 18446744073709551616 ∧
    (x % 4294967296) * (y / 4294967296) < 18446744073709551616 ∧
    (x % 4294967296) * (y / 4294967296) + ((x / 4294967296) * (y % 4294967296) + (x % 4294967296) * (y % 4294967296) / 4294967296) % 4294967296 < 18446744073709551616 ∧
    (x / 4294967296) * (y / 4294967296) < 18446744073709551616 ∧
    (x / 4294967296) * (y / 4294967296) + ((x / 4294967296) * (y % 4294967296) + (x % 4294967296) * (y % 4294967296) / 4294967296) / 4294967296 < 18446744073709551616 ∧
    (x / 4294967296) * (y / 4294967296) + ((x / 4294967296) * (y % 4294967296) + (x % 4294967296) * (y % 4294967296) / 4294967296) / 4294967296 +
      ((x % 4294967296) * (y / 4294967296) + ((x / 4294967296) * (y % 4294967296) + (x % 4294967296) * (y % 4294967296) / 4294967296) % 4294967296) / 4294967296 < 18446744073709551616 ∧
    (x / 4294967296) * (y / 4294967296) + ((x / 4294967296) * (y % 4294967296) + (x % 4294967296) * (y % 4294967296) / 4294967296) / 4294967296 +
      ((x % 4294967296) * (y / 4294967296) + ((x / 4294967296) * (y % 4294967296) + (x % 4294967296) * (y % 4294967296) / 4294967296) % 4294967296) / 4294967296 = x * y / 18446744073709551616 ∧
    ((x % 4294967296) * (y / 4294967296) + ((x / 4294967296) * (y % 4294967296) + (x % 4294967296) * (y % 4294967296) / 4294967296) % 4294967296) * 4294967296 % 18446744073709551616 + (x % 4294967296) * (y % 4294967296) % 4294967296 = x * y % 18446744073709551616 := by
  have e : x * y = (x / 4294967296) * (y / 4294967296) * (4294967296 * 4294967296) + ((x / 4294967296) * (y % 4294967296) + (x % 4294967296) * (y / 4294967296)) * 4294967296 + (x % 4294967296) * (y % 4294967296) := by
    rw [← Lib.split_mul, Nat.div_add_mod' x 4294967296, Nat.div_add_mod' y 4294967296]
  have ha := Lib.half_mul_le (a := x / 4294967296) (b := y / 4294967296) (by omega) (by omega)
  have hb := Lib.half_mul_le (a := x / 4294967296) (b := y % 4294967296) (by omega) (by omega)
  have hc := Lib.half_mul_le (a := x % 4294967296) (b := y / 4294967296) (by omega) (by omega)
  have hd := Lib.half_mul_le (a := x % 4294967296) (b := y % 4294967296) (by omega) (by omega)
  rw [e]
  generalize (x / 4294967296) * (y / 4294967296) = a at *
  generalize (x / 4294967296) * (y % 4294967296) = b at *
  generalize (x % 4294967296) * (y / 4294967296) = c at *
  generalize (x % 4294967296) * (y % 4294967296) = d at *
  refine ⟨by omega, by omega, by omega, by omega, by omega, by omega, by omega, by omega, by omega, by omega⟩

end Go.Proofs.YtomhmndpjkfppaaDoor

/-
  The plain mathematics of chapter 3: keys (pairs of numbers) in order. No program stands in it.
-/
namespace Go.Proofs.YtomhmndpjkfppaaDoor

def ltK (a b : Int × Int) : Bool := decide (a.1 < b.1 ∨ a.1 = b.1 ∧ a.2 < b.2)
def leK (a b : Int × Int) : Bool := !ltK b a
/-- The sorted row. -/
def sortV (ks : List (Int × Int)) : List (Int × Int) := ks.mergeSort leK
abbrev SortedK (l : List (Int × Int)) : Prop := l.Pairwise fun a b => leK a b = true

theorem ltK_iff (a b : Int × Int) : ltK a b = true ↔ (a.1 < b.1 ∨ a.1 = b.1 ∧ a.2 < b.2) := by unfold ltK; simp
theorem ltK_irrefl (a : Int × Int) : ltK a a = false := by
  cases h : ltK a a with
  | false => rfl
  | true => rw [ltK_iff] at h; omega
theorem ltK_trans {a b c : Int × Int} (h1 : ltK a b = true) (h2 : ltK b c = true) : ltK a c = true := by
  rw [ltK_iff] at *; omega
theorem leK_iff (a b : Int × Int) : leK a b = true ↔ (a.1 < b.1 ∨ a.1 = b.1 ∧ a.2 ≤ b.2) := by
  unfold leK ltK
  rw [Bool.not_eq_true', decide_eq_false_iff_not]
  omega
theorem leK_trans (a b c : Int × Int) (h1 : leK a b = true) (h2 : leK b c = true) : leK a c = true := by rw [leK_iff] at *; omega
theorem leK_total (a b : Int × Int) : (leK a b || leK b a) = true := by rw [Bool.or_eq_true, leK_iff, leK_iff]; omega
theorem leK_antisymm (a b : Int × Int) (h1 : leK a b = true) (h2 : leK b a = true) : a = b := by
  rw [leK_iff] at *
  exact Prod.ext (by omega) (by omega)
theorem leK_refl (a : Int × Int) : leK a a = true := by rw [leK_iff]; omega
theorem leK_of_ltK {a b : Int × Int} (h : ltK a b = true) : leK a b = true := by rw [leK_iff]; rw [ltK_iff] at h; omega
theorem leK_of_not {a b : Int × Int} (h : ltK a b = false) : leK b a = true := by unfold leK; rw [h]; rfl
theorem not_of_leK {a b : Int × Int} (h : leK a b = true) : ltK b a = false := by unfold leK at h; simpa using h
theorem ltK_of_lt_le {a b c : Int × Int} (h1 : ltK a b = true) (h2 : leK b c = true) : ltK a c = true := by rw [ltK_iff] at *; rw [leK_iff] at h2; omega
theorem ltK_of_le_lt {a b c : Int × Int} (h1 : leK a b = true) (h2 : ltK b c = true) : ltK a c = true := by rw [ltK_iff] at *; rw [leK_iff] at h1; omega

theorem sortV_perm (ks : List (Int × Int)) : (sortV ks).Perm ks := List.mergeSort_perm _ _
theorem sortV_sorted (ks : List (Int × Int)) : SortedK (sortV ks) := List.pairwise_mergeSort leK_trans leK_total ks
/-- A sorted row is the only one of its keys. -/
theorem sortV_unique {l ks : List (Int × Int)} (hp : l.Perm ks) (hs : SortedK l) : l = sortV ks :=
  List.Perm.eq_of_pairwise (fun a b _ _ => leK_antisymm a b) hs (sortV_sorted ks) (hp.trans (sortV_perm ks).symm)
theorem sortV_congr {l m : List (Int × Int)} (hp : l.Perm m) : sortV l = sortV m := sortV_unique ((sortV_perm l).trans hp) (sortV_sorted l)
theorem sortV_of_sorted {l : List (Int × Int)} (hs : SortedK l) : sortV l = l := (sortV_unique (List.Perm.refl l) hs).symm
theorem sortV_sortV (l : List (Int × Int)) : sortV (sortV l) = sortV l := sortV_of_sorted (sortV_sorted l)
theorem sortV_length (l : List (Int × Int)) : (sortV l).length = l.length := (sortV_perm l).length_eq
theorem sortV_nil : sortV [] = [] := by unfold sortV; simp
theorem sortV_append (l m : List (Int × Int)) : sortV (sortV l ++ sortV m) = sortV (l ++ m) := sortV_congr ((sortV_perm l).append (sortV_perm m))
theorem sortV_mem {l : List (Int × Int)} {k : Int × Int} : k ∈ sortV l ↔ k ∈ l := (sortV_perm l).mem_iff

/-- How many are less than k. -/
def findV (l : List (Int × Int)) (k : Int × Int) : Nat := l.countP fun x => ltK x k
theorem findV_le (l : List (Int × Int)) (k : Int × Int) : findV l k ≤ l.length := List.countP_le_length
theorem findV_sort (l : List (Int × Int)) (k : Int × Int) : findV (sortV l) k = findV l k := (sortV_perm l).countP_eq _

/-- In a sorted row those that are less stand ahead. -/
theorem findV_spec {l : List (Int × Int)} {k : Int × Int} (hs : SortedK l) : (∀ i (h : i < l.length), i < findV l k → ltK l[i] k = true) ∧ (∀ i (h : i < l.length), findV l k ≤ i → ltK l[i] k = false) := by
  induction l with
  | nil => exact ⟨fun i h => by simp at h, fun i h => by simp at h⟩
  | cons x r ih =>
    have hr := (List.pairwise_cons.1 hs)
    obtain ⟨i1, i2⟩ := ih hr.2
    unfold findV at *
    rw [List.countP_cons]
    by_cases hx : ltK x k = true
    · simp only [hx, if_true]
      refine ⟨fun i h hi => ?_, fun i h hi => ?_⟩
      · cases i with
        | zero => exact hx
        | succ i => exact i1 i (by simpa using h) (by omega)
      · cases i with
        | zero => omega
        | succ i => exact i2 i (by simpa using h) (by omega)
    · have hx' : ltK x k = false := by simpa using hx
      have hall : ∀ y ∈ r, ltK y k = false := fun y hy => by
        cases e : ltK y k with
        | false => rfl
        | true => have := ltK_of_le_lt (hr.1 y hy) e; rw [hx'] at this; cases this
      have h0 : r.countP (fun x => ltK x k) = 0 := by
        rw [List.countP_eq_zero]
        intro y hy
        simp [hall y hy]
      simp only [hx', h0]
      refine ⟨fun i h hi => by simp at hi, fun i h _ => ?_⟩
      cases i with
      | zero => exact hx'
      | succ i => exact hall _ (List.getElem_mem _)

/-- k is in a sorted row just if it stands behind those that are less. -/
theorem mem_iff_findV {l : List (Int × Int)} {k : Int × Int} (hs : SortedK l) : k ∈ l ↔ ∃ h : findV l k < l.length, l[findV l k] = k := by
  refine ⟨fun hk => ?_, fun ⟨h, e⟩ => e ▸ List.getElem_mem h⟩
  obtain ⟨j, hj, rfl⟩ := List.getElem_of_mem hk
  obtain ⟨h1, h2⟩ := findV_spec (k := l[j]) hs
  have hle : findV l l[j] ≤ j := by
    rcases Nat.lt_or_ge j (findV l l[j]) with h | h
    · have := h1 j hj h; rw [ltK_irrefl] at this; cases this
    · exact h
  have hlt : findV l l[j] < l.length := by omega
  refine ⟨hlt, ?_⟩
  have a := leK_of_not (h2 _ hlt (Nat.le_refl _))
  rcases Nat.lt_or_ge (findV l l[j]) j with h | h
  · exact leK_antisymm _ _ (List.pairwise_iff_getElem.1 hs _ _ hlt hj h) a
  · have e : findV l l[j] = j := by omega
    simp [e]

/-- Each one less than the next. -/
def risingV (l : List (Int × Int)) : Bool := (List.range (l.length - 1)).all fun i => ltK (l.getD i (0, 0)) (l.getD (i + 1) (0, 0))

theorem kgetD {l : List (Int × Int)} (i : Nat) (h : i < l.length) : l.getD i (0, 0) = l[i] := by simp [h]

end Go.Proofs.YtomhmndpjkfppaaDoor

/-
  The plain mathematics of chapter 4: numbers in turn, times, the parts of a text. No program stands in it.
-/
namespace Go.Proofs.YtomhmndpjkfppaaDoor

/-- Turn's numbers. -/
def turnV (n f : Int) : List Int := (List.range n.toNat).map fun i : Nat => (drawV f n + (i : Int)) % n
/-- Times' numbers. -/
def timesN (f st to : Int) : Nat := if st < 1 ∨ f < 0 ∨ 4611686018427387904 < to ∨ to < f then 0 else ((to - f) / st).toNat + 1
def timesV (f st to : Int) : List Int := (List.range (timesN f st to)).map fun i : Nat => f + (i : Int) * st

/-- The parts of a text: cur is what stands since the last separator. -/
def goL (c : Int) : List UInt8 → List UInt8 → List (List UInt8)
  | cur, [] => [cur]
  | cur, b :: r => if (b.toNat : Int) = c then cur :: goL c [] r else goL c (cur ++ [b]) r
def mkS (l : List UInt8) : ByteArray := ⟨l.toArray⟩
def partsV (s : ByteArray) (c : Int) : List ByteArray := (goL c [] s.data.toList).map mkS
/-- Numbered from 0 on. -/
def numbered (l : List ByteArray) : List (Int × ByteArray) := l.zipIdx.map fun p => ((p.2 : Nat), p.1)

theorem goL_length (c : Int) (cur l : List UInt8) : (goL c cur l).length ≤ l.length + 1 := by
  induction l generalizing cur with
  | nil => simp [goL]
  | cons b r ih =>
    unfold goL
    split
    · have := ih []; simp; omega
    · have := ih (cur ++ [b]); simp; omega
theorem goL_pos (c : Int) (cur l : List UInt8) : 0 < (goL c cur l).length := by
  induction l generalizing cur with
  | nil => simp [goL]
  | cons b r ih =>
    unfold goL
    split
    · simp
    · exact ih _
theorem partsV_length (s : ByteArray) (c : Int) : (partsV s c).length ≤ s.size + 1 := by
  unfold partsV
  rw [List.length_map]
  exact goL_length c [] s.data.toList

/-- From place a to place b. -/
def cutL (l : List UInt8) (a b : Nat) : List UInt8 := (l.drop a).take (b - a)
theorem cutL_self (l : List UInt8) (a : Nat) : cutL l a a = [] := by unfold cutL; simp
theorem cutL_snoc {l : List UInt8} {a k : Nat} (h : a ≤ k) (hk : k < l.length) : cutL l a (k + 1) = cutL l a k ++ [l[k]] := by
  unfold cutL
  have h1 : k - a < (l.drop a).length := by simp; omega
  rw [show k + 1 - a = k - a + 1 by omega, List.take_succ_eq_append_getElem h1, List.getElem_drop]
  congr 3
  omega
theorem goL_hit {c : Int} {cur l : List UInt8} {k : Nat} (hk : k < l.length) (h : (l[k].toNat : Int) = c) : goL c cur (l.drop k) = cur :: goL c [] (l.drop (k + 1)) := by
  rw [List.drop_eq_getElem_cons hk, goL, if_pos h]
theorem goL_miss {c : Int} {cur l : List UInt8} {k : Nat} (hk : k < l.length) (h : ¬ (l[k].toNat : Int) = c) : goL c cur (l.drop k) = goL c (cur ++ [l[k]]) (l.drop (k + 1)) := by
  rw [List.drop_eq_getElem_cons hk, goL, if_neg h]
theorem goL_end {c : Int} {cur l : List UInt8} {k : Nat} (hk : l.length ≤ k) : goL c cur (l.drop k) = [cur] := by
  rw [List.drop_eq_nil_of_le hk, goL]
theorem extract_cut (s : ByteArray) (a b : Nat) : s.extract a b = mkS (cutL s.data.toList a b) := by
  apply ByteArray.ext
  unfold mkS cutL
  rw [ByteArray.data_extract]
  apply Array.ext'
  rw [Array.toList_extract, List.extract_eq_take_drop]

/-- D is told, from place a on nothing yet; the text is read up to place k. -/
def Parting (s : ByteArray) (c : Int) (D : List ByteArray) (a k : Nat) : Prop :=
  a ≤ k ∧ k ≤ s.size ∧ D.length ≤ a ∧ D ++ (goL c (cutL s.data.toList a k) (s.data.toList.drop k)).map mkS = partsV s c
theorem parting_start (s : ByteArray) (c : Int) : Parting s c [] 0 0 := ⟨Nat.le_refl _, Nat.zero_le _, Nat.zero_le _, by simp [cutL_self, partsV]⟩
theorem parting_hit {s : ByteArray} {c : Int} {D : List ByteArray} {a k : Nat} (h : Parting s c D a k) (hk : k < s.size) (hc : ((s[k]).toNat : Int) = c) : Parting s c (D ++ [s.extract a k]) (k + 1) (k + 1) := by
  obtain ⟨h1, h2, h3, h4⟩ := h
  have hl : k < s.data.toList.length := hk
  refine ⟨Nat.le_refl _, hk, by simp; omega, ?_⟩
  rw [goL_hit hl hc] at h4
  rw [← h4, extract_cut, cutL_self, List.append_assoc]
  rfl
theorem parting_miss {s : ByteArray} {c : Int} {D : List ByteArray} {a k : Nat} (h : Parting s c D a k) (hk : k < s.size) (hc : ¬ ((s[k]).toNat : Int) = c) : Parting s c D a (k + 1) := by
  obtain ⟨h1, h2, h3, h4⟩ := h
  have hl : k < s.data.toList.length := hk
  refine ⟨by omega, hk, h3, ?_⟩
  rw [goL_miss hl hc, ← cutL_snoc h1 hl] at h4
  exact h4
theorem parting_end {s : ByteArray} {c : Int} {D : List ByteArray} {a k : Nat} (h : Parting s c D a k) (hk : ¬ k < s.size) : D ++ [s.extract a s.size] = partsV s c := by
  obtain ⟨h1, h2, h3, h4⟩ := h
  have e : k = s.size := by omega
  subst e
  rw [goL_end (by exact Nat.le_refl _)] at h4
  rw [← h4, extract_cut]
  rfl

theorem numbered_length (l : List ByteArray) : (numbered l).length = l.length := by unfold numbered; simp
theorem numbered_get (l : List ByteArray) (j : Nat) : (numbered l)[j]? = (l[j]?).map fun x => ((j : Int), x) := by
  unfold numbered
  rw [List.getElem?_map, List.getElem?_zipIdx]
  cases l[j]? <;> simp
theorem numbered_at (l : List ByteArray) (j : Nat) (h : j < (numbered l).length) : (numbered l)[j] = ((j : Int), l[j]'(by rw [← numbered_length l]; exact h)) := by
  have h2 : j < l.length := by rw [← numbered_length l]; exact h
  have e := numbered_get l j
  rw [List.getElem?_eq_getElem h, List.getElem?_eq_getElem h2] at e
  simpa using e
theorem numbered_snd (l : List ByteArray) : (numbered l).map (·.2) = l := by
  apply List.ext_getElem
  · simp [numbered_length]
  · intro j h1 h2
    rw [List.getElem_map, numbered_at]

/-- Numbered as they come. -/
def Enum (l : List (Int × ByteArray)) : Prop := ∀ j (h : j < l.length), l[j].1 = (j : Int)
theorem numbered_enum (l : List ByteArray) : Enum (numbered l) := fun j h => by rw [numbered_at]
theorem Enum.prefix {a b : List (Int × ByteArray)} (h : Enum b) (hp : a <+: b) : Enum a := fun j hj => by
  obtain ⟨t, rfl⟩ := hp
  have := h j (by simp; omega)
  rwa [List.getElem_append_left hj] at this
theorem Enum.snoc {a : List (Int × ByteArray)} {x : Int × ByteArray} (h : Enum a) (hx : x.1 = (a.length : Int)) : Enum (a ++ [x]) := fun j hj => by
  rcases Nat.lt_or_ge j a.length with h1 | h1
  · rw [List.getElem_append_left h1]; exact h j h1
  · simp at hj
    have e : j = a.length := by omega
    subst e
    simpa using hx
theorem Enum.last {a : List (Int × ByteArray)} {x : Int × ByteArray} (h : Enum (a ++ [x])) : x.1 = (a.length : Int) := by
  have := h a.length (by simp)
  simpa using this

theorem turnV_length (n f : Int) : (turnV n f).length = n.toNat := by unfold turnV; simp
theorem timesV_length (f st to : Int) : (timesV f st to).length = timesN f st to := by unfold timesV; simp
theorem turnV_in (n f : Int) (x : Int) (h : x ∈ turnV n f) : 0 ≤ x ∧ x < n := by
  unfold turnV at h
  simp only [List.mem_map, List.mem_range] at h
  obtain ⟨i, hi, rfl⟩ := h
  exact ⟨Int.emod_nonneg _ (by omega), Int.emod_lt_of_pos _ (by omega)⟩
theorem timesN_in (f st to : Int) (i : Nat) (h : i < timesN f st to) : 1 ≤ st ∧ 0 ≤ f ∧ to ≤ 4611686018427387904 ∧ f ≤ to ∧ f + (i : Int) * st ≤ to := by
  unfold timesN at h
  split at h
  · omega
  · rename_i hn
    have h1 : (i : Int) ≤ (to - f) / st := by
      have := Int.ediv_nonneg (show (0 : Int) ≤ to - f by omega) (show (0 : Int) ≤ st by omega)
      omega
    have h2 : (i : Int) * st ≤ to - f := Int.le_trans (Int.mul_le_mul_of_nonneg_right h1 (by omega)) (Int.ediv_mul_le _ (by omega))
    omega
theorem timesV_in (f st to : Int) (x : Int) (h : x ∈ timesV f st to) : 0 ≤ x ∧ x ≤ 4611686018427387904 := by
  unfold timesV at h
  simp only [List.mem_map, List.mem_range] at h
  obtain ⟨i, hi, rfl⟩ := h
  have h1 := timesN_in f st to i hi
  have h2 : 0 ≤ (i : Int) * st := Int.mul_nonneg (by omega) (by omega)
  omega

/-- Parts with the byte between. -/
def joinL (c : UInt8) : List (List UInt8) → List UInt8
  | [] => []
  | p :: r => p ++ r.flatMap fun q => c :: q
theorem joinL_snoc (c : UInt8) (ps : List (List UInt8)) (q : List UInt8) : joinL c (ps ++ [q]) = joinL c ps ++ ((if ps = [] then [] else [c]) ++ q) := by
  cases ps with
  | nil => simp [joinL]
  | cons p r => simp [joinL]
theorem joinL_goL (c : UInt8) (cur l : List UInt8) : joinL c (goL (c.toNat : Int) cur l) = cur ++ l := by
  induction l generalizing cur with
  | nil => simp [goL, joinL]
  | cons b r ih =>
    unfold goL
    split
    · rename_i h
      have hb : b = c := UInt8.toNat_inj.1 (by omega)
      subst hb
      have h2 := ih []
      have hp := goL_pos (b.toNat : Int) [] r
      cases hg : goL (b.toNat : Int) [] r with
      | nil => rw [hg] at hp; simp at hp
      | cons p ps =>
        rw [hg] at h2
        simp only [joinL, List.flatMap_cons, List.nil_append] at h2 ⊢
        rw [List.cons_append, h2]
    · rw [ih]; simp
theorem joinL_take_le (c : UInt8) (ps : List (List UInt8)) (k : Nat) : (joinL c (ps.take k)).length ≤ (joinL c ps).length := by
  cases ps with
  | nil => simp [joinL]
  | cons p r =>
    cases k with
    | zero => simp [joinL]
    | succ k =>
      have h : r.flatMap (fun q => c :: q) = (r.take k).flatMap (fun q => c :: q) ++ (r.drop k).flatMap (fun q => c :: q) := by rw [← List.flatMap_append, List.take_append_drop]
      simp only [List.take_succ_cons, joinL, List.length_append]
      rw [h, List.length_append]
      omega
theorem joinL_step (c : UInt8) (ps : List (List UInt8)) (k : Nat) (h : k < ps.length) : joinL c (ps.take (k + 1)) = joinL c (ps.take k) ++ ((if k = 0 then [] else [c]) ++ ps.getD k []) := by
  rw [List.take_succ_eq_append_getElem h, joinL_snoc]
  have e : (ps.take k = []) = (k = 0) := by
    apply propext
    constructor
    · intro e
      have := congrArg List.length e
      rw [List.length_take, List.length_nil] at this
      omega
    · rintro rfl; rfl
  simp only [e, List.getD_eq_getElem?_getD, List.getElem?_eq_getElem h, Option.getD_some]

end Go.Proofs.YtomhmndpjkfppaaDoor

/-
  The plain mathematics of chapter 5: numbers and names, lines and words. No program stands in it.
-/
namespace Go.Proofs.YtomhmndpjkfppaaDoor

def isDig (b : UInt8) : Bool := decide (48 ≤ b.toNat ∧ b.toNat ≤ 57)
def numL (l : List UInt8) : Nat := l.foldl (fun n b => n * 10 + (b.toNat - 48)) 0
theorem numL_snoc (l : List UInt8) (b : UInt8) : numL (l ++ [b]) = numL l * 10 + (b.toNat - 48) := by unfold numL; rw [List.foldl_append]; rfl
theorem numL_acc (l : List UInt8) (a : Nat) (h : ∀ b ∈ l, isDig b = true) : l.foldl (fun n b => n * 10 + (b.toNat - 48)) a < (a + 1) * 10 ^ l.length := by
  induction l generalizing a with
  | nil => simp
  | cons c r ih =>
    have hc := h c (by simp)
    unfold isDig at hc
    simp only [decide_eq_true_eq] at hc
    have h1 := ih (a * 10 + (c.toNat - 48)) (fun b hb => h b (by simp [hb]))
    have h2 : (a * 10 + (c.toNat - 48) + 1) * 10 ^ r.length ≤ ((a + 1) * 10) * 10 ^ r.length := Nat.mul_le_mul_right _ (by omega)
    rw [List.foldl_cons, List.length_cons, Nat.pow_succ, Nat.mul_comm (10 ^ r.length) 10, ← Nat.mul_assoc]
    omega
theorem numL_lt (l : List UInt8) (h : ∀ b ∈ l, isDig b = true) : numL l < 10 ^ l.length := by
  have := numL_acc l 0 h
  unfold numL
  omega

/-- A text's bytes, up to place k. -/
def upto (s : ByteArray) (k : Nat) : List UInt8 := s.data.toList.take k
theorem upto_succ (s : ByteArray) (k : Nat) (h : k < s.size) : upto s (k + 1) = upto s k ++ [s[k]] := by
  unfold upto
  rw [List.take_succ_eq_append_getElem (by simpa using h)]; rfl
theorem upto_all (s : ByteArray) (k : Nat) (h : s.size ≤ k) : upto s k = s.data.toList := List.take_of_length_le (by simpa using h)
theorem upto_length (s : ByteArray) (k : Nat) (h : k ≤ s.size) : (upto s k).length = k := by
  unfold upto
  rw [List.length_take]
  have : s.data.toList.length = s.size := rfl
  omega
theorem upto_mem {s : ByteArray} {k : Nat} {b : UInt8} (h : b ∈ upto s k) : b ∈ s.data.toList := List.mem_of_mem_take h
theorem mem_at (s : ByteArray) (k : Nat) (h : k < s.size) : s[k] ∈ s.data.toList := by
  have e : s[k] = s.data.toList[k]'h := rfl
  rw [e]; exact List.getElem_mem _

/-- May it be a number, and which. -/
def numOK (s : ByteArray) : Bool := decide (1 ≤ s.size ∧ s.size ≤ 7) && !(decide (1 < s.size) && decide (s.data.toList.head? = some 48)) && s.data.toList.all isDig && decide (numL s.data.toList ≤ 1000000)
def numV (s : ByteArray) : Int := if numOK s then (numL s.data.toList : Int) else 0

def nameB (b : UInt8) : Bool := decide ((97 ≤ b.toNat ∧ b.toNat ≤ 122) ∨ (48 ≤ b.toNat ∧ b.toNat ≤ 57) ∨ b.toNat = 45 ∨ b.toNat = 46)
def nameOK (s : ByteArray) : Bool := decide (1 ≤ s.size ∧ s.size ≤ 12) && !decide (s.data.toList = [45]) && s.data.toList.all nameB

theorem head_at (s : ByteArray) (h : 0 < s.size) : s.data.toList.head? = some s[0] := by
  have hl : 0 < s.data.toList.length := h
  rw [List.head?_eq_getElem?, List.getElem?_eq_getElem hl]
  rfl

theorem numOK_short {s : ByteArray} (h : ¬ (1 ≤ s.size ∧ s.size ≤ 7)) : numOK s = false := by unfold numOK; simp [h]
theorem numOK_nought {s : ByteArray} (h : 1 < s.size) (h0 : (s[0]).toNat = 48) : numOK s = false := by
  unfold numOK
  have e : s[0] = 48 := UInt8.toNat_inj.1 h0
  rw [head_at s (by omega), e]
  simp [h]
theorem numOK_bad {s : ByteArray} (k : Nat) (h : k < s.size) (hb : isDig s[k] = false) : numOK s = false := by
  unfold numOK
  have : s.data.toList.all isDig = false := by
    rw [List.all_eq_false]
    exact ⟨s[k], mem_at s k h, by simp [hb]⟩
  rw [this]; simp
theorem numOK_end {s : ByteArray} (h1 : 1 ≤ s.size) (h2 : s.size ≤ 7) (h3 : ¬ (1 < s.size ∧ (s[0]).toNat = 48)) (h4 : ∀ b ∈ s.data.toList, isDig b = true) : numOK s = decide (numL s.data.toList ≤ 1000000) := by
  unfold numOK
  rw [List.all_eq_true.2 h4, head_at s (by omega)]
  have e : (decide (1 < s.size) && decide (some s[0] = some (48 : UInt8))) = false := by
    rw [Bool.and_eq_false_iff]
    by_cases h : 1 < s.size
    · right
      rw [decide_eq_false_iff_not]
      intro e
      exact h3 ⟨h, by rw [Option.some.inj e]; rfl⟩
    · left; simpa using h
  rw [e]
  simp [h1, h2]

theorem nameOK_short {s : ByteArray} (h : ¬ (1 ≤ s.size ∧ s.size ≤ 12)) : nameOK s = false := by unfold nameOK; simp [h]
theorem nameOK_minus {s : ByteArray} (h : s.data.toList = [45]) : nameOK s = false := by unfold nameOK; simp [h]
theorem nameOK_bad {s : ByteArray} (k : Nat) (h : k < s.size) (hb : nameB s[k] = false) : nameOK s = false := by
  unfold nameOK
  have : s.data.toList.all nameB = false := by
    rw [List.all_eq_false]
    exact ⟨s[k], mem_at s k h, by simp [hb]⟩
  rw [this]; simp
theorem nameOK_end {s : ByteArray} (h1 : 1 ≤ s.size) (h2 : s.size ≤ 12) (h3 : ¬ s.data.toList = [45]) (h4 : ∀ b ∈ s.data.toList, nameB b = true) : nameOK s = true := by
  unfold nameOK
  rw [List.all_eq_true.2 h4]
  simp [h1, h2, h3]

/-- Lines and words. -/
def lineB (b : UInt8) : Bool := decide (32 ≤ b.toNat ∧ b.toNat ≤ 126)
def lineOK (p : ByteArray) : Bool := decide (p.size ≤ 200) && p.data.toList.all lineB
def cutH (l : List UInt8) : List UInt8 := l.takeWhile fun b => decide (b.toNat ≠ 35)
def wordsOf (p : ByteArray) : List ByteArray := (partsV (mkS (cutH p.data.toList)) 32).filter fun s => decide (s.size ≠ 0)
def linesOf (i : Nat) : List ByteArray → List (Int × List ByteArray)
  | [] => []
  | p :: r => (if wordsOf p = [] then [] else [(((i + 1 : Nat) : Int), wordsOf p)]) ++ linesOf (i + 1) r
def splitV (s : ByteArray) : List (Int × List ByteArray) × Int × Int :=
  if 4000 < s.size then ([], 0, 2) else match (partsV s 10).findIdx? (fun p => !lineOK p) with
    | some i => ([], ((i + 1 : Nat) : Int), 2)
    | none => (linesOf 0 (partsV s 10), 0, 0)

theorem lineOK_long {p : ByteArray} (h : 200 < p.size) : lineOK p = false := by unfold lineOK; rw [decide_eq_false (by omega)]; rfl
theorem lineOK_bad {p : ByteArray} (k : Nat) (h : k < p.size) (hb : lineB p[k] = false) : lineOK p = false := by
  unfold lineOK
  have : p.data.toList.all lineB = false := by
    rw [List.all_eq_false]
    exact ⟨p[k], mem_at p k h, by simp [hb]⟩
  rw [this]; simp
theorem lineOK_end {p : ByteArray} (h1 : p.size ≤ 200) (h4 : ∀ b ∈ p.data.toList, lineB b = true) : lineOK p = true := by
  unfold lineOK
  rw [List.all_eq_true.2 h4]
  simp [h1]
theorem cutH_all {l : List UInt8} (h : ∀ b ∈ l, b.toNat ≠ 35) : cutH l = l := by
  unfold cutH
  induction l with
  | nil => rfl
  | cons b r ih =>
    have hb := h b (by simp)
    rw [List.takeWhile_cons]
    simp only [hb, ne_eq, not_false_eq_true, decide_true, if_true]
    rw [ih (fun x hx => h x (by simp [hx]))]
theorem cutH_hit {s : ByteArray} {k : Nat} (hk : k < s.size) (h : ∀ b ∈ upto s k, b.toNat ≠ 35) (hb : (s[k]).toNat = 35) : s.extract 0 k = mkS (cutH s.data.toList) := by
  rw [extract_cut]
  congr 1
  unfold cutL cutH
  have hl : k < s.data.toList.length := hk
  have e : s.data.toList = s.data.toList.take k ++ s[k] :: s.data.toList.drop (k + 1) := by
    have e2 : s[k] = s.data.toList[k] := rfl
    rw [e2, ← List.drop_eq_getElem_cons hl, List.take_append_drop]
  rw [List.drop_zero, Nat.sub_zero]
  conv => rhs; rw [e]
  rw [List.takeWhile_append_of_pos (by intro a ha; simpa using h a ha), List.takeWhile_cons]
  simp [hb]
theorem mkS_data' (l : List UInt8) : (mkS l).size = l.length := rfl
theorem mkS_data (s : ByteArray) : mkS s.data.toList = s := by unfold mkS; simp

theorem linesOf_append (i : Nat) (a b : List ByteArray) : linesOf i (a ++ b) = linesOf i a ++ linesOf (i + a.length) b := by
  induction a generalizing i with
  | nil => simp [linesOf]
  | cons p r ih =>
    simp only [List.cons_append, linesOf, List.length_cons]
    rw [ih, List.append_assoc, show i + 1 + r.length = i + (r.length + 1) by omega]
theorem linesOf_next (P : List ByteArray) (i : Nat) (h : i < P.length) : linesOf 0 (P.take (i + 1)) = linesOf 0 (P.take i) ++ (if wordsOf (P.getD i ByteArray.empty) = [] then [] else [(((i + 1 : Nat) : Int), wordsOf (P.getD i ByteArray.empty))]) := by
  rw [List.take_succ_eq_append_getElem h, linesOf_append]
  have e : 0 + (P.take i).length = i := by rw [List.length_take]; omega
  have e2 : P.getD i ByteArray.empty = P[i] := by simp [h]
  rw [e, e2]
  simp [linesOf]
theorem linesOf_length (i : Nat) (P : List ByteArray) : (linesOf i P).length ≤ P.length := by
  induction P generalizing i with
  | nil => simp [linesOf]
  | cons p r ih =>
    simp only [linesOf, List.length_append, List.length_cons]
    have := ih (i + 1)
    split
    · simp; omega
    · simp; omega

theorem split_bad {s : ByteArray} (hs : ¬ 4000 < s.size) (i : Nat) (h : i < (partsV s 10).length) (hp : ∀ j, j < i → lineOK ((partsV s 10).getD j ByteArray.empty) = true) (hb : lineOK ((partsV s 10).getD i ByteArray.empty) = false) : splitV s = ([], ((i + 1 : Nat) : Int), 2) := by
  unfold splitV
  rw [if_neg hs]
  generalize partsV s 10 = P at *
  have : P.findIdx? (fun p => !lineOK p) = some i := by
    rw [List.findIdx?_eq_some_iff_getElem]
    refine ⟨h, ?_, fun j hj => ?_⟩
    · have e : P.getD i ByteArray.empty = P[i] := by simp [h]
      rw [← e, hb]; rfl
    · have hj2 : j < P.length := by omega
      have e : P.getD j ByteArray.empty = P[j] := by simp [hj2]
      rw [← e, hp j hj]; simp
  rw [this]
theorem split_good {s : ByteArray} (hs : ¬ 4000 < s.size) (hp : ∀ j, j < (partsV s 10).length → lineOK ((partsV s 10).getD j ByteArray.empty) = true) : splitV s = (linesOf 0 (partsV s 10), 0, 0) := by
  unfold splitV
  rw [if_neg hs]
  generalize partsV s 10 = P at *
  have : P.findIdx? (fun p => !lineOK p) = none := by
    rw [List.findIdx?_eq_none_iff]
    intro x hx
    obtain ⟨j, hj, rfl⟩ := List.getElem_of_mem hx
    have e : P.getD j ByteArray.empty = P[j] := by simp [hj]
    rw [← e, hp j hj]; rfl
  rw [this]

end Go.Proofs.YtomhmndpjkfppaaDoor

/-
  The plain mathematics of chapter 6: configurations, their table, what may be, their texts, and how one is read. No program stands in it.
-/
namespace Go.Proofs.YtomhmndpjkfppaaDoor

/-- A configuration. -/
structure Cfg where
  f0 : Int
  f1 : Int
  f2 : Int
  f3 : Int
  f4 : Int
  f5 : Int
  f6 : Int
  f7 : Int
  f8 : Int
  f9 : Int
  f10 : Int
  f11 : Int
  f12 : Int
  f13 : Int
  f14 : Int
  one : Bool
  f16 : Int
  f17 : Int
  f18 : Int
  f19 : Int
  f20 : Int
  zone : ByteArray
  fb : Bool
deriving DecidableEq

def bitV (b : Bool) : Int := if b then 1 else 0
/-- Its fields as numbers, in the table's order. -/
def Cfg.nums (c : Cfg) : List Int := [c.f0, c.f1, c.f2, c.f3, c.f4, c.f5, c.f6, c.f7, c.f8, c.f9, c.f10, c.f11, c.f12, c.f13, c.f14, bitV c.one, c.f16, c.f17, c.f18, c.f19, c.f20, 0, bitV c.fb]
def ofNums (n : List Int) (z : ByteArray) : Cfg := { f0 := n.getD 0 0, f1 := n.getD 1 0, f2 := n.getD 2 0, f3 := n.getD 3 0, f4 := n.getD 4 0, f5 := n.getD 5 0, f6 := n.getD 6 0, f7 := n.getD 7 0, f8 := n.getD 8 0, f9 := n.getD 9 0, f10 := n.getD 10 0, f11 := n.getD 11 0, f12 := n.getD 12 0, f13 := n.getD 13 0, f14 := n.getD 14 0, one := n.getD 15 0 == 1, f16 := n.getD 16 0, f17 := n.getD 17 0, f18 := n.getD 18 0, f19 := n.getD 19 0, f20 := n.getD 20 0, zone := z, fb := n.getD 22 0 == 1 }

/-- The table: a name, the least, the greatest, by itself. -/
def tabC : List (List UInt8 × Int × Int × Int) := [
  ([105, 110, 116, 101, 114, 118, 97, 108], 10, 10000, 100),
  ([116, 105, 109, 101, 111, 117, 116], 1, 10000, 20),
  ([106, 105, 116, 116, 101, 114], 0, 1000, 0),
  ([114, 105, 115, 101], 1, 10, 2),
  ([102, 97, 108, 108], 1, 10, 3),
  ([112, 97, 110, 105, 99], 0, 100, 50),
  ([111, 118, 101, 114], 100, 1000, 140),
  ([101, 114, 114, 111, 114, 115], 0, 100, 5),
  ([115, 119, 101, 101, 112], 10, 10000, 1000),
  ([104, 111, 115, 116, 115], 1, 64, 5),
  ([114, 101, 113, 117, 101, 115, 116, 115], 1, 1000, 100),
  ([102, 97, 99, 116, 111, 114], 0, 10000, 1900),
  ([102, 97, 105, 108, 115], 0, 100, 0),
  ([98, 97, 115, 101], 1, 10000, 3000),
  ([101, 106, 101, 99, 116], 0, 100, 10),
  ([111, 110, 101], 0, 1, 1),
  ([115, 108, 111, 119], 0, 10000, 0),
  ([100, 114, 97, 105, 110], 1, 10000, 5000),
  ([104, 111, 115, 116, 108, 105, 109, 105, 116], 1, 1000, 1000),
  ([112, 111, 111, 108, 108, 105, 109, 105, 116], 1, 10000, 10000),
  ([112, 111, 108, 105, 99, 121], 1, 3, 1),
  ([122, 111, 110, 101], 0, 0, 0),
  ([102, 97, 108, 108, 98, 97, 99, 107], 0, 1, 0)]
def rowC (i : Nat) : List UInt8 × Int × Int × Int := tabC.getD i ([], 0, 0, 0)
def nameC (i : Nat) : ByteArray := mkS (rowC i).1
def lowC (i : Nat) : Int := (rowC i).2.1
def highC (i : Nat) : Int := (rowC i).2.2.1
def selfC (i : Nat) : Int := (rowC i).2.2.2
def defNums : List Int := tabC.map (·.2.2.2)
def defC : Cfg := ofNums defNums ByteArray.empty
theorem defC_nums : defC.nums = defNums := by decide

theorem nums_length (c : Cfg) : c.nums.length = 23 := rfl
theorem tabC_length : tabC.length = 23 := rfl

/-- May it be? -/
def fitsC (n : List Int) (i : Nat) : Bool := decide (lowC i ≤ n.getD i 0 ∧ n.getD i 0 ≤ highC i)
def mayC (c : Cfg) : Bool := (List.range 23).all (fitsC c.nums) && (decide (c.zone.size = 0) || nameOK c.zone)

/-- A number's digits. -/
def digC (n : Int) : ByteArray := mkS (Go.Lib.itoa n)
/-- The words of the table. -/
def polW : List ByteArray := [mkS [114, 111, 117, 110, 100], mkS [108, 101, 97, 115, 116], mkS [114, 105, 110, 103]]
def yesW : List ByteArray := [mkS [110, 111], mkS [121, 101, 115]]
/-- What stands behind a name. -/
def valW (n : List Int) (z : ByteArray) (i : Nat) : ByteArray :=
  if i = 21 then (if z.size = 0 then mkS [45] else z) else if i = 20 then polW.getD (n.getD 20 0 - 1).toNat ByteArray.empty
  else if i = 15 ∨ i = 22 then yesW.getD (n.getD i 0).toNat ByteArray.empty else digC (n.getD i 0)
def lineC (n : List Int) (z : ByteArray) (i : Nat) : List UInt8 := (nameC i).data.toList ++ 32 :: (valW n z i).data.toList
def textC (c : Cfg) : List UInt8 := if mayC c then (List.range 23).flatMap (fun i => lineC c.nums c.zone i ++ [10]) else []

/-- A word's place in a row, from 1 on; 0: none. -/
def placeW (s : ByteArray) (l : List ByteArray) : Nat := match l.findIdx? (· == s) with | some i => i + 1 | none => 0
/-- A name's place in the table. -/
def findC (s : ByteArray) : Option Nat := (List.range 23).find? fun i => nameC i == s
/-- What is read behind the name i: the number, and the zone. -/
def readC (i : Nat) (w : ByteArray) : Option (Int × ByteArray) :=
  if i = 21 then (if w = mkS [45] then some (0, ByteArray.empty) else if nameOK w then some (0, w) else none)
  else if i = 20 then (if placeW w polW = 0 then none else some ((placeW w polW : Int), ByteArray.empty))
  else if i = 15 ∨ i = 22 then (if placeW w yesW = 0 then none else some ((placeW w yesW : Int) - 1, ByteArray.empty))
  else (if numOK w && decide (lowC i ≤ numV w ∧ numV w ≤ highC i) then some (numV w, ByteArray.empty) else none)

/-- How far it is read: the numbers, the zone, which names stood. -/
structure Read where
  n : List Int
  z : ByteArray
  seen : List Bool
def read0 : Read := ⟨defNums, ByteArray.empty, List.replicate 30 false⟩
def stepC (r : Read) (ws : List ByteArray) : Option Read := match ws with
  | [a, b] => match findC a with
    | none => none
    | some i => if r.seen.getD i false then none else match readC i b with
      | none => none
      | some (k, z) => some ⟨r.n.set i k, if i = 21 then z else r.z, r.seen.set i true⟩
  | _ => none
/-- The lines, one by one: what is read, or the number of the first wrong one. -/
def runC (r : Read) : List (Int × List ByteArray) → Read ⊕ Int
  | [] => .inl r
  | l :: L => match stepC r l.2 with
    | none => .inr l.1
    | some r' => runC r' L
def zeroC : Cfg := ofNums [] ByteArray.empty
def parseV (s : ByteArray) : Cfg × Int × Int :=
  if (splitV s).2.2 = 0 then match runC read0 (splitV s).1 with
    | .inl r => (ofNums r.n r.z, 0, 0)
    | .inr no => (zeroC, no, 2)
  else (zeroC, (splitV s).2.1, (splitV s).2.2)

end Go.Proofs.YtomhmndpjkfppaaDoor

/-
  Lemmas of our own that no program stands in: how a slice of numbers lies in memory, what is owned, a region that draws its order over worlds that are alike below a block.
-/
namespace Go.Proofs.YtomhmndpjkfppaaDoor
open Go.RowKit Go.ChangeShapes

theorem ret_int {k : IntKind} {a b : Int} (h : a = b) : Ending.returned (.int k a) = .returned (.int k b) := by rw [h]

theorem ret_ib {k : IntKind} {a b : Int} (h : a = b) (c : Bool) : Ending.returned (.tuple #[.int k a, .bool c]) = .returned (.tuple #[.int k b, .bool c]) := by rw [h]
theorem bcell {W w1 : World} (hb : Below W.heap.size W w1) : (∀ b o, b < W.heap.size → w1.cell? ⟨b, o, none⟩ = W.cell? ⟨b, o, none⟩) ∧ (∀ b o, b < W.heap.size → w1.frozen? ⟨b, o, none⟩ = W.frozen? ⟨b, o, none⟩) :=
  ⟨fun b o h => hb.cell (p := ⟨b, o, none⟩) h, fun b o h => hb.frozen (p := ⟨b, o, none⟩) h⟩

theorem ret_tup (a b : Int) (c d : Bool) (h : a = b) (h2 : c = d) : Ending.returned (.tuple #[.int .i64 a, .bool c]) = .returned (.tuple #[.int .i64 b, .bool d]) := by rw [h, h2]

/-- A slice value that holds the numbers zs. -/
def IsInts (w : World) (v : Value) (zs : List Int) : Prop :=
  (∀ n ∈ zs, -9223372036854775808 ≤ n ∧ n ≤ 9223372036854775807) ∧ zs.length ≤ 9223372036854775807 ∧
  ((zs = [] ∧ ∃ ao cap, v = .slice ao 0 cap ∧ (ao = none → cap = 0)) ∨ (zs ≠ [] ∧ ∃ b off cap, v = .slice (some ⟨b, off, none⟩) zs.length cap ∧ b < w.heap.size ∧ ∀ i, i < zs.length → w.cell? ⟨b, off + i, none⟩ = some (.int .i64 (zs.getD i 0))))

theorem IsInts.below {w w' : World} {v : Value} {zs : List Int} (h : IsInts w v zs) (hb : Below w.heap.size w w') : IsInts w' v zs := by
  obtain ⟨h1, h2, h3⟩ := h
  refine ⟨h1, h2, ?_⟩
  rcases h3 with h3 | ⟨h3, b, off, cap, rfl, hlt, hc⟩
  · exact .inl h3
  · exact .inr ⟨h3, b, off, cap, rfl, Nat.lt_of_lt_of_le hlt hb.size, fun i hi => (hb.cell (p := ⟨b, off + i, none⟩) hlt).trans (hc i hi)⟩

theorem getD_bd {zs : List Int} (h : ∀ n ∈ zs, -9223372036854775808 ≤ n ∧ n ≤ 9223372036854775807) (k : Nat) (hk : k < zs.length) : -9223372036854775808 ≤ zs.getD k 0 ∧ zs.getD k 0 ≤ 9223372036854775807 := by
  rw [getD_get _ _ hk]
  exact h _ (List.getElem_mem hk)

theorem ret_bool {a b : Bool} (h : a = b) : Ending.returned (.bool a) = .returned (.bool b) := by rw [h]

/-- Block B, not frozen, holds the n numbers f 0, f 1, .. -/
def Own (w : World) (B n : Nat) (f : Nat → Int) : Prop :=
  B < w.heap.size ∧ (∀ i, i < n → w.cell? ⟨B, i, none⟩ = some (.int .i64 (f i))) ∧ ∀ i, w.frozen? ⟨B, i, none⟩ = false

theorem Own.congr {w : World} {B n : Nat} {f g : Nat → Int} (h : Own w B n f) (e : ∀ i, i < n → f i = g i) : Own w B n g :=
  ⟨h.1, fun i hi => by rw [h.2.1 i hi, e i hi], h.2.2⟩

theorem Own.set {w : World} {B n : Nat} {f : Nat → Int} (h : Own w B n f) (k : Nat) (hk : k < n) (x : Int) :
    Own (w.setCell ⟨B, k, none⟩ (.int .i64 x)) B n (fun i => if i = k then x else f i) := by
  refine ⟨by simpa [World.setCell] using h.1, fun i hi => ?_, fun i => ?_⟩
  · by_cases e : i = k
    · subst e
      show _ = some (Value.int .i64 (if i = i then x else f i))
      rw [if_pos rfl]
      exact World.cell?_setCell_same _ _ _ (h.2.1 i hi)
    · show _ = some (Value.int .i64 (if i = k then x else f i))
      rw [if_neg e, World.cell?_setCell_other _ _ _ _ (fun h => e (congrArg Addr.off h).symm)]
      exact h.2.1 i hi
  · simp [h.2.2 i]

theorem Own.below {w w' : World} {B n : Nat} {f : Nat → Int} (h : Own w B n f) (hb : Below w.heap.size w w') : Own w' B n f :=
  ⟨Nat.lt_of_lt_of_le h.1 hb.size, fun i hi => (hb.cell (p := ⟨B, i, none⟩) h.1).trans (h.2.1 i hi), fun i => (hb.frozen (p := ⟨B, i, none⟩) h.1).trans (h.2.2 i)⟩

theorem Own.isInts {w : World} {B n : Nat} {f : Nat → Int} (h : Own w B n f) (h0 : 0 < n) (hn : n ≤ 1000000) (hf : ∀ i, i < n → 0 ≤ f i ∧ f i ≤ 1000001) :
    IsInts w (.slice (some ⟨B, 0, none⟩) n n) ((List.range n).map f) := by
  refine ⟨?_, by simp; omega, .inr ⟨?_, B, 0, n, by simp, h.1, ?_⟩⟩
  · intro x hx
    simp only [List.mem_map, List.mem_range] at hx
    obtain ⟨i, hi, rfl⟩ := hx
    have := hf i hi
    omega
  · intro e
    have := congrArg List.length e
    simp at this
    omega
  · intro i hi
    have hi' : i < n := by simpa using hi
    rw [Nat.zero_add, h.2.1 i hi']
    simp [hi']

theorem Own.made {w' : World} {base e n : Nat} {B : Nat} (h : w'.ownsRow base e 1 (.slice (some ⟨B, 0, none⟩) n n) n (madeCells #[Value.int IntKind.i64 0] n).toList) (hB : B < w'.heap.size) :
    Own w' B n (fun _ => 0) := by
  refine ⟨hB, fun i hi => ?_, fun i => h.frozenAt i⟩
  rw [h.cellAt i (by omega), toList_madeCells_one]
  simp [hi]

/-- A slice that the call has just laid down. -/
theorem IsInts.fresh (w : World) (zs : List Int) (t cap : Nat) (h : ∀ n ∈ zs, -9223372036854775808 ≤ n ∧ n ≤ 9223372036854775807) (hl : zs.length ≤ 9223372036854775807) (hne : zs ≠ []) :
    IsInts (w.alloc (.cells (zs.map (Value.int .i64)).toArray t)) (.slice (some ⟨w.heap.size, 0, none⟩) zs.length cap) zs := by
  refine ⟨h, hl, .inr ⟨hne, w.heap.size, 0, cap, rfl, by simp, fun i hi => ?_⟩⟩
  rw [Nat.zero_add, World.cell?_alloc_at _ _ _ _ rfl]
  simp [hi]

theorem wf_i64 {n : Int} (h : (Lit.int .i64 n).wf = true) : -9223372036854775808 ≤ n ∧ n ≤ 9223372036854775807 := bounds_i64 h

theorem isInts_nil (w : World) : IsInts w (.slice none 0 0) [] := ⟨by simp, by simp, .inl ⟨rfl, _, _, rfl, fun _ => rfl⟩⟩

theorem isInts_row {w : World} {x : Addr} {len cap : Nat} {zs : List Int} (hl : len ≤ cap) (hm : cap ≤ maxLen) (hz : zs.length = cap)
    (hcell : ∀ i, i < zs.length → w.cell? (x.add i) = some (.int .i64 (zs.getD i 0))) (hwz : ∀ n ∈ zs, (Lit.int .i64 n).wf = true) : IsInts w (.slice (some x) len cap) (zs.take len) := by
  have e : (zs.take len).length = len := by simp; omega
  unfold maxLen at hm
  refine ⟨fun n hn => wf_i64 (hwz n (List.mem_of_mem_take hn)), by omega, ?_⟩
  by_cases h0 : len = 0
  · subst h0
    exact .inl ⟨by simp, _, _, rfl, fun h => by cases h⟩
  · obtain ⟨b, off, spot⟩ := x
    have hc := hcell 0 (by omega)
    have hspot : spot = none := by simpa [Addr.add] using World.cell?_spot hc
    subst hspot
    refine .inr ⟨fun h => by rw [h] at e; simp at e; omega, b, off, cap, by rw [e], ?_, fun i hi => ?_⟩
    · have hc0 : w.cell? ⟨b, off, none⟩ = some (.int .i64 (zs.getD 0 0)) := by simpa [Addr.add] using hc
      exact World.block_lt_of_cell? _ _ hc0
    · have h1 := hcell i (by omega)
      have h2 : (zs.take len).getD i 0 = zs.getD i 0 := by
        rw [getD_get _ _ hi, getD_get _ _ (by omega)]; simp
      rw [h2, ← h1]
      by_cases e0 : i = 0
      · subst e0; simp [Addr.add]
      · simp [Addr.add, e0]

/-- A world that is as w0 was below block B. -/
structure WB (B : Nat) (w0 : World) where
  w : World
  h : Below B w0 w

/-- A region that draws its order, and whose operations yield one value each in whatever world that is as w0 was below block B: one walk, in the order of the text. -/
theorem wp_region_below {P : Program} {id : Nat} {Q : Exit → Act → World → Prop} {a : Act} {w : World} {l : List Oper} (B : Nat) (w0 : World) (hm : P.follows .mixedOrders = true) (hB : Region.lexB .any l.toArray = true)
    (hb : Below B w0 w) (h : wpQuiet P l.toArray (fun w' => ∃ s : WB B w0, w' = s.w) (fun a' => ∀ w', (∃ s : WB B w0, w' = s.w) → Q .normal a' w') l a) : (Code.region id l.toArray true).wp P Q a w :=
  wp_region_quiet (C := fun w' => ∃ s : WB B w0, w' = s.w) hm hB ⟨⟨_, hb.drew⟩, rfl⟩ (by simpa using h)

/-- A callee that makes memory and turns none. -/
theorem calls_below {P : Program} {f : FuncId} {args : Array Value} {B : Nat} {w0 : World} {s : WB B w0} {v : Value} (hB : B ≤ w0.heap.size)
    (h : Calls P f args s.w fun e w' => e = .returned v ∧ Below s.w.heap.size s.w w') : Calls P f args s.w fun e w'' => e = .returned v ∧ ∃ s' : WB B w0, w'' = s'.w :=
  h.mono fun _ _ ⟨he, hb⟩ => ⟨he, ⟨_, s.h.trans (hb.mono (Nat.le_trans hB s.h.size))⟩, rfl⟩
/-- A callee that leaves the world as it is. -/
theorem calls_same {P : Program} {f : FuncId} {args : Array Value} {B : Nat} {w0 : World} {s : WB B w0} {v : Value}
    (h : Calls P f args s.w fun e w' => e = .returned v ∧ w' = s.w) : Calls P f args s.w fun e w'' => e = .returned v ∧ ∃ s' : WB B w0, w'' = s'.w :=
  h.mono fun _ _ ⟨he, hb⟩ => ⟨he, s, hb⟩

theorem IsInts.shape {w : World} {v : Value} {zs : List Int} (h : IsInts w v zs) : ∃ ao cap, v = .slice ao zs.length cap := by
  rcases h.2.2 with ⟨rfl, ao, cap, rfl, _⟩ | ⟨_, b, off, cap, rfl, _⟩
  · exact ⟨ao, cap, rfl⟩
  · exact ⟨_, cap, rfl⟩

/-- What the call owns, as a slice of numbers. -/
theorem isInts_own {w : World} {base e n : Nat} {v : Value} {zs : List Int} (h : w.ownsRow base e 1 v n (zs.map (Value.int .i64))) (hn : n = zs.length) (hl : zs.length ≤ 9223372036854775807)
    (hz : ∀ x ∈ zs, -9223372036854775808 ≤ x ∧ x ≤ 9223372036854775807) : IsInts w v zs := by
  subst hn
  refine ⟨hz, hl, ?_⟩
  have ho := h
  rcases h.2 with ⟨rfl, h0⟩ | ⟨g, cap, cur, rfl, _, hg, _⟩
  · exact .inl ⟨List.eq_nil_of_length_eq_zero h0, _, _, rfl, fun _ => rfl⟩
  · by_cases e0 : zs = []
    · subst e0
      exact .inl ⟨rfl, _, _, rfl, fun h => by cases h⟩
    · refine .inr ⟨e0, g, 0, cap, rfl, (Array.getElem?_eq_some_iff.1 hg).1, fun i hi => ?_⟩
      rw [Nat.zero_add, ho.cellAt i (by omega)]
      simp [hi]

/-- 'T[]{}', laid down by the call. -/
theorem own_lit0 (w : World) (e : TypeId) : (w.alloc (.cells #[] e)).ownsRow w.heap.size e 1 (.slice (some ⟨w.heap.size, 0, none⟩) 0 0) 0 [] :=
  ⟨rfl, .inr ⟨w.heap.size, 0, #[], rfl, Nat.le_refl _, by show (w.heap.push _)[w.heap.size]? = _; simp, Nat.le_refl _, by decide, rfl, rfl⟩⟩

theorem own_base {w : World} {base e size n : Nat} {v : Value} {xs : List Value} (h : w.ownsRow base e size v n xs) : ∀ k, v.ownBlock = some k → base ≤ k := by
  intro k hk
  rcases h.2 with ⟨rfl, _⟩ | ⟨g, cap, cur, rfl, hb, _⟩
  · simp [Value.ownBlock] at hk
  · simp [Value.ownBlock] at hk; omega

/-- 'append(s, x...)' onto what the call owns, x a slice of numbers, nil or empty or not. -/
theorem wpList_append_ints {P : Program} {w : World} {ops : Array Oper} {rest : List Oper} {o : Oper} {a : Act} {Q : Exit → Act → World → Prop} (hgd : o.guard = none) (s x : Operand) (t : TypeId)
    (ho : o.op = .call { callee := .builtin .append, args := #[s, x], argTypes := #[t, t] })
    (base : Nat) (e : TypeId) (i : TypeInfo) (ht : P.underlying t = some (.slice e)) (hi : P.info? e = some i) (hz : i.zero = some (.int .i64 0)) (hsize : i.size = 1) (hby : i.bytes = 8)
    (v : Value) (ys : List Int) (hs : a.eval s = v) (hown : w.ownsRow base e 1 v ys.length (ys.map (Value.int .i64)))
    (X : Value) (zs : List Int) (hx : a.eval x = X) (hX : IsInts w X zs) (hb : (ys.length + zs.length) * 8 ≤ 140737488355328) (hbase : base ≤ w.heap.size)
    (h : ∀ v' w', w'.ownsRow base e 1 v' (ys ++ zs).length ((ys ++ zs).map (Value.int .i64)) → w.grownBy w' v.ownBlock → wpList P ops Q rest (a.put o.dst v') w') : wpList P ops Q (o :: rest) a w := by
  rcases hX.2.2 with ⟨rfl, ao, cap, rfl, hn⟩ | ⟨_, b, off, cap, rfl, _, hc⟩
  · cases ao with
    | none =>
      have := hn rfl
      subst this
      exact wpList_append_own_none hgd s x t ho base e i 1 ht hi v ys.length _ hs hown hx (h v w (by simpa using hown) ⟨rfl, rfl, rfl, Nat.le_refl _, fun _ _ _ => rfl⟩)
    | some ad =>
      refine wpList_append_own w hgd s x t ho base e i _ 1 8 ht hi hz hsize hby rfl (by decide) v ys.length _ hs hown ad 0 cap [] hx rfl (by simp) (by simp) (by unfold maxLen; omega) (by simpa using hb) hbase ?_
      intro v' w' h1 h2 _
      exact h v' w' (by simpa using h1) h2
  · refine wpList_append_own w hgd s x t ho base e i _ 1 8 ht hi hz hsize hby rfl (by decide) v ys.length _ hs hown ⟨b, off, none⟩ zs.length cap (zs.map (Value.int .i64)) hx (by simp) ?_ ?_ (by unfold maxLen; omega) hb hbase ?_
    · intro j u hu
      rw [List.getElem?_map] at hu
      cases hj : zs[j]? with
      | none => rw [hj] at hu; simp at hu
      | some y =>
        rw [hj] at hu
        simp at hu
        subst hu
        obtain ⟨hlt, he⟩ := List.getElem?_eq_some_iff.1 hj
        have h1 := hc j hlt
        rw [getD_get _ _ hlt, he] at h1
        by_cases e0 : j = 0
        · subst e0; simpa [Addr.add] using h1
        · simpa [Addr.add, e0] using h1
    · intro u hu
      simp at hu
      obtain ⟨y, _, rfl⟩ := hu
      rfl
    · intro v' w' h1 h2 _
      exact h v' w' (by simpa using h1) h2

end Go.Proofs.YtomhmndpjkfppaaDoor

/-
  How a slice of flat elements (sz cells each) lies in memory; append onto what the call owns. No program stands in it.
-/
namespace Go.Proofs.YtomhmndpjkfppaaDoor
open Go.RowKit Go.ChangeShapes

/-- A slice's length is within its room. -/
def roomy : Value → Prop
  | .slice _ n cap => n ≤ cap ∧ cap ≤ maxLen
  | _ => True

/-- A slice value of n elements of sz cells each, the cells cs. -/
def IsRow (sz : Nat) (w : World) (v : Value) (n : Nat) (cs : List Value) : Prop :=
  cs.length = n * sz ∧ (n ≤ maxLen ∧ roomy v) ∧
  ((n = 0 ∧ ∃ ao cap, v = .slice ao 0 cap ∧ (ao = none → cap = 0)) ∨ (0 < n ∧ ∃ b off cap, v = .slice (some ⟨b, off, none⟩) n cap ∧ b < w.heap.size ∧ ∀ j, j < n * sz → w.cell? ⟨b, off + j, none⟩ = cs[j]?))

theorem IsRow.below {sz n : Nat} {w w' : World} {v : Value} {cs : List Value} (h : IsRow sz w v n cs) (hb : Below w.heap.size w w') : IsRow sz w' v n cs := by
  obtain ⟨h1, h2, h3⟩ := h
  refine ⟨h1, h2, ?_⟩
  rcases h3 with h3 | ⟨h3, b, off, cap, rfl, hlt, hc⟩
  · exact .inl h3
  · exact .inr ⟨h3, b, off, cap, rfl, Nat.lt_of_lt_of_le hlt hb.size, fun j hj => (hb.cell (p := ⟨b, off + j, none⟩) hlt).trans (hc j hj)⟩

/-- What the call owns. -/
theorem isRow_own {w : World} {base e sz n : Nat} {v : Value} {cs : List Value} (h : w.ownsRow base e sz v n cs) : IsRow sz w v n cs := by
  have ho := h
  obtain ⟨hl, h⟩ := h
  rcases h with ⟨rfl, rfl⟩ | ⟨g, cap, cur, rfl, _, hg, hn, hm, _⟩
  · exact ⟨hl, ⟨by unfold maxLen; omega, by unfold roomy maxLen; omega⟩, .inl ⟨rfl, _, _, rfl, fun _ => rfl⟩⟩
  · refine ⟨hl, ⟨Nat.le_trans hn hm, hn, hm⟩, ?_⟩
    by_cases e0 : n = 0
    · subst e0
      exact .inl ⟨rfl, _, _, rfl, fun h => by cases h⟩
    · exact .inr ⟨by omega, g, 0, cap, rfl, (Array.getElem?_eq_some_iff.1 hg).1, fun j hj => by rw [Nat.zero_add]; exact ho.cellAt j hj⟩

/-- A slice that the call has just laid down. -/
theorem IsRow.fresh (w : World) (cs : List Value) (sz n t cap : Nat) (hl : cs.length = n * sz) (hn : n ≤ cap) (hm : cap ≤ maxLen) (h0 : 0 < n) :
    IsRow sz (w.alloc (.cells cs.toArray t)) (.slice (some ⟨w.heap.size, 0, none⟩) n cap) n cs := by
  refine ⟨hl, ⟨Nat.le_trans hn hm, hn, hm⟩, .inr ⟨h0, w.heap.size, 0, cap, rfl, by simp, fun j hj => ?_⟩⟩
  rw [Nat.zero_add, World.cell?_alloc_at _ _ _ _ rfl]
  simp

/-- 'append(s, x...)' onto what the call owns, x a slice of flat elements, nil or empty or not: the run. -/
theorem run_append_row {P : Program} {w : World} (base : Nat) (t ty e : TypeId) (i : TypeInfo) (z : Value) (sz bytes : Nat) (ht : P.underlying t = some (.slice e)) (hi : P.info? e = some i) (hz : i.zero = some z)
    (hsize : i.size = sz) (hby : i.bytes = bytes) (hzs : z.cells.size = sz) (hsz : 0 < sz)
    (v : Value) (n : Nat) (xs : List Value) (hown : w.ownsRow base e sz v n xs)
    (X : Value) (m : Nat) (cs : List Value) (hX : IsRow sz w X m cs) (h1 : ∀ u ∈ cs, u.oneCell' = true) (h63 : n + m ≤ maxLen) (hbytes : (n + m) * bytes ≤ 140737488355328) (hbase : base ≤ w.heap.size) :
    ∃ v' w', (Builtin.append_ #[t, t] ty #[v, X]).run P w = .ok v' w' ∧ w'.ownsRow base e sz v' (n + m) (xs ++ cs) ∧ w.grownBy w' v.ownBlock ∧ (v'.ownBlock = v.ownBlock ∨ v'.ownBlock = some w.heap.size) := by
  obtain ⟨hl, hm, hX⟩ := hX
  rcases hX with ⟨rfl, ao, cap, rfl, hn⟩ | ⟨hpos, b, off, cap, rfl, _, hc⟩
  · obtain rfl : cs = [] := List.eq_nil_of_length_eq_zero (by omega)
    cases ao with
    | none =>
      have := hn rfl
      subst this
      exact ⟨v, w, run_append_owned_none w base t ty e i sz ht hi v n _ hown, by simpa using hown, ⟨rfl, rfl, rfl, Nat.le_refl _, fun _ _ _ => rfl⟩, .inl rfl⟩
    | some ad =>
      obtain ⟨v', w', hr, h2, h3, _, h5⟩ := run_append_own_at (P := P) w base t ty e i z sz bytes ht hi hz hsize hby hzs hsz v n _ hown ad 0 cap [] (by simp) (by simp) (by simp) h63 hbytes hbase
      exact ⟨v', w', hr, h2, h3, h5⟩
  · obtain ⟨v', w', hr, h2, h3, _, h5⟩ := run_append_own_at (P := P) w base t ty e i z sz bytes ht hi hz hsize hby hzs hsz v n _ hown ⟨b, off, none⟩ m cap cs hl (fun j u hu => by
      have hj : j < m * sz := by rw [← hl]; exact (List.getElem?_eq_some_iff.1 hu).1
      have h1 := hc j hj
      rw [hu] at h1
      by_cases e0 : j = 0
      · subst e0; simpa [Addr.add] using h1
      · simpa [Addr.add, e0] using h1) h1 h63 hbytes hbase
    exact ⟨v', w', hr, h2, h3, h5⟩

/-- The same at an operation whose guard says yes. -/
theorem wpList_append_row {P : Program} {w : World} {ops : Array Oper} {rest : List Oper} {o : Oper} {a : Act} {Q : Exit → Act → World → Prop} (hgd : Region.wanted o (yielded ops a.tmps) = true) (s x : Operand) (t : TypeId)
    (ho : o.op = .call { callee := .builtin .append, args := #[s, x], argTypes := #[t, t] })
    (base : Nat) (e : TypeId) (i : TypeInfo) (z : Value) (sz bytes : Nat) (ht : P.underlying t = some (.slice e)) (hi : P.info? e = some i) (hz : i.zero = some z)
    (hsize : i.size = sz) (hby : i.bytes = bytes) (hzs : z.cells.size = sz) (hsz : 0 < sz)
    (v : Value) (n : Nat) (xs : List Value) (hs : a.eval s = v) (hown : w.ownsRow base e sz v n xs)
    (X : Value) (m : Nat) (cs : List Value) (hx : a.eval x = X) (hX : IsRow sz w X m cs) (h1 : ∀ u ∈ cs, u.oneCell' = true) (h63 : n + m ≤ maxLen) (hbytes : (n + m) * bytes ≤ 140737488355328) (hbase : base ≤ w.heap.size)
    (h : ∀ v' w', w'.ownsRow base e sz v' (n + m) (xs ++ cs) → w.grownBy w' v.ownBlock → (v'.ownBlock = v.ownBlock ∨ v'.ownBlock = some w.heap.size) → wpList P ops Q rest (a.put o.dst v') w') : wpList P ops Q (o :: rest) a w := by
  refine BigFrame.wpList_want hgd fun K hK => ?_
  obtain ⟨v', w', hr, h2, h3, h5⟩ := run_append_row (P := P) (w := w) base t o.type e i z sz bytes ht hi hz hsize hby hzs hsz v n xs hown X m cs hX h1 h63 hbytes hbase
  unfold Oper.wp execOp
  simp only [ho, resolve, invoke, builtin, Sem.run_bind, Sem.run_pure, Result.andThen_ok, List.map_toArray, List.map_cons, List.map_nil, hs, hx, hr]
  exact hK _ _ (h v' w' h2 h3 h5)

/-- The same at a step of a region that draws its order. -/
theorem step_append_row {P : Program} {w : World} {ops : Array Oper} {o : Oper} {a : Act} {K : Act → World → Prop} {Q : Exit → Act → World → Prop} {E : Prop} (hgd : o.guard = none) (s x : Operand) (t : TypeId)
    (ho : o.op = .call { callee := .builtin .append, args := #[s, x], argTypes := #[t, t] })
    (base : Nat) (e : TypeId) (i : TypeInfo) (z : Value) (sz bytes : Nat) (ht : P.underlying t = some (.slice e)) (hi : P.info? e = some i) (hz : i.zero = some z)
    (hsize : i.size = sz) (hby : i.bytes = bytes) (hzs : z.cells.size = sz) (hsz : 0 < sz)
    (v : Value) (n : Nat) (xs : List Value) (hs : a.eval s = v) (hown : w.ownsRow base e sz v n xs)
    (X : Value) (m : Nat) (cs : List Value) (hx : a.eval x = X) (hX : IsRow sz w X m cs) (h1 : ∀ u ∈ cs, u.oneCell' = true) (h63 : n + m ≤ maxLen) (hbytes : (n + m) * bytes ≤ 140737488355328) (hbase : base ≤ w.heap.size)
    (h : ∀ v' w', w'.ownsRow base e sz v' (n + m) (xs ++ cs) → w.grownBy w' v.ownBlock → (v'.ownBlock = v.ownBlock ∨ v'.ownBlock = some w.heap.size) → K (a.put o.dst v') w') :
    if Region.wanted o (yielded ops a.tmps) = true then Oper.wp P o a w K Q else E := by
  have hw : Region.wanted o (yielded ops a.tmps) = true := by simp [Region.wanted, hgd]
  rw [if_pos hw]
  obtain ⟨v', w', hr, h2, h3, h5⟩ := run_append_row (P := P) (w := w) base t o.type e i z sz bytes ht hi hz hsize hby hzs hsz v n xs hown X m cs hX h1 h63 hbytes hbase
  unfold Oper.wp execOp
  simp only [ho, resolve, invoke, builtin, Sem.run_bind, Sem.run_pure, Result.andThen_ok, List.map_toArray, List.map_cons, List.map_nil, hs, hx, hr]
  exact h v' w' h2 h3 h5

/-- 'T[]{}', laid down by the call. -/
theorem own_empty (w : World) (e sz : Nat) (base : Nat) (hb : base ≤ w.heap.size) : (w.alloc (.cells #[] e)).ownsRow base e sz (.slice (some ⟨w.heap.size, 0, none⟩) 0 0) 0 [] :=
  ⟨by simp, .inr ⟨w.heap.size, 0, #[], rfl, hb, by show (w.heap.push _)[w.heap.size]? = _; simp, Nat.le_refl _, by decide, by simp, by simp⟩⟩

end Go.Proofs.YtomhmndpjkfppaaDoor

/-
  The plain mathematics of chapter 9: timers in order. No program stands in it.
-/
namespace Go.Proofs.YtomhmndpjkfppaaDoor

structure TimerT where
  at_ : Int
  kind : Int
  id : Int
deriving DecidableEq
abbrev noTimer : TimerT := ⟨0, 0, 0⟩
def inT (t : TimerT) : Prop := (-9223372036854775808 ≤ t.at_ ∧ t.at_ ≤ 9223372036854775807) ∧ (-9223372036854775808 ≤ t.kind ∧ t.kind ≤ 9223372036854775807) ∧ (-9223372036854775808 ≤ t.id ∧ t.id ≤ 9223372036854775807)

/-- By time, then kind, then number. -/
def ltT (a b : TimerT) : Bool := decide (a.at_ < b.at_ ∨ a.at_ = b.at_ ∧ (a.kind < b.kind ∨ a.kind = b.kind ∧ a.id < b.id))
theorem ltT_iff (a b : TimerT) : ltT a b = true ↔ (a.at_ < b.at_ ∨ a.at_ = b.at_ ∧ (a.kind < b.kind ∨ a.kind = b.kind ∧ a.id < b.id)) := by unfold ltT; simp
theorem ltT_irrefl (a : TimerT) : ltT a a = false := by
  cases h : ltT a a with
  | false => rfl
  | true => rw [ltT_iff] at h; omega
theorem ltT_trans {a b c : TimerT} (h1 : ltT a b = true) (h2 : ltT b c = true) : ltT a c = true := by rw [ltT_iff] at *; omega
theorem ltT_tri (a b : TimerT) : ltT a b = true ∨ a = b ∨ ltT b a = true := by
  rw [ltT_iff, ltT_iff]
  obtain ⟨a1, a2, a3⟩ := a
  obtain ⟨b1, b2, b3⟩ := b
  simp only [TimerT.mk.injEq]
  omega

/-- Is it this one? -/
def isT (kind id : Int) (t : TimerT) : Bool := t.kind == kind && t.id == id
def cutT (L : List TimerT) (kind id : Int) : List TimerT := L.filter fun t => !isT kind id t
def hasT (L : List TimerT) (kind id : Int) : Bool := L.any (isT kind id)
theorem cutT_take {L : List TimerT} {kind id : Int} {k : Nat} (hk : k < L.length) : cutT (L.take (k + 1)) kind id = cutT (L.take k) kind id ++ (if isT kind id (L.getD k noTimer) then [] else [L.getD k noTimer]) := by
  unfold cutT
  rw [List.take_succ_eq_append_getElem hk, List.filter_append]
  have : L.getD k noTimer = L[k] := by simp [hk]
  rw [this]
  cases h : isT kind id L[k] <;> simp [h]
theorem cutT_length (L : List TimerT) (kind id : Int) : (cutT L kind id).length ≤ L.length := List.length_filter_le _ _
theorem cutT_same {L : List TimerT} {kind id : Int} : (L.length = (cutT L kind id).length) ↔ hasT L kind id = false := by
  unfold cutT hasT
  induction L with
  | nil => simp
  | cons x r ih =>
    have hl := List.length_filter_le (fun t => !isT kind id t) r
    rw [List.filter_cons, List.any_cons]
    cases h : isT kind id x
    · simp [← ih]
    · simp
      omega

/-- How many stand ahead of it, from the first one on. -/
def aheadT : List TimerT → TimerT → Nat
  | [], _ => 0
  | x :: r, t => if ltT x t then aheadT r t + 1 else 0
theorem aheadT_le (L : List TimerT) (t : TimerT) : aheadT L t ≤ L.length := by
  induction L with
  | nil => exact Nat.le_refl _
  | cons x r ih => simp only [aheadT]; split <;> simp <;> omega
theorem aheadT_stop {L : List TimerT} {t : TimerT} {k : Nat} (h : ∀ j, j < k → ltT (L.getD j noTimer) t = true) (hk : k ≤ L.length) (hs : k < L.length → ltT (L.getD k noTimer) t = false) : aheadT L t = k := by
  induction L generalizing k with
  | nil => simp at hk; subst hk; rfl
  | cons x r ih =>
    cases k with
    | zero =>
      have := hs (by simp)
      simp only [List.getD_cons_zero] at this
      simp [aheadT, this]
    | succ k =>
      have h0 := h 0 (by omega)
      simp only [List.getD_cons_zero] at h0
      simp only [aheadT, h0, if_true]
      rw [ih (k := k) (fun j hj => by have := h (j + 1) (by omega); simpa using this) (by simpa using hk) (fun hk' => by have := hs (by simpa using hk'); simpa using this)]
def putT (L : List TimerT) (t : TimerT) : List TimerT := L.take (aheadT L t) ++ t :: L.drop (aheadT L t)
def top62 : Int := 4611686018427387904
def setOK (now : Int) (t : TimerT) : Bool := decide (now ≤ t.at_) && decide (t.at_ ≤ top62)
def setT (now : Int) (L : List TimerT) (t : TimerT) : List TimerT := if setOK now t then putT (cutT L t.kind t.id) t else L
def firstT (L : List TimerT) (kind id : Int) : Option TimerT := L.find? (isT kind id)
/-- Is the first one till then? -/
def dueT (L : List TimerT) (to : Int) : Bool := match L with
  | [] => false
  | x :: _ => decide (x.at_ ≤ to)
def goOK (now : Int) (L : List TimerT) (to : Int) : Bool := decide (now ≤ to) && decide (to ≤ top62) && !dueT L to
/-- The first one, is there one, the time and the row behind it. -/
def nextT (now : Int) (L : List TimerT) (til : Int) : TimerT × Bool × Int × List TimerT := if dueT L til then (L.getD 0 noTimer, true, (L.getD 0 noTimer).at_, L.drop 1) else (noTimer, false, now, L)

end Go.Proofs.YtomhmndpjkfppaaDoor

/-
  Who is out: outings as plain values, and what package eject says of them. No program stands in it.
-/
namespace Go.Proofs.YtomhmndpjkfppaaDoor

/-- An outing. -/
structure Og where
  out : Bool
  from_ : Int
  until_ : Int
  times : Int
deriving DecidableEq
abbrev noOg : Og := ⟨false, 0, 0, 0⟩
/-- A time, the nearest; a number of times. -/
def timeE (n : Int) : Int := if n < 0 then 0 else if 4611686018427387904 < n then 4611686018427387904 else n
def timesE (n : Int) : Int := if n < 0 then 0 else if 10 < n then 10 else n
def moreE (n : Int) : Int := if 10 < timesE n + 1 then 10 else timesE n + 1
/-- How many may be out, how many more, of a configuration that may be. -/
def capE (c : Cfg) (m : Int) : Int := if c.one = true ∧ 0 < m then (if mdV m c.f14 100 < 1 then 1 else mdV m c.f14 100) else mdV m c.f14 100
def roomE (c : Cfg) (m o : Int) : Int := if capE c m - (if o < 0 then 0 else o) < 0 then 0 else capE c m - (if o < 0 then 0 else o)
def outE (c : Cfg) (o : Og) (now : Int) : Og := ⟨true, timeE now, if 4611686018427387904 < timeE now + c.f13 * moreE o.times then 4611686018427387904 else timeE now + c.f13 * moreE o.times, moreE o.times⟩
def backE (o : Og) : Og := ⟨false, 0, 0, timesE o.times⟩
def fadeE (o : Og) : Og := ⟨o.out, o.from_, o.until_, if o.out = true then timesE o.times else if timesE o.times - 1 < 0 then 0 else timesE o.times - 1⟩
def firstE (l : List TimerT) (k : Int) : List Int := ((sortV (l.map fun t => (t.at_, t.id))).take k.toNat).map (·.2)

theorem timeE_bd (n : Int) : 0 ≤ timeE n ∧ timeE n ≤ 4611686018427387904 := by unfold timeE; split <;> (try split) <;> omega
theorem timesE_bd (n : Int) : 0 ≤ timesE n ∧ timesE n ≤ 10 := by unfold timesE; split <;> (try split) <;> omega
theorem moreE_bd (n : Int) : 1 ≤ moreE n ∧ moreE n ≤ 10 := by have := timesE_bd n; unfold moreE; split <;> omega
theorem timesE_self {n : Int} (h : 0 ≤ n ∧ n ≤ 10) : timesE n = n := by unfold timesE; rw [if_neg (by omega), if_neg (by omega)]
theorem timeE_self {n : Int} (h : 0 ≤ n ∧ n ≤ 4611686018427387904) : timeE n = n := by unfold timeE; rw [if_neg (by omega), if_neg (by omega)]
theorem md_pct {m p : Int} (hm : 0 ≤ m ∧ m ≤ 1000000) (hp : 0 ≤ p ∧ p ≤ 100) : mdV m p 100 = m * p / 100 := by
  have h0 : 0 ≤ m * p := Int.mul_nonneg hm.1 hp.1
  have h1 : m * p ≤ 100000000 := Int.le_trans (Int.mul_le_mul hm.2 hp.2 hp.1 (by omega)) (by omega)
  have e : oz m * oz p / 100 = m * p / 100 := by rw [oz_pos hm.1, oz_pos hp.1]
  rw [(md_good m p 100 (by omega) (by omega) (by omega) (by rw [e]; omega)).1, e]
/-- Of a number of members that can be: a percentage of it, no more than it. -/
theorem capE_bd {c : Cfg} {m : Int} (hm : 0 ≤ m ∧ m ≤ 1000000) (hp : 0 ≤ c.f14 ∧ c.f14 ≤ 100) : 0 ≤ capE c m ∧ capE c m ≤ m ∧ capE c m = (if c.one = true ∧ 0 < m then (if m * c.f14 / 100 < 1 then 1 else m * c.f14 / 100) else m * c.f14 / 100) := by
  have e := md_pct hm hp
  have h0 : 0 ≤ m * c.f14 := Int.mul_nonneg hm.1 hp.1
  have h1 : m * c.f14 ≤ m * 100 := Int.mul_le_mul_of_nonneg_left hp.2 hm.1
  unfold capE
  rw [e]
  refine ⟨?_, ?_, rfl⟩
  · split
    · split <;> omega
    · omega
  · split
    · split <;> omega
    · omega
theorem capE_up {c : Cfg} {m : Int} (hm : 0 ≤ m ∧ m + 1 ≤ 1000000) (hp : 0 ≤ c.f14 ∧ c.f14 ≤ 100) : capE c m ≤ capE c (m + 1) := by
  rw [(capE_bd ⟨hm.1, by omega⟩ hp).2.2, (capE_bd (m := m + 1) ⟨by omega, hm.2⟩ hp).2.2]
  have h2 : (m + 1) * c.f14 = m * c.f14 + c.f14 := by rw [Int.add_mul]; omega
  have h0 : 0 ≤ m * c.f14 := Int.mul_nonneg hm.1 hp.1
  rw [h2]
  generalize m * c.f14 = x at *
  by_cases hq : c.one = true
  · by_cases h0 : 0 < m
    · rw [if_pos (show c.one = true ∧ 0 < m from ⟨hq, h0⟩), if_pos (show c.one = true ∧ 0 < m + 1 from ⟨hq, by omega⟩)]
      split <;> split <;> omega
    · rw [if_neg (show ¬ (c.one = true ∧ 0 < m) from fun h => h0 h.2), if_pos (show c.one = true ∧ 0 < m + 1 from ⟨hq, by omega⟩)]
      split <;> omega
  · rw [if_neg (show ¬ (c.one = true ∧ 0 < m) from fun h => hq h.1), if_neg (show ¬ (c.one = true ∧ 0 < m + 1) from fun h => hq h.1)]
    omega
theorem roomE_in {c : Cfg} {m o : Int} (ho : 0 ≤ o) (hc : o ≤ capE c m) : roomE c m o = capE c m - o := by
  unfold roomE
  rw [if_neg (show ¬ o < 0 by omega), if_neg (by omega)]
theorem firstE_length (l : List TimerT) (k : Int) : (firstE l k).length = min k.toNat l.length := by
  unfold firstE
  rw [List.length_map, List.length_take, sortV_length, List.length_map]
theorem firstE_at (l : List TimerT) (k i : Nat) (h : i < k) : (firstE l k).getD i 0 = (firstE l (l.length : Int)).getD i 0 := by
  unfold firstE
  have hl : (sortV (l.map fun t => (t.at_, t.id))).length = l.length := by rw [sortV_length, List.length_map]
  rw [Int.toNat_natCast, Int.toNat_natCast, ← hl, List.take_of_length_le (Nat.le_refl _), List.getD_eq_getElem?_getD, List.getD_eq_getElem?_getD, List.getElem?_map, List.getElem?_map, List.getElem?_take, if_pos h]

end Go.Proofs.YtomhmndpjkfppaaDoor

/-
  '==' of structs, field by field. No program stands in it.
-/
namespace Go.Proofs.YtomhmndpjkfppaaDoor
open Go.RowKit

theorem eqFields_step {P : Program} {w : World} {d : Nat} {xs ys : Array Value} {f : Field} {fs : List Field} {a b : Value} {r r' : Bool} (hn : f.name ≠ "_") (ha : (part f.type xs f.offset).run P w = .ok a w) (hb : (part f.type ys f.offset).run P w = .ok b w)
    (he : (Op.equalIn d f.type a b).run P w = .ok r w) (ih : (Op.eqFields d xs ys fs).run P w = .ok r' w) : (Op.eqFields d xs ys (f :: fs)).run P w = .ok (r && r') w := by
  unfold Op.eqFields
  rw [if_pos hn]
  simp only [Sem.run_bind, ha, hb, he, Result.andThen_ok]
  cases r
  · simp
  · simp only [Bool.not_true, Bool.false_eq_true, if_false, Bool.true_and]; exact ih

theorem part_plain {P : Program} {w : World} {t : TypeId} {cs : Array Value} {i : Nat} {v : Value} {d : TypeDesc} (hu : P.underlying t = some d) (hd : (match d with | .struct _ | .array _ _ => true | _ => false) = false) (hv : cs[i]? = some v) : (part t cs i).run P w = .ok v w := by
  cases d <;> first | (simp at hd; done) | simp [part, isAgg, run_underlying hu, hv]

end Go.Proofs.YtomhmndpjkfppaaDoor

/-
  Boxes: a block that holds one struct. No program stands in it.
-/
namespace Go.Proofs.YtomhmndpjkfppaaDoor
open Go.RowKit Go.ChangeShapes

/-- Block b is a box of type t that holds the cells cs. -/
def HasBox (w : World) (b : Nat) (t : TypeId) (cs : Array Value) : Prop := w.heap[b]? = some (.cells cs t (0, 0))
theorem HasBox.lt {w : World} {b t : Nat} {cs : Array Value} (h : HasBox w b t cs) : b < w.heap.size := (Array.getElem?_eq_some_iff.1 h).1
theorem HasBox.below {w w' : World} {b t : Nat} {cs : Array Value} (h : HasBox w b t cs) (hb : Below w.heap.size w w') : HasBox w' b t cs := (hb.block b h.lt).trans h
theorem HasBox.cell {w : World} {b t : Nat} {cs : Array Value} (h : HasBox w b t cs) (i : Nat) : w.cell? ⟨b, i, none⟩ = cs[i]? := cell_of_row w b i cs _ _ h
theorem HasBox.frozen {w : World} {b t : Nat} {cs : Array Value} (h : HasBox w b t cs) (i : Nat) : w.frozen? ⟨b, i, none⟩ = false := frozen_of_row w b i cs _ h
theorem hasBox_new (w : World) (t : Nat) (cs : Array Value) : HasBox (w.alloc (.cells cs t (0, 0))) w.heap.size t cs := heap_alloc_new w _
theorem hasBox_new' (w : World) (t g : Nat) (cs : Array Value) (hg : g = w.heap.size) : HasBox (w.alloc (.cells cs t (0, 0))) g t cs := by subst hg; exact heap_alloc_new w _
theorem HasBox.alloc {w : World} {b t : Nat} {cs : Array Value} (h : HasBox w b t cs) (o : Obj) : HasBox (w.alloc o) b t cs := (Below.heap_alloc _ _ _ h.lt).trans h
theorem HasBox.set {w : World} {b t : Nat} {cs : Array Value} (h : HasBox w b t cs) (i : Nat) (v : Value) : HasBox (w.setCell ⟨b, i, none⟩ v) b t (cs.setIfInBounds i v) := heap_setCell_same w b i cs t v h
theorem HasBox.setOther {w : World} {b t : Nat} {cs : Array Value} (h : HasBox w b t cs) (p : Addr) (hp : b ≠ p.block) (v : Value) : HasBox (w.setCell p v) b t cs := by
  unfold HasBox at h ⊢
  rw [← h]
  simp [World.setCell, Array.getElem?_modify, Ne.symm hp]
theorem HasBox.row {w : World} {b t : Nat} {cs ds : Array Value} (h : HasBox w b t cs) : HasBox (w.setRow b ds) b t ds := setRow_heap w b cs ds t _ h
theorem HasBox.rowOther {w : World} {b t g : Nat} {cs ds : Array Value} (h : HasBox w b t cs) (hg : b ≠ g) : HasBox (w.setRow g ds) b t cs := (setRow_other w g b ds hg).trans h
theorem HasBox.grown {w w' : World} {b t : Nat} {cs : Array Value} {o : Option Nat} (h : HasBox w b t cs) (hg : w.grownBy w' o) (hne : some b ≠ o) : HasBox w' b t cs := by
  obtain ⟨_, _, _, _, h5⟩ := hg
  exact (h5 b h.lt hne).trans h

/-- What is owned beyond a block is owned. -/
theorem own_from {w : World} {base base' e sz n : Nat} {v : Value} {cs : List Value} (h : w.ownsRow base e sz v n cs) (hb : base' ≤ base) : w.ownsRow base' e sz v n cs := by
  refine ⟨h.1, ?_⟩
  rcases h.2 with h | ⟨g, cap, cur, h1, h2, h3⟩
  · exact .inl h
  · exact .inr ⟨g, cap, cur, h1, Nat.le_trans hb h2, h3⟩
/-- What is owned stands, if the blocks from there on stand. -/
theorem own_on {w w' : World} {base e sz n : Nat} {v : Value} {cs : List Value} (h : w.ownsRow base e sz v n cs) (hb : ∀ g, base ≤ g → g < w.heap.size → w'.heap[g]? = w.heap[g]?) : w'.ownsRow base e sz v n cs := by
  refine ⟨h.1, ?_⟩
  rcases h.2 with h | ⟨g, cap, cur, h1, h2, h3, h4⟩
  · exact .inl h
  · exact .inr ⟨g, cap, cur, h1, h2, (hb g h2 (Array.getElem?_eq_some_iff.1 h3).1).trans h3, h4⟩

theorem run_ostore4 {P : Program} {w : World} (ρ : Operand → Value) (o : Oper) (ty : TypeId) (x y : Operand) (ho : o.op = .store ty x y) (g : Nat) (cells : Array Value) (hx : ρ x = .pointer (some ⟨g, 0, none⟩)) (hy : ρ y = .agg cells) (t : TypeId) (old : Array Value) (hg : HasBox w g t old)
    (hi : (P.info? ty).map (·.size) = some cells.size) (hold : old.size = cells.size) (h1 : cells.all (·.oneCell') = true) : (execOp ρ o).run P w = .ok .skip (w.setRow g cells) := by
  unfold execOp
  simp only [ho, hx, hy, Instr.storeAt, Instr.sureAddr, Sem.run_bind, Sem.run_pure, Result.andThen_ok, run_storeVar_row w g t ty old cells hg hi hold h1]

theorem wpList_load_bx {P : Program} {ops : Array Oper} {rest : List Oper} {o : Oper} {a : Act} {w : World} {Q : Exit → Act → World → Prop} (hw : Region.wanted o (yielded ops a.tmps) = true) (ty : TypeId) (x : Operand) (ho : o.op = .load ty x)
    (g : Nat) (hx : a.eval x = .pointer (some ⟨g, 0, none⟩)) (t : TypeId) (cs : Array Value) (d : TypeDesc) (hg : HasBox w g t cs)
    (hu : P.underlying ty = some d) (hd : (match d with | .struct _ | .array _ _ => true | _ => false) = true) (hi : (P.info? ty).map (·.size) = some cs.size)
    (h : wpList P ops Q rest (a.put o.dst (.agg cs)) w) : wpList P ops Q (o :: rest) a w :=
  BigFrame.wpList_want hw fun _ hK => wp_load_row ty x ho g hx t cs _ d hg hu hd hi (hK _ _ h)

/-- A load of a whole row, as an operation's run. -/
theorem run_oload {P : Program} {w : World} (ρ : Operand → Value) (o : Oper) (ty : TypeId) (x : Operand) (ho : o.op = .load ty x) (g : Nat) (hx : ρ x = .pointer (some ⟨g, 0, none⟩)) (t : TypeId) (cs : Array Value) (fr : Nat × Nat) (d : TypeDesc) (hg : w.heap[g]? = some (.cells cs t fr))
    (hu : P.underlying ty = some d) (hd : (match d with | .struct _ | .array _ _ => true | _ => false) = true) (hi : (P.info? ty).map (·.size) = some cs.size) : (execOp ρ o).run P w = .ok (.value (.agg cs)) w := by
  unfold execOp
  simp only [ho, hx, Instr.loadAt, Instr.sureAddr, Sem.run_bind, Sem.run_pure, Result.andThen_ok, run_loadVar_row w g t ty cs fr d hg hu hd hi]

end Go.Proofs.YtomhmndpjkfppaaDoor

/-
  Function values that go through a list ('iter.Seq'). No program stands in it.
-/
namespace Go.Proofs.YtomhmndpjkfppaaDoor
open Go.RowKit

/-- The blocks from n₀ to n₁ stand. -/
def KeepsIv (n₀ n₁ : Nat) (W W' : World) : Prop := ∀ b, n₀ ≤ b → b < n₁ → W'.heap[b]? = W.heap[b]?
theorem keepsIv_refl (n₀ n₁ : Nat) (W : World) : KeepsIv n₀ n₁ W W := fun _ _ _ => rfl
theorem keepsIv_t {n₀ n₁ : Nat} {A B C : World} (h : KeepsIv n₀ n₁ A B) (k : KeepsIv n₀ n₁ B C) : KeepsIv n₀ n₁ A C := fun b h1 h2 => (k b h1 h2).trans (h b h1 h2)
theorem keepsIv_b {n₀ n₁ : Nat} {w : World} (hn : n₁ ≤ w.heap.size) (W : World) (l : Nat) (o o' : Obj) (hl : w.heap.size ≤ l) (_ : W.heap[l]? = some o) (_ : o.isCells = false) (_ : o.isWalk = false) : KeepsIv n₀ n₁ W (W.putObj l o') :=
  fun b _ h2 => World.putObj_heap_other (by omega)
theorem keepsIv_below {n₀ n₁ n : Nat} {W W' : World} (h : Below n W W') (hn : n₁ ≤ n) : KeepsIv n₀ n₁ W W' := fun b _ h2 => (h.mono hn).block b h2
theorem keepsIv_set {n₀ n₁ B : Nat} (W : World) (v : Value) (hB : B < n₀) : KeepsIv n₀ n₁ W (W.setCell ⟨B, 0, none⟩ v) := fun b h1 _ => Below.heap_setCell _ _ _ b (fun e => by simp at e; omega)
theorem KeepsIv.mono {n₀ n₁ m : Nat} {W W' : World} (h : KeepsIv n₀ m W W') (hm : n₁ ≤ m) : KeepsIv n₀ n₁ W W' := fun b h1 h2 => h b h1 (by omega)
theorem KeepsIv.cell {n₀ n₁ : Nat} {W W' : World} (h : KeepsIv n₀ n₁ W W') (b o : Nat) (h1 : n₀ ≤ b) (h2 : b < n₁) : W'.cell? ⟨b, o, none⟩ = W.cell? ⟨b, o, none⟩ := by
  simp [World.cell?, h b h1 h2]

/-- A function value that goes through xs, whoever goes through it and wherever he leaves, as long as the blocks from n₀ on that lay there stand. -/
def IsSeqK {α : Type} (P : Program) (encs : α → Array Value) (n₀ : Nat) (w : World) (v : Value) (xs : List α) : Prop :=
  ∃ g lb, v = .func (.func g) #[] lb ∧ (∀ args w, (callFunc g args).run P w = .ok (.enter g args) w) ∧
    ∀ n, 1 ≤ n → SeqStopsK Fence.wide n P g lb encs (KeepsIv n₀ w.heap.size) (fun ys => ys = xs) (fun pre => pre <+: xs) xs.length w

theorem IsSeqK.below {α : Type} {P : Program} {encs : α → Array Value} {n₀ : Nat} {w w' : World} {v : Value} {xs : List α} (h : IsSeqK P encs n₀ w v xs) (hb : Below w.heap.size w w') : IsSeqK P encs n₀ w' v xs := by
  obtain ⟨g, lb, hv, he, hs⟩ := h
  refine ⟨g, lb, hv, he, fun n hn l J Jx W hW hJ hJx hY h0 => hs n hn l J Jx W (hb.trans (hW.mono hb.size)) hJ hJx (fun pre x W1 hJ1 hlt => ?_) h0⟩
  refine (hY pre x W1 hJ1 hlt).mono ?_
  rintro e W' (⟨h1, h2, h3⟩ | h)
  · exact .inl ⟨h1, h2, h3.mono hb.size⟩
  · exact .inr h

def encI (x : Int) : Array Value := #[.int .i64 x]

/-- One cell, laid down by the call. -/
theorem one_cell (w : World) (v : Value) (t g : Nat) (hg : g = w.heap.size) : IsRow 1 (w.alloc (.cells #[v] t)) (.slice (some ⟨g, 0, none⟩) 1 1) 1 [v] := by
  subst hg
  exact IsRow.fresh w [v] 1 1 t 1 rfl (by omega) (by unfold maxLen; omega) (by omega)

/-- 'append(s, x...)' onto what the call owns, inside a fence. -/
theorem wpListIn_append_row {F : Fence} {nf : Nat} {P : Program} {w : World} {ops : Array Oper} {rest : List Oper} {o : Oper} {a : Act} {Q : Exit → Act → World → Prop} (hgd : o.guard = none) (s x : Operand) (t : TypeId)
    (ho : o.op = .call { callee := .builtin .append, args := #[s, x], argTypes := #[t, t] })
    (base : Nat) (e : TypeId) (i : TypeInfo) (z : Value) (sz bytes : Nat) (ht : P.underlying t = some (.slice e)) (hi : P.info? e = some i) (hz : i.zero = some z)
    (hsize : i.size = sz) (hby : i.bytes = bytes) (hzs : z.cells.size = sz) (hsz : 0 < sz)
    (v : Value) (n : Nat) (xs : List Value) (hs : a.eval s = v) (hown : w.ownsRow base e sz v n xs)
    (X : Value) (m : Nat) (cs : List Value) (hx : a.eval x = X) (hX : IsRow sz w X m cs) (h1 : ∀ u ∈ cs, u.oneCell' = true) (h63 : n + m ≤ maxLen) (hbytes : (n + m) * bytes ≤ 140737488355328) (hbase : base ≤ w.heap.size)
    (h : ∀ v' w', w'.ownsRow base e sz v' (n + m) (xs ++ cs) → w.grownBy w' v.ownBlock → (v'.ownBlock = v.ownBlock ∨ v'.ownBlock = some w.heap.size) → wpListIn F nf P ops Q rest (a.put o.dst v') w') : wpListIn F nf P ops Q (o :: rest) a w := by
  refine wpListIn_plain hgd fun K hK' => ?_
  obtain ⟨v', w', hrun, h2, h3, h5⟩ := run_append_row (P := P) (w := w) base t o.type e i z sz bytes ht hi hz hsize hby hzs hsz v n xs hown X m cs hX h1 h63 hbytes hbase
  unfold Oper.wpIn
  refine ⟨?_, ?_⟩
  · simp [Oper.about, ho, resolve, Target.leads, Sem.run_pure]
  · rw [Oper.semAt_plain F _ _ (by rw [ho]; intro c hc'; cases hc')]
    simp [execOp, ho, resolve, invoke, builtin, hs, hx, hrun, Result.andThen]
    exact hK' _ _ (h v' w' h2 h3 h5)

/-- 'out = append(out, ..)', out in a box, its row beyond all boxes: what stands behind the store. -/
theorem boxed_gathered {W w1 : World} {n₀ base B : Nat} {t e : TypeId} {size : Nat} {v v' : Value} {k m : Nat} {xs ys : List Value} {tmp : Obj}
    (hv : Boxed W B t v) (hrow : W.ownsRow base e size v k xs) (hn₀ : n₀ ≤ B) (hB : B < base) (hbase : base ≤ W.heap.size)
    (hown' : w1.ownsRow base e size v' m ys) (hgrow : (W.alloc tmp).grownBy w1 v.ownBlock) :
    Boxed w1 B t v ∧ Boxed (w1.setCell ⟨B, 0, none⟩ v') B t v' ∧ (w1.setCell ⟨B, 0, none⟩ v').ownsRow base e size v' m ys ∧ KeepsOthers W (w1.setCell ⟨B, 0, none⟩ v') ∧ Below n₀ W (w1.setCell ⟨B, 0, none⟩ v') ∧ (∀ b, b < base → b ≠ B → (w1.setCell ⟨B, 0, none⟩ v').heap[b]? = W.heap[b]?) ∧
      ∀ B2 t2 u, Boxed W B2 t2 u → B2 ≠ B → B2 < base → Boxed (w1.setCell ⟨B, 0, none⟩ v') B2 t2 u := by
  have hne : ∀ B2, B2 < base → some B2 ≠ v.ownBlock := fun B2 h2 e' => by have := own_base hrow B2 e'.symm; omega
  have hne' : v'.ownBlock ≠ some B := fun e' => by have := own_base hown' B e'; omega
  have hv1 : Boxed w1 B t v := (hv.alloc tmp).kept hgrow (hne B hB)
  refine ⟨hv1, hv1.set v', hown'.kept (grownBy_setCell' w1 B v') (.inr hne'), ?_, ?_, fun b h2 hn => ?_, fun B2 t2 u h2 hn h3 => ((h2.alloc tmp).kept hgrow (hne B2 h3)).kept (grownBy_setCell' w1 B v') (by simpa using hn)⟩
  · refine ((KeepsOthers.alloc W tmp).trans (KeepsOthers.of_grownBy hgrow fun j o ej hj => ?_)).trans (KeepsOthers.setCell _ _ _)
    rcases (hrow.alloc tmp).2 with ⟨rfl, _⟩ | ⟨g, cap, cur, rfl, _, hgb, _⟩
    · simp [Value.ownBlock] at ej
    · obtain rfl : g = j := by simpa [Value.ownBlock] using ej
      rw [hgb] at hj; cases hj; rfl
  · refine (((Below.refl n₀ W).alloc (by omega) tmp).grown hgrow (by simp; omega) fun j ej => ?_).setCell (p := ⟨B, 0, none⟩) hn₀ v'
    have := own_base hrow j ej
    omega
  · rw [Below.heap_setCell _ _ _ b (fun e => hn (by simpa using e)), hgrow.block b (by simp; omega) (hne b h2)]
    exact Below.heap_alloc W tmp b (by omega)

theorem own_shape {w : World} {base e sz n : Nat} {v : Value} {cs : List Value} (h : w.ownsRow base e sz v n cs) : ∃ ao cap, v = .slice ao n cap := by
  rcases h.2 with ⟨rfl, h0⟩ | ⟨g, cap, cur, rfl, _⟩
  · exact ⟨none, 0, by rw [h0]⟩
  · exact ⟨_, _, rfl⟩

theorem boxed_below {w w' : World} {B t : Nat} {v : Value} (h : Boxed w B t v) (hb : Below w.heap.size w w') : Boxed w' B t v := (hb.block B h.lt).trans h

end Go.Proofs.YtomhmndpjkfppaaDoor

/-
  How lines (structs of a number and a slice of texts) lie in memory. No program stands in it.
-/
namespace Go.Proofs.YtomhmndpjkfppaaDoor
open Go.RowKit Go.ChangeShapes

abbrev LineT := Int × List ByteArray
abbrev nilW : Value := .slice none 0 0
abbrev IsStrs (w : World) (v : Value) (ss : List ByteArray) : Prop := IsRow 1 w v ss.length (ss.map Value.string)

/-- The block that a slice lies in. -/
def blkOf : Value → Option Nat
  | .slice (some a) _ _ => some a.block
  | _ => none

theorem isStrs_nil (w : World) : IsStrs w nilW [] := ⟨rfl, ⟨by unfold maxLen; simp, by unfold roomy maxLen; omega⟩, .inl ⟨rfl, _, _, rfl, fun _ => rfl⟩⟩

theorem IsRow.shaped {w : World} {sz n : Nat} {v : Value} {cs : List Value} (h : IsRow sz w v n cs) : ∃ ao cap, v = .slice ao n cap := by
  rcases h.2.2 with ⟨h0, ao, cap, rfl, _⟩ | ⟨_, b, off, cap, rfl, _⟩
  · exact ⟨ao, cap, by rw [h0]⟩
  · exact ⟨_, cap, rfl⟩

theorem IsRow.grown {w w' : World} {sz n : Nat} {v : Value} {cs : List Value} {o : Option Nat} (h : IsRow sz w v n cs) (hg : w.grownBy w' o) (hne : 0 < n → blkOf v ≠ o) : IsRow sz w' v n cs := by
  obtain ⟨h1, h2, h3⟩ := h
  refine ⟨h1, h2, ?_⟩
  rcases h3 with h3 | ⟨h3, b, off, cap, rfl, hlt, hc⟩
  · exact .inl h3
  · have hb : some b ≠ o := hne h3
    exact .inr ⟨h3, b, off, cap, rfl, Nat.lt_of_lt_of_le hlt hg.size, fun j hj => by rw [hg.cell_far _ hlt hb]; exact hc j hj⟩

theorem IsRow.blk_lt {w : World} {sz n : Nat} {v : Value} {cs : List Value} (h : IsRow sz w v n cs) (h0 : 0 < n) : ∃ b, blkOf v = some b ∧ b < w.heap.size := by
  rcases h.2.2 with ⟨h1, _⟩ | ⟨_, b, off, cap, rfl, hlt, _⟩
  · omega
  · exact ⟨b, rfl, hlt⟩

theorem own_blkOf {w : World} {base e sz n : Nat} {v : Value} {cs : List Value} (h : w.ownsRow base e sz v n cs) : ∀ b, blkOf v = some b → base ≤ b := by
  intro b hb
  rcases h.2 with ⟨rfl, _⟩ | ⟨g, cap, cur, rfl, hg, _⟩
  · simp [blkOf] at hb
  · simp [blkOf] at hb; omega

/-- What the call owns stands while what was there stands. -/
theorem own_stays {w w' : World} {base e sz n : Nat} {v : Value} {cs : List Value} (h : w.ownsRow base e sz v n cs) (hb : Below w.heap.size w w') : w'.ownsRow base e sz v n cs := by
  refine ⟨h.1, ?_⟩
  rcases h.2 with h | ⟨g, cap, cur, h1, h2, h3, h4⟩
  · exact .inl h
  · exact .inr ⟨g, cap, cur, h1, h2, (hb.block g (Array.getElem?_eq_some_iff.1 h3).1).trans h3, h4⟩

theorem strsAt {w : World} {ao : Option Addr} {n cap : Nat} {ss : List ByteArray} (h : IsStrs w (.slice ao n cap) ss) (i : Nat) (hi : i < ss.length) :
    ∃ b off, ao = some ⟨b, off, none⟩ ∧ b < w.heap.size ∧ w.cell? ⟨b, off + i, none⟩ = some (.string (ss.getD i ByteArray.empty)) := by
  rcases h.2.2 with ⟨h0, _⟩ | ⟨_, b, off, c, e, hlt, hc⟩
  · omega
  · simp only [Value.slice.injEq] at e
    refine ⟨b, off, e.1, hlt, ?_⟩
    rw [hc i (by omega)]
    simp [hi]

/-- The cells of lines: each its number and its slice of words. -/
def lineCells : List LineT → List Value → List Value
  | l :: L, v :: vs => .int .i64 l.1 :: v :: lineCells L vs
  | _, _ => []
theorem lineCells_length (L : List LineT) (vs : List Value) (h : vs.length = L.length) : (lineCells L vs).length = L.length * 2 := by
  induction L generalizing vs with
  | nil => cases vs <;> rfl
  | cons l r ih =>
    cases vs with
    | nil => simp at h
    | cons v vr => simp only [lineCells, List.length_cons]; rw [ih vr (by simpa using h)]; omega
theorem lineCells_at (L : List LineT) (vs : List Value) (h : vs.length = L.length) (i : Nat) (hi : i < L.length) : (lineCells L vs)[i * 2]? = some (.int .i64 (L.getD i (0, [])).1) ∧ (lineCells L vs)[i * 2 + 1]? = some (vs.getD i nilW) := by
  induction L generalizing vs i with
  | nil => simp at hi
  | cons l r ih =>
    cases vs with
    | nil => simp at h
    | cons v vr =>
      cases i with
      | zero => exact ⟨rfl, rfl⟩
      | succ i =>
        have := ih vr (by simpa using h) i (by simpa using hi)
        rw [show (i + 1) * 2 = i * 2 + 2 by omega]
        simpa [lineCells] using this
theorem lineCells_snoc (L : List LineT) (vs : List Value) (h : vs.length = L.length) (l : LineT) (v : Value) : lineCells (L ++ [l]) (vs ++ [v]) = lineCells L vs ++ [.int .i64 l.1, v] := by
  induction L generalizing vs with
  | nil => cases vs with
    | nil => rfl
    | cons _ _ => simp at h
  | cons x r ih =>
    cases vs with
    | nil => simp at h
    | cons y vr => simp only [List.cons_append, lineCells]; rw [ih vr (by simpa using h)]

/-- A slice value that holds the lines L, their words in the slices vs. -/
def IsLines (w : World) (v : Value) (vs : List Value) (L : List LineT) : Prop :=
  vs.length = L.length ∧ IsRow 2 w v L.length (lineCells L vs) ∧ ∀ i, i < L.length → IsStrs w (vs.getD i nilW) (L.getD i (0, [])).2

/-- Lines, wherever their words lie. -/
def HasLines (w : World) (v : Value) (L : List LineT) : Prop := ∃ vs, IsLines w v vs L

theorem IsLines.below {w w' : World} {v : Value} {vs : List Value} {L : List LineT} (h : IsLines w v vs L) (hb : Below w.heap.size w w') : IsLines w' v vs L :=
  ⟨h.1, h.2.1.below hb, fun i hi => (h.2.2 i hi).below hb⟩
theorem isLines_nil (w : World) : IsLines w nilW [] [] := ⟨rfl, ⟨rfl, ⟨by unfold maxLen; simp, by unfold roomy maxLen; omega⟩, .inl ⟨rfl, _, _, rfl, fun _ => rfl⟩⟩, fun i hi => by simp at hi⟩

theorem IsLines.at {w : World} {ao : Option Addr} {n cap : Nat} {vs : List Value} {L : List LineT} (h : IsLines w (.slice ao n cap) vs L) (i : Nat) (hi : i < L.length) :
    ∃ b off, ao = some ⟨b, off, none⟩ ∧ b < w.heap.size ∧ w.cell? ⟨b, off + i * 2, none⟩ = some (.int .i64 (L.getD i (0, [])).1) ∧ w.cell? ⟨b, off + i * 2 + 1, none⟩ = some (vs.getD i nilW) := by
  obtain ⟨h1, h2, _⟩ := h
  rcases h2.2.2 with ⟨h0, _⟩ | ⟨_, b, off, c, e, hlt, hc⟩
  · omega
  · simp only [Value.slice.injEq] at e
    obtain ⟨a1, a2⟩ := lineCells_at L vs h1 i hi
    exact ⟨b, off, e.1, hlt, by rw [hc (i * 2) (by omega), a1], by rw [Nat.add_assoc, hc (i * 2 + 1) (by omega), a2]⟩

/-- Lines that the call collects: none of their words in the block of o. -/
def HeldL (w : World) (o : Value) (vs : List Value) (L : List LineT) : Prop :=
  vs.length = L.length ∧ ∀ j, j < L.length → IsStrs w (vs.getD j nilW) (L.getD j (0, [])).2 ∧ (0 < (L.getD j (0, [])).2.length → blkOf (vs.getD j nilW) ≠ o.ownBlock)
theorem heldL_nil (w : World) (o : Value) : HeldL w o [] [] := ⟨rfl, fun j h => by simp at h⟩
theorem HeldL.below {w w' : World} {o : Value} {vs : List Value} {L : List LineT} (h : HeldL w o vs L) (hb : Below w.heap.size w w') : HeldL w' o vs L :=
  ⟨h.1, fun j hj => ⟨(h.2 j hj).1.below hb, (h.2 j hj).2⟩⟩
theorem getD_snoc_left {α : Type} (a b : List α) (d : α) (i : Nat) (h : i < a.length) : (a ++ b).getD i d = a.getD i d := by
  rw [List.getD_eq_getElem?_getD, List.getElem?_append_left h, List.getD_eq_getElem?_getD]
theorem getD_snoc_last {α : Type} (a : List α) (x d : α) : (a ++ [x]).getD a.length d = x := by
  rw [List.getD_eq_getElem?_getD, List.getElem?_append_right (Nat.le_refl _), Nat.sub_self]
  rfl
theorem heldL_append {w w' : World} {o v' v : Value} {vs : List Value} {L : List LineT} {l : LineT} (h : HeldL w o vs L) (hg : w.grownBy w' o.ownBlock) (hat : v'.ownBlock = o.ownBlock ∨ v'.ownBlock = some w.heap.size)
    (hv : IsStrs w v l.2) (hvo : 0 < l.2.length → blkOf v ≠ o.ownBlock) : HeldL w' v' (vs ++ [v]) (L ++ [l]) := by
  have key : ∀ (u : Value) (q : List ByteArray), IsStrs w u q → (0 < q.length → blkOf u ≠ o.ownBlock) → IsStrs w' u q ∧ (0 < q.length → blkOf u ≠ v'.ownBlock) := fun u q hu hq =>
    ⟨hu.grown hg hq, fun hne => by
      rcases hat with h | h
      · rw [h]; exact hq hne
      · obtain ⟨b, hb, hlt⟩ := hu.blk_lt hne
        rw [h, hb]
        intro e
        simp at e
        omega⟩
  refine ⟨by simp [h.1], fun j hj => ?_⟩
  simp only [List.length_append, List.length_singleton] at hj
  rcases Nat.lt_or_ge j L.length with h1 | h1
  · rw [getD_snoc_left _ _ _ _ h1, getD_snoc_left _ _ _ _ (by rw [h.1]; exact h1)]; exact key _ _ (h.2 j h1).1 (h.2 j h1).2
  · have e : j = L.length := by omega
    subst e
    rw [getD_snoc_last, ← h.1, getD_snoc_last]; exact key _ _ hv hvo
theorem heldL_lines {w : World} {o : Value} {vs : List Value} {L : List LineT} (h : HeldL w o vs L) (ho : IsRow 2 w o L.length (lineCells L vs)) : IsLines w o vs L := ⟨h.1, ho, fun i hi => (h.2 i hi).1⟩

/-- One line, laid down by the call. -/
theorem one_line (w : World) (x : Int) (v : Value) (t g : Nat) (hg : g = w.heap.size) : IsRow 2 (w.alloc (.cells #[.int .i64 x, v] t)) (.slice (some ⟨g, 0, none⟩) 1 1) 1 [.int .i64 x, v] := by
  subst hg
  exact IsRow.fresh w [.int .i64 x, v] 2 1 t 1 rfl (by omega) (by unfold maxLen; omega) (by omega)

/-- The bytes of lines as a text. -/
def wordsL (ws : List ByteArray) : List UInt8 := joinL 32 (ws.map fun s => s.data.toList)
def textL (L : List LineT) : List UInt8 := L.flatMap fun l => wordsL l.2 ++ [10]
theorem textL_snoc (L : List LineT) (l : LineT) : textL (L ++ [l]) = textL L ++ (wordsL l.2 ++ [10]) := by unfold textL; simp
theorem textL_take (L : List LineT) (i : Nat) (h : i < L.length) : textL (L.take (i + 1)) = textL (L.take i) ++ (wordsL (L.getD i (0, [])).2 ++ [10]) := by
  rw [List.take_succ_eq_append_getElem h, textL_snoc]
  simp [h]
theorem textL_le (L : List LineT) (i : Nat) : (textL (L.take i)).length ≤ (textL L).length := by
  have h : textL L = textL (L.take i) ++ textL (L.drop i) := by unfold textL; rw [← List.flatMap_append, List.take_append_drop]
  rw [h, List.length_append]; omega
theorem wordsL_take (ws : List ByteArray) (k : Nat) (h : k < ws.length) : wordsL (ws.take (k + 1)) = wordsL (ws.take k) ++ ((if k = 0 then [] else [32]) ++ (ws.getD k ByteArray.empty).data.toList) := by
  unfold wordsL
  rw [List.map_take, List.map_take, joinL_step 32 _ k (by simpa using h)]
  simp [h]
theorem wordsL_le (ws : List ByteArray) (k : Nat) : (wordsL (ws.take k)).length ≤ (wordsL ws).length := by
  unfold wordsL
  rw [List.map_take]
  exact joinL_take_le 32 _ k

theorem mkS_append (a : List UInt8) (x : ByteArray) : mkS a ++ x = mkS (a ++ x.data.toList) := by
  apply ByteArray.ext
  unfold mkS
  simp
theorem mkS_size (a : List UInt8) : (mkS a).size = a.length := rfl

end Go.Proofs.YtomhmndpjkfppaaDoor

/-
  The plain mathematics of chapter 5, further: what is joined is split as it was. No program stands in it.
-/
namespace Go.Proofs.YtomhmndpjkfppaaDoor

/-- No byte c in it. -/
def Without (c : Int) (l : List UInt8) : Prop := ∀ b ∈ l, (b.toNat : Int) ≠ c

theorem goL_sep (c : Int) (d r cur : List UInt8) (b : UInt8) (hd : Without c d) (hb : (b.toNat : Int) = c) : goL c cur (d ++ b :: r) = (cur ++ d) :: goL c [] r := by
  induction d generalizing cur with
  | nil => rw [List.nil_append, goL, if_pos hb, List.append_nil]
  | cons x d ih =>
    rw [List.cons_append, goL, if_neg (hd x (by simp)), ih _ (fun y hy => hd y (by simp [hy]))]
    simp
theorem goL_none (c : Int) (d cur : List UInt8) (hd : Without c d) : goL c cur d = [cur ++ d] := by
  induction d generalizing cur with
  | nil => simp [goL]
  | cons x d ih =>
    rw [goL, if_neg (hd x (by simp)), ih _ (fun y hy => hd y (by simp [hy]))]
    simp
theorem goL_lines (c : Int) (b : UInt8) (hb : (b.toNat : Int) = c) (ls : List (List UInt8)) (r : List UInt8) (h : ∀ d ∈ ls, Without c d) : goL c [] (ls.flatMap (fun d => d ++ [b]) ++ r) = ls ++ goL c [] r := by
  induction ls with
  | nil => rfl
  | cons d ls ih =>
    have e : (List.flatMap (fun d => d ++ [b]) (d :: ls)) ++ r = d ++ b :: (List.flatMap (fun d => d ++ [b]) ls ++ r) := by simp
    rw [e, goL_sep c d _ [] b (h d (by simp)) hb, ih (fun x hx => h x (by simp [hx]))]
    simp
theorem goL_join (b : UInt8) (ws : List (List UInt8)) (hne : ws ≠ []) (h : ∀ d ∈ ws, Without (b.toNat : Int) d) : goL (b.toNat : Int) [] (joinL b ws) = ws := by
  cases ws with
  | nil => exact absurd rfl hne
  | cons p r =>
    clear hne
    induction r generalizing p with
    | nil => simp only [joinL, List.flatMap_nil, List.append_nil]; rw [goL_none _ _ _ (h p (by simp))]; rfl
    | cons q r ih =>
      have e : joinL b (p :: q :: r) = p ++ b :: joinL b (q :: r) := by simp [joinL]
      rw [e, goL_sep _ _ _ [] b (h p (by simp)) rfl, ih q (fun d hd => h d (by simp at hd ⊢; right; exact hd))]
      rfl

/-- A word that may stand in a line. -/
def Clean (s : ByteArray) : Prop := 0 < s.size ∧ ∀ b ∈ s.data.toList, 33 ≤ b.toNat ∧ b.toNat ≤ 126 ∧ b.toNat ≠ 35

theorem clean_name {s : ByteArray} (h : nameOK s = true) : Clean s ∧ s.size ≤ 12 := by
  unfold nameOK at h
  simp only [Bool.and_eq_true, decide_eq_true_eq, Bool.not_eq_true', decide_eq_false_iff_not] at h
  obtain ⟨⟨⟨h1, h2⟩, _⟩, h4⟩ := h
  refine ⟨⟨by omega, fun b hb => ?_⟩, h2⟩
  have := List.all_eq_true.1 h4 b hb
  unfold nameB at this
  simp only [decide_eq_true_eq] at this
  omega

theorem clean_without {s : ByteArray} (h : Clean s) (c : Int) (hc : c ≤ 32 ∨ c = 35) : Without c s.data.toList := fun b hb => by
  have := h.2 b hb
  omega

theorem wordsL_bytes {ws : List ByteArray} (h : ∀ s ∈ ws, Clean s) : ∀ b ∈ wordsL ws, 32 ≤ b.toNat ∧ b.toNat ≤ 126 ∧ b.toNat ≠ 35 := by
  intro b hb
  unfold wordsL at hb
  cases ws with
  | nil => simp [joinL] at hb
  | cons s r =>
    simp only [List.map_cons, joinL, List.mem_append, List.mem_flatMap, List.mem_map] at hb
    rcases hb with hb | ⟨_, ⟨q, hq, rfl⟩, hb⟩
    · have := (h s (by simp)).2 b hb; omega
    · rcases List.mem_cons.1 hb with rfl | hb
      · decide
      · have := (h q (by simp [hq])).2 b hb; omega

/-- The words of a line of clean words. -/
theorem words_back {ws : List ByteArray} (hne : ws ≠ []) (h : ∀ s ∈ ws, Clean s) : wordsOf (mkS (wordsL ws)) = ws := by
  unfold wordsOf
  have e1 : (mkS (wordsL ws)).data.toList = wordsL ws := by unfold mkS; simp
  rw [e1, cutH_all (fun b hb => (wordsL_bytes h b hb).2.2)]
  unfold partsV
  rw [e1]
  unfold wordsL
  have hj : goL 32 [] (joinL 32 (ws.map fun s => s.data.toList)) = ws.map fun s => s.data.toList := goL_join 32 _ (by simpa using hne) (fun d hd => by
    simp only [List.mem_map] at hd
    obtain ⟨s, hs, rfl⟩ := hd
    exact clean_without (h s hs) _ (.inl (by decide)))
  rw [hj, List.map_map, List.filter_eq_self.2]
  · conv => rhs; rw [← List.map_id ws]
    apply List.map_congr_left
    intro s _
    exact mkS_data s
  · intro x hx
    simp only [List.mem_map, Function.comp] at hx
    obtain ⟨s, hs, rfl⟩ := hx
    rw [mkS_data]
    have := (h s hs).1
    simp only [ne_eq, decide_not, Bool.not_eq_true', decide_eq_false_iff_not]
    omega

/-- Rows of words, numbered from i + 1 on. -/
def numberedL (i : Nat) : List (List ByteArray) → List LineT
  | [] => []
  | ws :: r => (((i + 1 : Nat) : Int), ws) :: numberedL (i + 1) r

theorem linesOf_rows (i : Nat) (rows : List (List ByteArray)) (h : ∀ ws ∈ rows, ws ≠ [] ∧ ∀ s ∈ ws, Clean s) : linesOf i (rows.map fun ws => mkS (wordsL ws)) = numberedL i rows := by
  induction rows generalizing i with
  | nil => rfl
  | cons ws r ih =>
    obtain ⟨h1, h2⟩ := h ws (by simp)
    rw [List.map_cons, linesOf, words_back h1 h2, if_neg h1, ih (i + 1) (fun x hx => h x (by simp [hx]))]
    rfl

theorem textL_numbered (i : Nat) (rows : List (List ByteArray)) : textL (numberedL i rows) = (rows.map wordsL).flatMap fun d => d ++ [10] := by
  induction rows generalizing i with
  | nil => rfl
  | cons ws r ih =>
    have e : textL (numberedL i (ws :: r)) = (wordsL ws ++ [10]) ++ textL (numberedL (i + 1) r) := by simp [textL, numberedL]
    rw [e, ih]
    simp

/-- What is joined is split as it was; behind it may stand a rest without line feeds that has no words. -/
theorem split_back (rows : List (List ByteArray)) (rest : List UInt8) (h : ∀ ws ∈ rows, (ws ≠ [] ∧ ∀ s ∈ ws, Clean s) ∧ (wordsL ws).length ≤ 200) (hr : Without 10 rest) (hro : lineOK (mkS rest) = true) (hrw : wordsOf (mkS rest) = [])
    (hsz : (textL (numberedL 0 rows) ++ rest).length ≤ 4000) : splitV (mkS (textL (numberedL 0 rows) ++ rest)) = (numberedL 0 rows, 0, 0) := by
  have e1 : partsV (mkS (textL (numberedL 0 rows) ++ rest)) 10 = (rows.map fun ws => mkS (wordsL ws)) ++ [mkS rest] := by
    unfold partsV
    have e : (mkS (textL (numberedL 0 rows) ++ rest)).data.toList = textL (numberedL 0 rows) ++ rest := by unfold mkS; simp
    rw [e, textL_numbered, goL_lines 10 10 rfl _ _ (fun d hd => by
      simp only [List.mem_map] at hd
      obtain ⟨ws, hws, rfl⟩ := hd
      intro b hb
      have := wordsL_bytes (h ws hws).1.2 b hb
      omega), goL_none 10 rest [] hr]
    simp
  have e2 := split_good (s := mkS (textL (numberedL 0 rows) ++ rest)) (by rw [mkS_data']; omega) (fun j hj => by
    rw [e1] at hj ⊢
    rcases Nat.lt_or_ge j (rows.map fun ws => mkS (wordsL ws)).length with h1 | h1
    · rw [getD_snoc_left _ _ _ _ h1]
      have h2 : j < rows.length := by simpa using h1
      have e3 : (rows.map fun ws => mkS (wordsL ws)).getD j ByteArray.empty = mkS (wordsL rows[j]) := by simp [h2]
      rw [e3]
      have hm := h rows[j] (List.getElem_mem h2)
      refine lineOK_end (by rw [mkS_data']; exact hm.2) (fun b hb => ?_)
      have e4 : (mkS (wordsL rows[j])).data.toList = wordsL rows[j] := by unfold mkS; simp
      rw [e4] at hb
      have := wordsL_bytes hm.1.2 b hb
      unfold lineB
      simp only [decide_eq_true_eq]
      omega
    · have : j = (rows.map fun ws => mkS (wordsL ws)).length := by simp at hj h1 ⊢; omega
      rw [this, getD_snoc_last]; exact hro)
  rw [e2, e1, linesOf_append, linesOf_rows 0 rows (fun ws hws => (h ws hws).1)]
  simp [linesOf, hrw]

end Go.Proofs.YtomhmndpjkfppaaDoor

/-
  Numbers written in digits are read as they are. No program stands in it.
-/
namespace Go.Proofs.YtomhmndpjkfppaaDoor

def dig (n : Nat) : UInt8 := UInt8.ofNat (48 + n % 10)
theorem dig_nat (n : Nat) : (dig n).toNat = 48 + n % 10 := by unfold dig; rw [UInt8.toNat_ofNat_of_lt' (by simp [UInt8.size]; omega)]
def digL (n : Nat) : List UInt8 := if n < 10 then [dig n] else digL (n / 10) ++ [dig n]
termination_by n
decreasing_by omega
theorem digL_small {n : Nat} (h : n < 10) : digL n = [dig n] := by rw [digL, if_pos h]
theorem digL_big {n : Nat} (h : ¬ n < 10) : digL n = digL (n / 10) ++ [dig n] := by rw [digL, if_neg h]
theorem digL_pos (n : Nat) : 0 < (digL n).length := by
  by_cases h : n < 10
  · rw [digL_small h]; simp
  · rw [digL_big h]; simp
theorem digL_digits (n : Nat) : ∀ b ∈ digL n, isDig b = true := by
  induction n using Nat.strongRecOn with
  | _ n ih =>
    have hd : isDig (dig n) = true := by unfold isDig; rw [dig_nat, decide_eq_true_eq]; omega
    by_cases h : n < 10
    · rw [digL_small h]; intro b hb; rw [List.mem_singleton] at hb; rw [hb]; exact hd
    · rw [digL_big h]
      intro b hb
      rcases List.mem_append.1 hb with h1 | h1
      · exact ih (n / 10) (by omega) b h1
      · rw [List.mem_singleton] at h1; rw [h1]; exact hd
theorem digL_num (n : Nat) : numL (digL n) = n := by
  induction n using Nat.strongRecOn with
  | _ n ih =>
    by_cases h : n < 10
    · rw [digL_small h]
      show 0 * 10 + ((dig n).toNat - 48) = n
      rw [dig_nat]; omega
    · rw [digL_big h, numL_snoc, ih (n / 10) (by omega), dig_nat]; omega
theorem digL_len (n k : Nat) (hk : 0 < k) (h : n < 10 ^ k) : (digL n).length ≤ k := by
  induction k generalizing n with
  | zero => omega
  | succ k ih =>
    by_cases h1 : n < 10
    · rw [digL_small h1]; simp
    · rw [digL_big h1, List.length_append, List.length_singleton]
      rcases Nat.eq_zero_or_pos k with h0 | h0
      · subst h0; simp at h; omega
      · have := ih (n / 10) h0 (by rw [Nat.pow_succ] at h; omega)
        omega
theorem digL_head (n : Nat) (h : 10 ≤ n) : ∃ b r, digL n = b :: r ∧ b.toNat ≠ 48 := by
  induction n using Nat.strongRecOn with
  | _ n ih =>
    rw [digL_big (by omega)]
    by_cases h1 : n / 10 < 10
    · rw [digL_small h1]
      exact ⟨_, _, rfl, by rw [dig_nat]; omega⟩
    · obtain ⟨b, r, e, hb⟩ := ih (n / 10) (by omega) (by omega)
      exact ⟨b, r ++ [dig n], by rw [e]; rfl, hb⟩

theorem mkS_list (l : List UInt8) : (mkS l).data.toList = l := by unfold mkS; simp

theorem num_digits (N : Nat) (hN : N ≤ 1000000) : numOK (mkS (digL N)) = true ∧ numV (mkS (digL N)) = (N : Int) := by
  have hl := digL_len N 7 (by omega) (by omega)
  have hp := digL_pos N
  have h1 : numOK (mkS (digL N)) = true := by
    unfold numOK
    rw [mkS_list, List.all_eq_true.2 (digL_digits N), digL_num]
    have e : (decide (1 < (mkS (digL N)).size) && decide ((digL N).head? = some 48)) = false := by
      rw [Bool.and_eq_false_iff]
      by_cases h : N < 10
      · left; rw [digL_small h]; rfl
      · right
        obtain ⟨b, r, e, hb⟩ := digL_head N (by omega)
        rw [e, decide_eq_false_iff_not]
        intro h2
        simp at h2
        rw [h2] at hb
        exact hb rfl
    rw [e]
    have e2 : (mkS (digL N)).size = (digL N).length := rfl
    rw [e2]
    simp only [Bool.not_false, Bool.and_true, Bool.and_eq_true, decide_eq_true_eq]
    exact ⟨⟨hp, hl⟩, hN⟩
  exact ⟨h1, by unfold numV; rw [h1, mkS_list, digL_num]; rfl⟩

end Go.Proofs.YtomhmndpjkfppaaDoor

/-
  The plain mathematics of chapter 6, further: what is written is read as it was. No program stands in it.
-/
namespace Go.Proofs.YtomhmndpjkfppaaDoor

theorem dec_digL (n : Nat) : Go.Lib.decDigits n = digL n := by
  induction n using Nat.strongRecOn with
  | _ n ih =>
    by_cases h : n < 10
    · rw [Go.Lib.decDigits, dif_pos h, digL_small h]; unfold dig; rw [Nat.mod_eq_of_lt h]
    · rw [Go.Lib.decDigits, dif_neg h, ih (n / 10) (by omega), digL_big h]; rfl
theorem digC_nat (n : Int) (h0 : 0 ≤ n) : digC n = mkS (digL n.toNat) := by
  unfold digC Go.Lib.itoa
  rw [if_neg (by omega), dec_digL]
theorem digC_read (n : Int) (h0 : 0 ≤ n) (h1 : n ≤ 1000000) : numOK (digC n) = true ∧ numV (digC n) = n := by
  rw [digC_nat n h0]
  have := num_digits n.toNat (by omega)
  exact ⟨this.1, by rw [this.2]; omega⟩
theorem digC_clean (n : Int) (h0 : 0 ≤ n) (h1 : n ≤ 1000000) : Clean (digC n) ∧ (digC n).size ≤ 12 := by
  rw [digC_nat n h0]
  refine ⟨⟨digL_pos _, fun b hb => ?_⟩, ?_⟩
  · rw [mkS_list] at hb
    have := digL_digits _ b hb
    unfold isDig at this
    simp only [decide_eq_true_eq] at this
    omega
  · have := digL_len n.toNat 7 (by omega) (by omega)
    show (digL n.toNat).length ≤ 12
    omega

instance (s : ByteArray) : Decidable (Clean s) := by unfold Clean; infer_instance
theorem name_clean (i : Nat) (hi : i < 23) : Clean (nameC i) ∧ (nameC i).size ≤ 12 := by
  have h : ∀ k : Fin 23, Clean (nameC k.1) ∧ (nameC k.1).size ≤ 12 := by decide +kernel
  exact h ⟨i, hi⟩
theorem bounds_tab (i : Nat) (hi : i < 23) : 0 ≤ lowC i ∧ highC i ≤ 10000 := by
  have h : ∀ k : Fin 23, 0 ≤ lowC k.1 ∧ highC k.1 ≤ 10000 := by decide +kernel
  exact h ⟨i, hi⟩
theorem find_name (i : Nat) (hi : i < 23) : findC (nameC i) = some i := by
  have h : ∀ k : Fin 23, findC (nameC k.1) = some k.1 := by decide +kernel
  exact h ⟨i, hi⟩

theorem fits_bounds {n : List Int} {i : Nat} (h : fitsC n i = true) : lowC i ≤ n.getD i 0 ∧ n.getD i 0 ≤ highC i := of_decide_eq_true h
theorem empty_of_size {z : ByteArray} (h : z.size = 0) : z = ByteArray.empty := by
  apply ByteArray.ext
  exact Array.eq_empty_of_size_eq_zero h

theorem val_clean {n : List Int} {z : ByteArray} (i : Nat) (hi : i < 23) (hf : fitsC n i = true) (hz : z.size = 0 ∨ nameOK z = true) : Clean (valW n z i) ∧ (valW n z i).size ≤ 12 := by
  have hb := fits_bounds hf
  unfold valW
  split
  · split
    · decide
    · rcases hz with h | h
      · contradiction
      · exact clean_name h
  · split
    · rename_i h20
      subst h20
      have e1 : lowC 20 = 1 := rfl
      have e2 : highC 20 = 3 := rfl
      rw [e1, e2] at hb
      have hc : (n.getD 20 0 - 1).toNat = 0 ∨ (n.getD 20 0 - 1).toNat = 1 ∨ (n.getD 20 0 - 1).toNat = 2 := by omega
      rcases hc with e | e | e <;> rw [e] <;> decide
    · split
      · rename_i h15
        have e12 : lowC i = 0 ∧ highC i = 1 := by rcases h15 with rfl | rfl <;> exact ⟨rfl, rfl⟩
        rw [e12.1, e12.2] at hb
        have hc : (n.getD i 0).toNat = 0 ∨ (n.getD i 0).toNat = 1 := by omega
        rcases hc with e | e <;> rw [e] <;> decide
      · have := bounds_tab i hi
        exact digC_clean _ (by omega) (by omega)
theorem read_val {n : List Int} {z : ByteArray} (i : Nat) (hi : i < 23) (hf : fitsC n i = true) (hz : z.size = 0 ∨ nameOK z = true) :
    readC i (valW n z i) = some (if i = 21 then 0 else n.getD i 0, if i = 21 then z else ByteArray.empty) := by
  have hb := fits_bounds hf
  by_cases h21 : i = 21
  · subst h21
    unfold valW readC
    simp only [if_true]
    by_cases h0 : z.size = 0
    · rw [if_pos h0, if_pos rfl, empty_of_size h0]
    · have hn : nameOK z = true := hz.resolve_left h0
      rw [if_neg h0, if_neg ?_, if_pos hn]
      intro e
      rw [e] at hn
      exact absurd hn (by decide)
  · unfold valW readC
    simp only [if_neg h21]
    by_cases h20 : i = 20
    · subst h20
      simp only [if_true]
      have e1 : lowC 20 = 1 := rfl
      have e2 : highC 20 = 3 := rfl
      rw [e1, e2] at hb
      have hc : n.getD 20 0 = 1 ∨ n.getD 20 0 = 2 ∨ n.getD 20 0 = 3 := by omega
      rcases hc with e | e | e <;> rw [e] <;> decide
    · simp only [if_neg h20]
      by_cases h15 : i = 15 ∨ i = 22
      · simp only [if_pos h15]
        have e12 : lowC i = 0 ∧ highC i = 1 := by rcases h15 with rfl | rfl <;> exact ⟨rfl, rfl⟩
        rw [e12.1, e12.2] at hb
        have hc : n.getD i 0 = 0 ∨ n.getD i 0 = 1 := by omega
        rcases hc with e | e <;> rw [e] <;> decide
      · simp only [if_neg h15]
        have h3 := bounds_tab i hi
        obtain ⟨r1, r2⟩ := digC_read (n.getD i 0) (by omega) (by omega)
        rw [r1, r2, Bool.true_and, if_pos (decide_eq_true hb)]

/-- One name and its value, read. -/
def putC (n : List Int) (z : ByteArray) (r : Read) (i : Nat) : Read := ⟨r.n.set i (if i = 21 then 0 else n.getD i 0), if i = 21 then z else r.z, r.seen.set i true⟩
def pairC (n : List Int) (z : ByteArray) (i : Nat) : List ByteArray := [nameC i, valW n z i]
theorem step_line {r : Read} {n : List Int} {z : ByteArray} (i : Nat) (hi : i < 23) (hf : fitsC n i = true) (hz : z.size = 0 ∨ nameOK z = true) (hs : r.seen.getD i false = false) : stepC r (pairC n z i) = some (putC n z r i) := by
  unfold stepC pairC putC
  simp only [find_name i hi, hs, read_val i hi hf hz]
  by_cases h : i = 21
  · simp [h]
  · simp [h]
theorem step_seen {r : Read} {n : List Int} {z : ByteArray} (i : Nat) (hi : i < 23) (hs : r.seen.getD i false = true) : stepC r (pairC n z i) = none := by
  unfold stepC pairC
  simp only [find_name i hi, hs, if_true]

def putAll (n : List Int) (z : ByteArray) (r : Read) (p : List Nat) : Read := p.foldl (putC n z) r
theorem put_seen (n : List Int) (z : ByteArray) (r : Read) (i j : Nat) (hi : i < r.seen.length) : (putC n z r i).seen.getD j false = (decide (i = j) || r.seen.getD j false) := by
  unfold putC
  simp only [List.getD_eq_getElem?_getD, List.getElem?_set]
  by_cases h : i = j
  · subst h; simp [hi]
  · simp [h]
theorem putAll_seen (n : List Int) (z : ByteArray) (p : List Nat) (r : Read) (hl : 23 ≤ r.seen.length) (hp : ∀ i ∈ p, i < 23) (j : Nat) : (putAll n z r p).seen.getD j false = (decide (j ∈ p) || r.seen.getD j false) ∧ (putAll n z r p).seen.length = r.seen.length := by
  induction p generalizing r with
  | nil => exact ⟨by simp [putAll], rfl⟩
  | cons i p ih =>
    have hi := hp i (by simp)
    have e : putAll n z r (i :: p) = putAll n z (putC n z r i) p := rfl
    have hl2 : (putC n z r i).seen.length = r.seen.length := by unfold putC; simp
    obtain ⟨h1, h2⟩ := ih (putC n z r i) (by omega) (fun k hk => hp k (by simp [hk]))
    rw [e]
    refine ⟨?_, by omega⟩
    rw [h1, put_seen n z r i j (by omega)]
    by_cases h : i = j
    · subst h; simp
    · have : ¬ j = i := fun e => h e.symm
      simp [h, this]
theorem putAll_n (n : List Int) (z : ByteArray) (p : List Nat) (r : Read) (hl : r.n.length = 23) (hp : ∀ i ∈ p, i < 23) (j : Nat) : (putAll n z r p).n.getD j 0 = (if j ∈ p then (if j = 21 then 0 else n.getD j 0) else r.n.getD j 0) ∧ (putAll n z r p).n.length = 23 := by
  induction p generalizing r with
  | nil => exact ⟨by simp [putAll], hl⟩
  | cons i p ih =>
    have hi := hp i (by simp)
    have e : putAll n z r (i :: p) = putAll n z (putC n z r i) p := rfl
    have hl2 : (putC n z r i).n.length = 23 := by unfold putC; simp [hl]
    obtain ⟨h1, h2⟩ := ih (putC n z r i) hl2 (fun k hk => hp k (by simp [hk]))
    rw [e]
    refine ⟨?_, h2⟩
    rw [h1]
    by_cases hjp : j ∈ p
    · simp [hjp]
    · rw [if_neg hjp]
      unfold putC
      simp only [List.getD_eq_getElem?_getD, List.getElem?_set]
      by_cases h : i = j
      · subst h
        have hlt : i < r.n.length := by omega
        simp [hlt]
      · have : ¬ j = i := fun e => h e.symm
        simp [h, this, hjp]
theorem putAll_z (n : List Int) (z : ByteArray) (p : List Nat) (r : Read) : (putAll n z r p).z = if 21 ∈ p then z else r.z := by
  induction p generalizing r with
  | nil => simp [putAll]
  | cons i p ih =>
    have e : putAll n z r (i :: p) = putAll n z (putC n z r i) p := rfl
    rw [e, ih]
    unfold putC
    by_cases h : 21 ∈ p
    · simp [h]
    · by_cases h2 : i = 21
      · subst h2; simp
      · have : ¬ 21 = i := fun e => h2 e.symm
        simp [h, h2, this]

/-- Lines of different names, one by one. -/
theorem run_lines {n : List Int} {z : ByteArray} (hz : z.size = 0 ∨ nameOK z = true) (p : List Nat) (L rest : List (Int × List ByteArray)) (r : Read) (hL : L.map (·.2) = p.map (pairC n z)) (hp : ∀ i ∈ p, i < 23) (hd : p.Nodup) (hf : ∀ i ∈ p, fitsC n i = true)
    (hl : 23 ≤ r.seen.length) (hs : ∀ i ∈ p, r.seen.getD i false = false) : runC r (L ++ rest) = runC (putAll n z r p) rest := by
  induction p generalizing L r with
  | nil =>
    have : L = [] := by simpa using hL
    subst this
    rfl
  | cons i p ih =>
    cases L with
    | nil => simp at hL
    | cons l L =>
      simp only [List.map_cons, List.cons.injEq] at hL
      rw [List.cons_append, runC, hL.1, step_line i (hp i (by simp)) (hf i (by simp)) hz (hs i (by simp))]
      simp only
      have hd2 := List.nodup_cons.1 hd
      rw [ih L (putC n z r i) hL.2 (fun k hk => hp k (by simp [hk])) hd2.2 (fun k hk => hf k (by simp [hk])) (by unfold putC; simpa using hl) (fun k hk => ?_)]
      · rfl
      · rw [put_seen n z r i k (by have := hp i (by simp); omega), hs k (by simp [hk])]
        have : i ≠ k := fun e => hd2.1 (e ▸ hk)
        simp [this]

theorem numberedL_words (i : Nat) (rows : List (List ByteArray)) : (numberedL i rows).map (·.2) = rows := by
  induction rows generalizing i with
  | nil => rfl
  | cons x r ih => rw [numberedL, List.map_cons, ih]

theorem may_parts {c : Cfg} (h : mayC c = true) : (∀ i, i < 23 → fitsC c.nums i = true) ∧ (c.zone.size = 0 ∨ nameOK c.zone = true) := by
  unfold mayC at h
  simp only [Bool.and_eq_true, List.all_eq_true, List.mem_range, Bool.or_eq_true, decide_eq_true_eq] at h
  exact h
theorem may_of {c : Cfg} (h1 : ∀ i, i < 23 → fitsC c.nums i = true) (h2 : c.zone.size = 0 ∨ nameOK c.zone = true) : mayC c = true := by
  unfold mayC
  simp only [Bool.and_eq_true, List.all_eq_true, List.mem_range, Bool.or_eq_true, decide_eq_true_eq]
  exact ⟨h1, h2⟩
theorem ofNums_nums (c : Cfg) : ofNums c.nums c.zone = c := by
  obtain ⟨_, _, _, _, _, _, _, _, _, _, _, _, _, _, _, one, _, _, _, _, _, _, fb⟩ := c
  cases one <;> cases fb <;> rfl
theorem nums_ext {a b : List Int} (ha : a.length = 23) (hb : b.length = 23) (h : ∀ i, i < 23 → a.getD i 0 = b.getD i 0) : a = b := by
  apply List.ext_getElem (by omega)
  intro i h1 h2
  have := h i (by omega)
  simpa [List.getD_eq_getElem?_getD, List.getElem?_eq_getElem h1, List.getElem?_eq_getElem h2] using this
theorem nums_21 (c : Cfg) : c.nums.getD 21 0 = 0 := rfl

/-- All the names, in whatever order: the configuration. -/
theorem putAll_whole (c : Cfg) (p : List Nat) (hp : ∀ i ∈ p, i < 23) (hall : ∀ i, i < 23 → i ∈ p) : (putAll c.nums c.zone read0 p).n = c.nums ∧ (putAll c.nums c.zone read0 p).z = c.zone := by
  refine ⟨nums_ext (putAll_n _ _ p read0 rfl hp 0).2 rfl fun i hi => ?_, ?_⟩
  · rw [(putAll_n _ _ p read0 rfl hp i).1, if_pos (hall i hi)]
    split
    · rename_i h; rw [h]; exact (nums_21 c).symm
    · rfl
  · rw [putAll_z, if_pos (hall 21 (by omega))]

theorem wordsL_two (a b : ByteArray) : wordsL [a, b] = a.data.toList ++ 32 :: b.data.toList := by unfold wordsL; simp [joinL]
/-- The text of some of the lines. -/
def someC (n : List Int) (z : ByteArray) (p : List Nat) : List UInt8 := p.flatMap fun i => lineC n z i ++ [10]
theorem someC_text (n : List Int) (z : ByteArray) (p : List Nat) : someC n z p = textL (numberedL 0 (p.map (pairC n z))) := by
  rw [textL_numbered, List.map_map]
  unfold someC
  rw [List.flatMap_map]
  congr 1
  funext i
  simp only [Function.comp, pairC, wordsL_two, lineC]
theorem line_short {n : List Int} {z : ByteArray} (i : Nat) (hi : i < 23) (hf : fitsC n i = true) (hz : z.size = 0 ∨ nameOK z = true) : (lineC n z i).length ≤ 25 := by
  have h1 : (nameC i).data.toList.length ≤ 12 := (name_clean i hi).2
  have h2 : (valW n z i).data.toList.length ≤ 12 := (val_clean i hi hf hz).2
  unfold lineC
  rw [List.length_append, List.length_cons]
  omega
theorem someC_length {n : List Int} {z : ByteArray} (hz : z.size = 0 ∨ nameOK z = true) (p : List Nat) (hp : ∀ i ∈ p, i < 23) (hf : ∀ i ∈ p, fitsC n i = true) : (someC n z p).length ≤ p.length * 26 := by
  induction p with
  | nil => simp [someC]
  | cons i p ih =>
    have e : someC n z (i :: p) = (lineC n z i ++ [10]) ++ someC n z p := by simp [someC]
    have h1 := ih (fun k hk => hp k (by simp [hk])) (fun k hk => hf k (by simp [hk]))
    have h2 := line_short i (hp i (by simp)) (hf i (by simp)) hz
    rw [e]
    simp only [List.length_append, List.length_cons, List.length_nil]
    omega
theorem rows_clean {n : List Int} {z : ByteArray} (hz : z.size = 0 ∨ nameOK z = true) (p : List Nat) (hp : ∀ i ∈ p, i < 23) (hf : ∀ i ∈ p, fitsC n i = true) : ∀ ws ∈ p.map (pairC n z), (ws ≠ [] ∧ ∀ s ∈ ws, Clean s) ∧ (wordsL ws).length ≤ 200 := by
  intro ws hws
  simp only [List.mem_map] at hws
  obtain ⟨i, hi, rfl⟩ := hws
  have h1 := name_clean i (hp i hi)
  have h2 := val_clean i (hp i hi) (hf i hi) hz
  refine ⟨⟨by simp [pairC], fun s hs => ?_⟩, ?_⟩
  · simp only [pairC, List.mem_cons, List.not_mem_nil, or_false] at hs
    rcases hs with rfl | rfl
    · exact h1.1
    · exact h2.1
  · have := line_short i (hp i hi) (hf i hi) hz
    unfold pairC
    rw [wordsL_two]
    unfold lineC at this
    omega
theorem split_some {n : List Int} {z : ByteArray} (hz : z.size = 0 ∨ nameOK z = true) (p : List Nat) (hp : ∀ i ∈ p, i < 23) (hf : ∀ i ∈ p, fitsC n i = true) (hl : p.length ≤ 100) : splitV (mkS (someC n z p)) = (numberedL 0 (p.map (pairC n z)), 0, 0) := by
  have h1 := someC_length hz p hp hf
  have := split_back (p.map (pairC n z)) [] (rows_clean hz p hp hf) (fun b hb => by simp at hb) (by decide) (by decide) (by rw [List.append_nil, ← someC_text]; omega)
  rw [List.append_nil, ← someC_text] at this
  exact this
theorem parse_some {n : List Int} {z : ByteArray} (hz : z.size = 0 ∨ nameOK z = true) (p : List Nat) (hp : ∀ i ∈ p, i < 23) (hf : ∀ i ∈ p, fitsC n i = true) (hd : p.Nodup) (hl : p.length ≤ 100) : parseV (mkS (someC n z p)) = (ofNums (putAll n z read0 p).n (putAll n z read0 p).z, 0, 0) := by
  unfold parseV
  rw [split_some hz p hp hf hl]
  simp only [if_true]
  have := run_lines hz p (numberedL 0 (p.map (pairC n z))) [] read0 (numberedL_words 0 _) hp hd hf (by decide) (fun i hi => by
    have h := hp i hi
    have h2 : ∀ k : Fin 23, read0.seen.getD k.1 false = false := by decide
    exact h2 ⟨i, h⟩)
  rw [List.append_nil] at this
  rw [this]
  rfl

theorem textC_may {c : Cfg} (h : mayC c = true) : textC c = someC c.nums c.zone (List.range 23) := by unfold textC someC; rw [if_pos h]
/-- What is written is read as it was. -/
theorem parse_text {c : Cfg} (h : mayC c = true) : parseV (mkS (textC c)) = (c, 0, 0) := by
  obtain ⟨h1, h2⟩ := may_parts h
  rw [textC_may h, parse_some h2 _ (fun i hi => by simpa using hi) (fun i hi => h1 i (by simpa using hi)) List.nodup_range (by simp)]
  obtain ⟨e1, e2⟩ := putAll_whole c (List.range 23) (fun i hi => by simpa using hi) (fun i hi => by simpa using hi)
  rw [e1, e2, ofNums_nums]
theorem text_inj {c d : Cfg} (hc : mayC c = true) (hd : mayC d = true) : mkS (textC c) = mkS (textC d) ↔ c = d := by
  constructor
  · intro e
    have h1 := parse_text hc
    rw [e, parse_text hd] at h1
    exact (Prod.ext_iff.1 h1).1.symm
  · rintro rfl; rfl

end Go.Proofs.YtomhmndpjkfppaaDoor

/-
  The plain mathematics of chapter 6, further: whatever is read may be; a text's lines in another order, and one of them twice. No program stands in it.
-/
namespace Go.Proofs.YtomhmndpjkfppaaDoor

theorem placeW_le (s : ByteArray) (l : List ByteArray) : placeW s l ≤ l.length := by
  unfold placeW
  cases h : l.findIdx? (· == s) with
  | none => simp
  | some i =>
    obtain ⟨hi, _⟩ := List.findIdx?_eq_some_iff_getElem.1 h
    simp only
    omega

/-- What is read behind a name is within its bounds. -/
theorem read_in {i : Nat} {w : ByteArray} {k : Int} {z : ByteArray} (h : readC i w = some (k, z)) : lowC i ≤ k ∧ k ≤ highC i ∧ (z.size = 0 ∨ nameOK z = true) := by
  unfold readC at h
  split at h
  · rename_i h21
    subst h21
    have e1 : lowC 21 = 0 := rfl
    have e2 : highC 21 = 0 := rfl
    rw [e1, e2]
    split at h
    · simp only [Option.some.injEq, Prod.mk.injEq] at h
      obtain ⟨rfl, rfl⟩ := h
      exact ⟨by omega, by omega, .inl rfl⟩
    · split at h
      · rename_i hn
        simp only [Option.some.injEq, Prod.mk.injEq] at h
        obtain ⟨rfl, rfl⟩ := h
        exact ⟨by omega, by omega, .inr hn⟩
      · simp at h
  · split at h
    · rename_i h20
      subst h20
      have e1 : lowC 20 = 1 := rfl
      have e2 : highC 20 = 3 := rfl
      have hle : placeW w polW ≤ 3 := placeW_le w polW
      rw [e1, e2]
      split at h
      · simp at h
      · simp only [Option.some.injEq, Prod.mk.injEq] at h
        obtain ⟨rfl, rfl⟩ := h
        exact ⟨by omega, by omega, .inl rfl⟩
    · split at h
      · rename_i h15
        have e12 : lowC i = 0 ∧ highC i = 1 := by rcases h15 with rfl | rfl <;> exact ⟨rfl, rfl⟩
        have hle : placeW w yesW ≤ 2 := placeW_le w yesW
        rw [e12.1, e12.2]
        split at h
        · simp at h
        · simp only [Option.some.injEq, Prod.mk.injEq] at h
          obtain ⟨rfl, rfl⟩ := h
          exact ⟨by omega, by omega, .inl rfl⟩
      · split at h
        · rename_i hb
          simp only [Bool.and_eq_true, decide_eq_true_eq] at hb
          simp only [Option.some.injEq, Prod.mk.injEq] at h
          obtain ⟨rfl, rfl⟩ := h
          exact ⟨hb.2.1, hb.2.2, .inl rfl⟩
        · simp at h

theorem findC_lt {s : ByteArray} {i : Nat} (h : findC s = some i) : i < 23 := by
  unfold findC at h
  have := List.mem_of_find?_eq_some h
  simpa using this

/-- What has been read so far may be. -/
structure GoodR (r : Read) : Prop where
  len : r.n.length = 23
  fits : ∀ i, i < 23 → fitsC r.n i = true
  zone : r.z.size = 0 ∨ nameOK r.z = true
theorem good0 : GoodR read0 := ⟨rfl, fun i hi => by
  have h : ∀ k : Fin 23, fitsC defNums k.1 = true := by decide +kernel
  exact h ⟨i, hi⟩, .inl rfl⟩

theorem fits_set {n : List Int} {i j : Nat} {k : Int} (hl : n.length = 23) (hi : i < 23) (h : fitsC n j = true) (h1 : lowC i ≤ k) (h2 : k ≤ highC i) : fitsC (n.set i k) j = true := by
  unfold fitsC at h ⊢
  rw [decide_eq_true_eq] at h ⊢
  simp only [List.getD_eq_getElem?_getD, List.getElem?_set] at h ⊢
  by_cases e : i = j
  · subst e
    have : i < n.length := by omega
    simp [this, h1, h2]
  · simpa [e] using h

/-- How a line is read, whatever stood before. -/
def wordsC (ws : List ByteArray) : Option (Nat × Int × ByteArray) := match ws with
  | [a, b] => match findC a with
    | none => none
    | some i => match readC i b with
      | none => none
      | some (k, z) => some (i, k, z)
  | _ => none
theorem stepC_words (r : Read) (ws : List ByteArray) : stepC r ws = match wordsC ws with
    | none => none
    | some (i, k, z) => if r.seen.getD i false then none else some ⟨r.n.set i k, if i = 21 then z else r.z, r.seen.set i true⟩ := by
  unfold stepC wordsC
  match ws with
  | [] => rfl
  | [_] => rfl
  | _ :: _ :: _ :: _ => rfl
  | [a, b] =>
    simp only
    cases hf : findC a with
    | none => rfl
    | some i =>
      simp only
      cases hr : readC i b with
      | none => simp
      | some p => obtain ⟨k, z⟩ := p; rfl
theorem wordsC_in {ws : List ByteArray} {i : Nat} {k : Int} {z : ByteArray} (h : wordsC ws = some (i, k, z)) : i < 23 ∧ lowC i ≤ k ∧ k ≤ highC i ∧ (z.size = 0 ∨ nameOK z = true) := by
  unfold wordsC at h
  split at h
  · split at h
    · simp at h
    · rename_i j hj
      cases hr : readC j _ with
      | none => rw [hr] at h; simp at h
      | some p =>
        obtain ⟨k', z'⟩ := p
        rw [hr] at h
        simp only [Option.some.injEq, Prod.mk.injEq] at h
        obtain ⟨rfl, rfl, rfl⟩ := h
        exact ⟨findC_lt hj, read_in hr⟩
  · simp at h
theorem step_good {r r' : Read} {ws : List ByteArray} (h : GoodR r) (hs : stepC r ws = some r') : GoodR r' := by
  rw [stepC_words] at hs
  cases hw : wordsC ws with
  | none => rw [hw] at hs; simp at hs
  | some p =>
    obtain ⟨i, k, z⟩ := p
    obtain ⟨hi, h1, h2, hz⟩ := wordsC_in hw
    rw [hw] at hs
    simp only at hs
    split at hs
    · simp at hs
    · simp only [Option.some.injEq] at hs
      subst hs
      refine ⟨by simp [h.len], fun j hj => fits_set h.len hi (h.fits j hj) h1 h2, ?_⟩
      simp only
      split
      · exact hz
      · exact h.zone
theorem run_good (L : List (Int × List ByteArray)) {r r' : Read} (h : GoodR r) (hr : runC r L = .inl r') : GoodR r' := by
  induction L generalizing r with
  | nil => simp only [runC, Sum.inl.injEq] at hr; exact hr ▸ h
  | cons l L ih =>
    rw [runC] at hr
    cases hs : stepC r l.2 with
    | none => rw [hs] at hr; simp at hr
    | some r1 => rw [hs] at hr; exact ih (step_good h hs) hr
theorem run_err (L : List (Int × List ByteArray)) {r : Read} {no : Int} (hr : runC r L = .inr no) : ∃ l ∈ L, l.1 = no := by
  induction L generalizing r with
  | nil => simp [runC] at hr
  | cons l L ih =>
    rw [runC] at hr
    cases hs : stepC r l.2 with
    | none => rw [hs] at hr; simp only [Sum.inr.injEq] at hr; exact ⟨l, by simp, hr⟩
    | some r1 =>
      rw [hs] at hr
      obtain ⟨l', h1, h2⟩ := ih hr
      exact ⟨l', by simp [h1], h2⟩

theorem list23 {n : List Int} (h : n.length = 23) : ∃ a0 a1 a2 a3 a4 a5 a6 a7 a8 a9 a10 a11 a12 a13 a14 a15 a16 a17 a18 a19 a20 a21 a22, n = [a0, a1, a2, a3, a4, a5, a6, a7, a8, a9, a10, a11, a12, a13, a14, a15, a16, a17, a18, a19, a20, a21, a22] := by
  match n, h with
  | [a0, a1, a2, a3, a4, a5, a6, a7, a8, a9, a10, a11, a12, a13, a14, a15, a16, a17, a18, a19, a20, a21, a22], _ => exact ⟨a0, a1, a2, a3, a4, a5, a6, a7, a8, a9, a10, a11, a12, a13, a14, a15, a16, a17, a18, a19, a20, a21, a22, rfl⟩
theorem bit_of {x : Int} (h0 : 0 ≤ x) (h1 : x ≤ 1) : bitV (x == 1) = x := by
  have : x = 0 ∨ x = 1 := by omega
  rcases this with rfl | rfl <;> rfl
theorem nums_of {n : List Int} (z : ByteArray) (hl : n.length = 23) (hf : ∀ i, i < 23 → fitsC n i = true) : (ofNums n z).nums = n := by
  have h15 := fits_bounds (hf 15 (by omega))
  have h21 := fits_bounds (hf 21 (by omega))
  have h22 := fits_bounds (hf 22 (by omega))
  have e1 : lowC 15 = 0 ∧ highC 15 = 1 ∧ lowC 21 = 0 ∧ highC 21 = 0 ∧ lowC 22 = 0 ∧ highC 22 = 1 := ⟨rfl, rfl, rfl, rfl, rfl, rfl⟩
  rw [e1.1, e1.2.1] at h15
  rw [e1.2.2.1, e1.2.2.2.1] at h21
  rw [e1.2.2.2.2.1, e1.2.2.2.2.2] at h22
  clear hf e1
  obtain ⟨a0, a1, a2, a3, a4, a5, a6, a7, a8, a9, a10, a11, a12, a13, a14, a15, a16, a17, a18, a19, a20, a21, a22, rfl⟩ := list23 hl
  have g15 : 0 ≤ a15 ∧ a15 ≤ 1 := h15
  have g21 : 0 ≤ a21 ∧ a21 ≤ 0 := h21
  have g22 : 0 ≤ a22 ∧ a22 ≤ 1 := h22
  have e21 : a21 = 0 := by omega
  subst e21
  have b15 : bitV (a15 == 1) = a15 := bit_of g15.1 g15.2
  have b22 : bitV (a22 == 1) = a22 := bit_of g22.1 g22.2
  show [a0, a1, a2, a3, a4, a5, a6, a7, a8, a9, a10, a11, a12, a13, a14, bitV (a15 == 1), a16, a17, a18, a19, a20, 0, bitV (a22 == 1)] = _
  rw [b15, b22]
theorem may_read {r : Read} (h : GoodR r) : mayC (ofNums r.n r.z) = true :=
  may_of (by rw [nums_of _ h.len h.fits]; exact h.fits) h.zone

theorem linesOf_no (i : Nat) (P : List ByteArray) : ∀ l ∈ linesOf i P, (i : Int) + 1 ≤ l.1 ∧ l.1 ≤ (i + P.length : Nat) := by
  induction P generalizing i with
  | nil => intro l hl; simp [linesOf] at hl
  | cons p r ih =>
    intro l hl
    simp only [linesOf, List.mem_append] at hl
    rcases hl with h | h
    · split at h
      · simp at h
      · simp only [List.mem_singleton] at h
        subst h
        simp only [List.length_cons]
        omega
    · have := ih (i + 1) l h
      simp only [List.length_cons]
      omega
theorem split_no (s : ByteArray) : ((splitV s).2.2 = 0 ∧ (splitV s).2.1 = 0 ∧ ∀ l ∈ (splitV s).1, 1 ≤ l.1 ∧ l.1 ≤ 4001) ∨ ((splitV s).2.2 = 2 ∧ 0 ≤ (splitV s).2.1 ∧ (splitV s).2.1 ≤ 4001) := by
  unfold splitV
  split
  · exact .inr ⟨rfl, by simp, by simp⟩
  · have hp := partsV_length s 10
    cases h : (partsV s 10).findIdx? (fun p => !lineOK p) with
    | none =>
      refine .inl ⟨rfl, rfl, fun l hl => ?_⟩
      have := linesOf_no 0 (partsV s 10) l hl
      omega
    | some i =>
      obtain ⟨hi, _⟩ := List.findIdx?_eq_some_iff_getElem.1 h
      exact .inr ⟨rfl, by simp only; omega, by simp only; omega⟩
/-- Of any text: an error of some line, or a configuration that may be. -/
theorem parse_raw (s : ByteArray) : ((parseV s).2.2 = 0 ∧ (parseV s).2.1 = 0 ∧ mayC (parseV s).1 = true) ∨ ((parseV s).2.2 = 2 ∧ (0 ≤ (parseV s).2.1 ∧ (parseV s).2.1 ≤ 4001) ∧ (parseV s).1 = zeroC) := by
  unfold parseV
  rcases split_no s with ⟨h1, _, h3⟩ | ⟨h1, h2⟩
  · rw [if_pos h1]
    cases hr : runC read0 (splitV s).1 with
    | inl r => exact .inl ⟨rfl, rfl, may_read (run_good _ good0 hr)⟩
    | inr no =>
      obtain ⟨l, hl, rfl⟩ := run_err _ hr
      have := h3 l hl
      exact .inr ⟨rfl, ⟨by simp only; omega, by simp only; omega⟩, rfl⟩
  · rw [if_neg (by omega)]
    exact .inr ⟨h1, h2, rfl⟩
theorem parse_zone (s : ByteArray) : (parseV s).1.zone.size ≤ 12 := by
  rcases parse_raw s with ⟨_, _, h⟩ | ⟨_, _, h⟩
  · rcases (may_parts h).2 with h | h
    · omega
    · exact (clean_name h).2
  · rw [h]; decide

/-- A text's lines, from the k-th on and then those ahead of it. -/
def rotC (k : Nat) : List Nat := (List.range 23).map fun i => (i + k) % 23
theorem rotC_lt (k : Nat) : ∀ i ∈ rotC k, i < 23 := by
  intro i hi
  simp only [rotC, List.mem_map, List.mem_range] at hi
  obtain ⟨j, _, rfl⟩ := hi
  exact Nat.mod_lt _ (by omega)
theorem rotC_facts (k : Nat) (hk : k < 23) : (rotC k).Nodup ∧ ∀ i, i < 23 → i ∈ rotC k := by
  have h : ∀ k : Fin 23, (rotC k.1).Nodup ∧ ∀ i : Fin 23, i.1 ∈ rotC k.1 := by decide +kernel
  exact ⟨(h ⟨k, hk⟩).1, fun i hi => (h ⟨k, hk⟩).2 ⟨i, hi⟩⟩
theorem parse_turned {c : Cfg} (h : mayC c = true) (k : Nat) (hk : k < 23) : parseV (mkS (someC c.nums c.zone (rotC k))) = (c, 0, 0) := by
  obtain ⟨h1, h2⟩ := may_parts h
  obtain ⟨g1, g2⟩ := rotC_facts k hk
  rw [parse_some h2 _ (rotC_lt k) (fun i hi => h1 i (rotC_lt k i hi)) g1 (by simp [rotC])]
  obtain ⟨e1, e2⟩ := putAll_whole c (rotC k) (rotC_lt k) g2
  rw [e1, e2, ofNums_nums]
theorem numberedL_append (i : Nat) (a b : List (List ByteArray)) : numberedL i (a ++ b) = numberedL i a ++ numberedL (i + a.length) b := by
  induction a generalizing i with
  | nil => simp [numberedL]
  | cons x r ih =>
    rw [List.cons_append, numberedL, ih, numberedL, List.cons_append, List.length_cons, show i + 1 + r.length = i + (r.length + 1) by omega]
theorem seen0 (i : Nat) (h : i < 23) : read0.seen.getD i false = false := by
  have h2 : ∀ k : Fin 23, read0.seen.getD k.1 false = false := by decide
  exact h2 ⟨i, h⟩
theorem parse_twice {c : Cfg} (h : mayC c = true) (k : Nat) (hk : k < 23) : parseV (mkS (someC c.nums c.zone (rotC k ++ [k]))) = (zeroC, 24, 2) := by
  obtain ⟨h1, h2⟩ := may_parts h
  obtain ⟨g1, g2⟩ := rotC_facts k hk
  have hp : ∀ i ∈ rotC k ++ [k], i < 23 := fun i hi => by
    rcases List.mem_append.1 hi with h | h
    · exact rotC_lt k i h
    · rw [List.mem_singleton] at h; omega
  have hl : (rotC k).length = 23 := by simp [rotC]
  unfold parseV
  rw [split_some h2 _ hp (fun i hi => h1 i (hp i hi)) (by simp [hl])]
  simp only [if_true]
  rw [List.map_append, numberedL_append, run_lines h2 (rotC k) _ _ read0 (numberedL_words 0 _) (rotC_lt k) g1 (fun i hi => h1 i (rotC_lt k i hi)) (by decide) (fun i hi => seen0 i (rotC_lt k i hi))]
  have hs : (putAll c.nums c.zone read0 (rotC k)).seen.getD k false = true := by
    rw [(putAll_seen _ _ (rotC k) read0 (by decide) (rotC_lt k) k).1]
    simp [g2 k hk]
  rw [List.length_map, hl]
  simp only [List.map_cons, List.map_nil, numberedL, runC, step_seen k hk hs]
  rfl

end Go.Proofs.YtomhmndpjkfppaaDoor

/-
  How rows of pairs of texts, and hosts, lie in memory. No program stands in it.
-/
namespace Go.Proofs.YtomhmndpjkfppaaDoor
open Go.RowKit Go.ChangeShapes

abbrev PairT := ByteArray × ByteArray
abbrev noP : PairT := (ByteArray.empty, ByteArray.empty)
def pairCells (ps : List PairT) : List Value := ps.flatMap fun p => [.string p.1, .string p.2]
def okPair (p : PairT) : Prop := p.1.size ≤ maxLen ∧ p.2.size ≤ maxLen

/-- A slice value that holds the pairs ps. -/
def IsPairs (w : World) (v : Value) (ps : List PairT) : Prop := (∀ p ∈ ps, okPair p) ∧ IsRow 2 w v ps.length (pairCells ps)

theorem IsPairs.below {w w' : World} {v : Value} {ps : List PairT} (h : IsPairs w v ps) (hb : Below w.heap.size w w') : IsPairs w' v ps := ⟨h.1, h.2.below hb⟩
theorem isPairs_nil (w : World) : IsPairs w nilW [] := ⟨by simp, rfl, ⟨by unfold maxLen; simp, by unfold roomy maxLen; omega⟩, .inl ⟨rfl, _, _, rfl, fun _ => rfl⟩⟩

theorem pairCells_length (ps : List PairT) : (pairCells ps).length = ps.length * 2 := by
  induction ps with
  | nil => rfl
  | cons k r ih => simp [pairCells] at ih ⊢; omega
theorem pairCells_append (a b : List PairT) : pairCells (a ++ b) = pairCells a ++ pairCells b := by simp [pairCells]
theorem pairCells_at (ps : List PairT) (i : Nat) (h : i < ps.length) : (pairCells ps)[i * 2]? = some (.string (ps.getD i noP).1) ∧ (pairCells ps)[i * 2 + 1]? = some (.string (ps.getD i noP).2) := by
  induction ps generalizing i with
  | nil => simp at h
  | cons k r ih =>
    have e : pairCells (k :: r) = .string k.1 :: .string k.2 :: pairCells r := rfl
    cases i with
    | zero => exact ⟨rfl, rfl⟩
    | succ i =>
      have := ih i (by simpa using h)
      rw [e, show (i + 1) * 2 = i * 2 + 2 by omega]
      simpa using this
theorem pairCells_one (ps : List PairT) : ∀ u ∈ pairCells ps, u.oneCell' = true := by
  intro u hu
  simp [pairCells] at hu
  obtain ⟨a, b, _, h | h⟩ := hu <;> subst h <;> rfl

theorem IsPairs.shaped {w : World} {v : Value} {ps : List PairT} (h : IsPairs w v ps) : ∃ ao cap, v = .slice ao ps.length cap := h.2.shaped
theorem IsPairs.len {w : World} {v : Value} {ps : List PairT} (h : IsPairs w v ps) : ps.length ≤ 9223372036854775807 := h.2.2.1.1

/-- The place of pair i of a slice that is given by its parts. -/
theorem IsPairs.at {w : World} {ao : Option Addr} {n cap : Nat} {ps : List PairT} (h : IsPairs w (.slice ao n cap) ps) (i : Nat) (hi : i < ps.length) :
    ∃ b off, ao = some ⟨b, off, none⟩ ∧ b < w.heap.size ∧ w.cell? ⟨b, off + i * 2, none⟩ = some (.string (ps.getD i noP).1) ∧ w.cell? ⟨b, off + i * 2 + 1, none⟩ = some (.string (ps.getD i noP).2) := by
  rcases h.2.2.2 with ⟨h0, _⟩ | ⟨_, b, off, c, e, hlt, hc⟩
  · omega
  · simp only [Value.slice.injEq] at e
    obtain ⟨a1, a2⟩ := pairCells_at ps i hi
    exact ⟨b, off, e.1, hlt, by rw [hc (i * 2) (by omega), a1], by rw [Nat.add_assoc, hc (i * 2 + 1) (by omega), a2]⟩
theorem IsPairs.ok {w : World} {v : Value} {ps : List PairT} (h : IsPairs w v ps) (i : Nat) (hi : i < ps.length) : okPair (ps.getD i noP) := by
  rw [List.getD_eq_getElem?_getD, List.getElem?_eq_getElem hi]
  exact h.1 _ (List.getElem_mem hi)

/-- Pairs, laid down by the call. -/
theorem fresh_pairs (w : World) (ps : List PairT) (t : Nat) (hk : ∀ p ∈ ps, okPair p) (hl : ps.length ≤ 1000000) (h0 : 0 < ps.length) :
    IsPairs (w.alloc (.cells (pairCells ps).toArray t)) (.slice (some ⟨w.heap.size, 0, none⟩) ps.length ps.length) ps :=
  ⟨hk, IsRow.fresh w (pairCells ps) 2 ps.length t ps.length (pairCells_length ps) (Nat.le_refl _) (by unfold maxLen; omega) h0⟩
theorem one_pair (w : World) (p : PairT) (t g : Nat) (hg : g = w.heap.size) (hp : okPair p) : IsPairs (w.alloc (.cells #[.string p.1, .string p.2] t)) (.slice (some ⟨g, 0, none⟩) 1 1) [p] := by
  subst hg
  exact fresh_pairs w [p] t (by simpa using hp) (by simp) (by simp)
/-- Pairs that the call owns. -/
theorem own_pairs {w : World} {base e n : Nat} {v : Value} {ps : List PairT} (h : w.ownsRow base e 2 v n (pairCells ps)) (hn : n = ps.length) (hk : ∀ p ∈ ps, okPair p) : IsPairs w v ps := by
  subst hn; exact ⟨hk, isRow_own h⟩

/-- A host, but for where its Meta lies. -/
structure HostT where
  id : Int
  addr : ByteArray
  prio : Int
  zone : ByteArray
  weight : Int
  tags : List PairT
deriving DecidableEq
abbrev hval (h : HostT) (mv : Value) : Value := .agg #[.int .i64 h.id, .string h.addr, .int .i64 h.prio, .string h.zone, .int .i64 h.weight, mv]
def okHost (h : HostT) : Prop := h.addr.size ≤ maxLen ∧ h.zone.size ≤ maxLen

/-- A box of six cells that holds a host. -/
def HostAt (w : World) (b : Nat) (h : HostT) (mv : Value) : Prop :=
  b < w.heap.size ∧ w.cell? ⟨b, 0, none⟩ = some (.int .i64 h.id) ∧ w.cell? ⟨b, 1, none⟩ = some (.string h.addr) ∧ w.cell? ⟨b, 2, none⟩ = some (.int .i64 h.prio) ∧ w.cell? ⟨b, 3, none⟩ = some (.string h.zone) ∧
  w.cell? ⟨b, 4, none⟩ = some (.int .i64 h.weight) ∧ w.cell? ⟨b, 5, none⟩ = some mv
theorem HostAt.below {w w' : World} {b : Nat} {h : HostT} {mv : Value} (H : HostAt w b h mv) (hb : Below w.heap.size w w') : HostAt w' b h mv := by
  obtain ⟨h0, h1, h2, h3, h4, h5, h6⟩ := H
  refine ⟨Nat.lt_of_lt_of_le h0 hb.size, ?_, ?_, ?_, ?_, ?_, ?_⟩
  · exact (hb.cell (p := ⟨b, 0, none⟩) h0).trans h1
  · exact (hb.cell (p := ⟨b, 1, none⟩) h0).trans h2
  · exact (hb.cell (p := ⟨b, 2, none⟩) h0).trans h3
  · exact (hb.cell (p := ⟨b, 3, none⟩) h0).trans h4
  · exact (hb.cell (p := ⟨b, 4, none⟩) h0).trans h5
  · exact (hb.cell (p := ⟨b, 5, none⟩) h0).trans h6
theorem hostAt_box (w : World) (h : HostT) (mv : Value) (t g : Nat) (hg : g = w.heap.size) : HostAt (w.alloc (.cells #[.int .i64 h.id, .string h.addr, .int .i64 h.prio, .string h.zone, .int .i64 h.weight, mv] t)) g h mv := by
  subst hg
  refine ⟨by simp, ?_, ?_, ?_, ?_, ?_, ?_⟩ <;> rw [World.cell?_alloc_at _ _ _ _ rfl] <;> rfl

/-- What may be. -/
def mayPairs (ps : List PairT) : Bool := decide (ps.length ≤ 6) && ps.all fun p => nameOK p.1 && nameOK p.2
def hasPairs (ps sub : List PairT) : Bool := sub.all fun p => ps.any fun q => decide (p = q)

end Go.Proofs.YtomhmndpjkfppaaDoor

/-
  The plain mathematics of chapter 7: words in order, rows of pairs. No program stands in it.
-/
namespace Go.Proofs.YtomhmndpjkfppaaDoor
open Go.RowKit

abbrev ltS (x y : ByteArray) : Bool := Op.bytesLess x.toList y.toList
theorem bytesLess_tri : ∀ (a b : List UInt8), (!Op.bytesLess a b) = (Op.bytesLess b a || b == a)
  | [], [] => by simp [Op.bytesLess]
  | [], _ :: _ => by simp [Op.bytesLess]
  | _ :: _, [] => by simp [Op.bytesLess]
  | x :: a, y :: b => by
    have ih := bytesLess_tri a b
    simp only [Op.bytesLess]
    by_cases h1 : x < y
    · have h2 : ¬ y < x := fun h => absurd (UInt8.lt_trans h1 h) (UInt8.lt_irrefl _)
      have h3 : ¬ x = y := fun h => by subst h; exact UInt8.lt_irrefl _ h1
      have h4 : ¬ y = x := fun h => h3 h.symm
      simp [h1, h2, h4]
    · by_cases h3 : x = y
      · subst h3
        simpa [UInt8.lt_irrefl] using ih
      · have h4 : ¬ y = x := fun h => h3 h.symm
        have h2 : y < x := by
          rcases UInt8.lt_or_lt_of_ne h3 with h | h
          · exact absurd h h1
          · exact h
        simp [h1, h2, h3]
/-- Names that rise. -/
def risesP (ps : List PairT) : Bool := (List.range (ps.length - 1)).all fun i => ltS (ps.getD i noP).1 (ps.getD (i + 1) noP).1
theorem risesP_true {ps : List PairT} {k : Nat} (h : ∀ j, j + 1 < k → j + 1 < ps.length → ltS (ps.getD j noP).1 (ps.getD (j + 1) noP).1 = true) (hk : ps.length ≤ k) : risesP ps = true := by
  unfold risesP
  rw [List.all_eq_true]
  intro i hi
  have := List.mem_range.1 hi
  exact h i (by omega) (by omega)
theorem risesP_false {ps : List PairT} {k : Nat} (hk : k + 1 < ps.length) (h : ltS (ps.getD k noP).1 (ps.getD (k + 1) noP).1 = false) : risesP ps = false := by
  unfold risesP
  rw [List.all_eq_false]
  exact ⟨k, List.mem_range.2 (by omega), by simp only [h]; decide⟩

theorem beq_str (x y : ByteArray) : (x.toList == y.toList) = decide (x = y) := by
  by_cases h : x = y
  · subst h; simp
  · rw [decide_eq_false h, beq_eq_false_iff_ne, ne_eq, ByteArray.toList_eq, ByteArray.toList_eq]
    intro e
    exact h (ByteArray.ext (by simpa using e))
theorem beq_sym (x y : ByteArray) : (x.toList == y.toList) = (y.toList == x.toList) := by
  rw [beq_str, beq_str]; exact decide_eq_decide.2 ⟨Eq.symm, Eq.symm⟩

/-- Two pairs: alike, unlike in the first word, unlike in the second alone. -/
theorem pair_cases (a b c d : ByteArray) : ((a, b) = (c, d) ∧ (a.toList == c.toList) = true ∧ (b.toList == d.toList) = true) ∨ ((a, b) ≠ (c, d) ∧ (a.toList == c.toList) = false) ∨ ((a, b) ≠ (c, d) ∧ (a.toList == c.toList) = true ∧ (b.toList == d.toList) = false) := by
  by_cases h1 : a = c
  · subst h1
    by_cases h2 : b = d
    · subst h2
      exact .inl ⟨rfl, by simp, by simp⟩
    · exact .inr (.inr ⟨fun e => h2 (Prod.mk.inj e).2, by simp, by rw [beq_str]; exact decide_eq_false h2⟩)
  · exact .inr (.inl ⟨fun e => h1 (Prod.mk.inj e).1, by rw [beq_str]; exact decide_eq_false h1⟩)

theorem mayPairs_long {ps : List PairT} (h : 6 < ps.length) : mayPairs ps = false := by unfold mayPairs; rw [decide_eq_false (by omega)]; rfl
theorem mayPairs_bad {ps : List PairT} {k : Nat} (hk : k < ps.length) (h : nameOK (ps.getD k noP).1 = false ∨ nameOK (ps.getD k noP).2 = false) : mayPairs ps = false := by
  unfold mayPairs
  rw [List.getD_eq_getElem?_getD, List.getElem?_eq_getElem hk, Option.getD_some] at h
  rw [Bool.and_eq_false_iff]
  refine .inr ?_
  rw [List.all_eq_false]
  refine ⟨ps[k], List.getElem_mem hk, ?_⟩
  rcases h with h | h <;> simp [h]
theorem mayPairs_end {ps : List PairT} (hl : ps.length ≤ 6) (h : ∀ p ∈ ps, nameOK p.1 = true ∧ nameOK p.2 = true) : mayPairs ps = true := by
  unfold mayPairs
  rw [decide_eq_true hl, Bool.true_and, List.all_eq_true]
  intro p hp
  rw [(h p hp).1, (h p hp).2]; rfl
theorem mem_take_succ {α : Type} {P : α → Prop} {l : List α} {k : Nat} (d : α) (hk : k < l.length) (h : ∀ p ∈ l.take k, P p) (h1 : P (l.getD k d)) : ∀ p ∈ l.take (k + 1), P p := by
  intro p hp
  rw [List.take_succ_eq_append_getElem hk] at hp
  rcases List.mem_append.1 hp with h2 | h2
  · exact h p h2
  · rw [List.mem_singleton] at h2
    rw [List.getD_eq_getElem?_getD, List.getElem?_eq_getElem hk, Option.getD_some] at h1
    rw [h2]; exact h1
theorem hasPairs_bad {ps sub : List PairT} {k : Nat} (hk : k < sub.length) (h : sub.getD k noP ∉ ps) : hasPairs ps sub = false := by
  rw [List.getD_eq_getElem?_getD, List.getElem?_eq_getElem hk, Option.getD_some] at h
  unfold hasPairs
  rw [List.all_eq_false]
  refine ⟨_, List.getElem_mem hk, fun hx => ?_⟩
  obtain ⟨q, hq, e⟩ := List.any_eq_true.1 hx
  rw [decide_eq_true_eq] at e
  exact h (e ▸ hq)
theorem hasPairs_end {ps sub : List PairT} (h : ∀ p ∈ sub, p ∈ ps) : hasPairs ps sub = true := by
  unfold hasPairs
  rw [List.all_eq_true]
  intro p hp
  exact List.any_eq_true.2 ⟨p, h p hp, decide_eq_true rfl⟩
theorem take_more {α : Type} {a b : List α} {k : Nat} (d : α) (h1 : k < a.length) (h2 : k < b.length) (ht : a.take k = b.take k) (h : a.getD k d = b.getD k d) : a.take (k + 1) = b.take (k + 1) := by
  rw [List.getD_eq_getElem?_getD, List.getD_eq_getElem?_getD, List.getElem?_eq_getElem h1, List.getElem?_eq_getElem h2, Option.getD_some, Option.getD_some] at h
  rw [List.take_succ_eq_append_getElem h1, List.take_succ_eq_append_getElem h2, ht, h]
theorem list_ne {α : Type} [DecidableEq α] {a b : List α} {k : Nat} (d : α) (h : a.getD k d ≠ b.getD k d) : decide (a = b) = false := decide_eq_false fun e => h (by rw [e])
theorem list_len {α : Type} [DecidableEq α] {a b : List α} (h : a.length ≠ b.length) : decide (a = b) = false := decide_eq_false fun e => h (by rw [e])
theorem list_eq {α : Type} [DecidableEq α] {a b : List α} {k : Nat} (h : a.length = b.length) (hk : a.length ≤ k) (ht : a.take k = b.take k) : decide (a = b) = true := by
  rw [List.take_of_length_le hk, List.take_of_length_le (by omega)] at ht
  exact decide_eq_true ht

/-- Alike in all. -/
def sameH (a b : HostT) : Bool := decide (a = b)
theorem sameH_parts (a b : HostT) : sameH a b = ((a.id == b.id) && (a.addr.toList == b.addr.toList) && (a.prio == b.prio) && (a.zone.toList == b.zone.toList) && (a.weight == b.weight) && decide (a.tags = b.tags)) := by
  unfold sameH
  obtain ⟨a0, a1, a2, a3, a4, a5⟩ := a
  obtain ⟨b0, b1, b2, b3, b4, b5⟩ := b
  simp only [beq_str]
  rw [Bool.eq_iff_iff]
  simp only [HostT.mk.injEq, decide_eq_true_eq, Bool.and_eq_true, beq_iff_eq]
  constructor
  · rintro ⟨h0, h1, h2, h3, h4, h5⟩; exact ⟨⟨⟨⟨⟨h0, h1⟩, h2⟩, h3⟩, h4⟩, h5⟩
  · rintro ⟨⟨⟨⟨⟨h0, h1⟩, h2⟩, h3⟩, h4⟩, h5⟩; exact ⟨h0, h1, h2, h3, h4, h5⟩

end Go.Proofs.YtomhmndpjkfppaaDoor

/-
  Boxes: a block that holds one host.
-/
namespace Go.Proofs.YtomhmndpjkfppaaDoor
open Go.RowKit Go.ChangeShapes

/-- The cells of a host. -/
abbrev hcells (h : HostT) (mv : Value) : Array Value := #[.int .i64 h.id, .string h.addr, .int .i64 h.prio, .string h.zone, .int .i64 h.weight, mv]
abbrev noHost : HostT := ⟨0, ByteArray.empty, 0, ByteArray.empty, 0, []⟩

end Go.Proofs.YtomhmndpjkfppaaDoor

/-
  How a slice of keys (structs of two numbers) lies in memory. No program stands in it.
-/
namespace Go.Proofs.YtomhmndpjkfppaaDoor
open Go.RowKit Go.ChangeShapes

def kval (k : Int × Int) : Value := .agg #[.int .i64 k.1, .int .i64 k.2]
def inK (k : Int × Int) : Prop := (-9223372036854775808 ≤ k.1 ∧ k.1 ≤ 9223372036854775807) ∧ (-9223372036854775808 ≤ k.2 ∧ k.2 ≤ 9223372036854775807)
def keyCells (ks : List (Int × Int)) : List Value := ks.flatMap fun k => [.int .i64 k.1, .int .i64 k.2]

/-- A slice value that holds the keys ks. -/
def IsKeys (w : World) (v : Value) (ks : List (Int × Int)) : Prop :=
  (∀ k ∈ ks, inK k) ∧ (ks.length ≤ 4611686018427387903 ∧ roomy v) ∧
  ((ks = [] ∧ ∃ ao cap, v = .slice ao 0 cap ∧ (ao = none → cap = 0)) ∨ (ks ≠ [] ∧ ∃ b off cap, v = .slice (some ⟨b, off, none⟩) ks.length cap ∧ b < w.heap.size ∧
    ∀ i, i < ks.length → w.cell? ⟨b, off + i * 2, none⟩ = some (.int .i64 (ks.getD i (0, 0)).1) ∧ w.cell? ⟨b, off + i * 2 + 1, none⟩ = some (.int .i64 (ks.getD i (0, 0)).2)))

theorem IsKeys.below {w w' : World} {v : Value} {ks : List (Int × Int)} (h : IsKeys w v ks) (hb : Below w.heap.size w w') : IsKeys w' v ks := by
  obtain ⟨h1, h2, h3⟩ := h
  refine ⟨h1, h2, ?_⟩
  rcases h3 with h3 | ⟨h3, b, off, cap, rfl, hlt, hc⟩
  · exact .inl h3
  · exact .inr ⟨h3, b, off, cap, rfl, Nat.lt_of_lt_of_le hlt hb.size, fun i hi => ⟨(hb.cell (p := ⟨b, off + i * 2, none⟩) hlt).trans (hc i hi).1, (hb.cell (p := ⟨b, off + i * 2 + 1, none⟩) hlt).trans (hc i hi).2⟩⟩

theorem isKeys_nil (w : World) : IsKeys w (.slice none 0 0) [] := ⟨by simp, ⟨by simp, by unfold roomy maxLen; omega⟩, .inl ⟨rfl, _, _, rfl, fun _ => rfl⟩⟩

theorem IsKeys.shape {w : World} {v : Value} {ks : List (Int × Int)} (h : IsKeys w v ks) : ∃ ao cap, v = .slice ao ks.length cap := by
  rcases h.2.2 with ⟨rfl, ao, cap, rfl, _⟩ | ⟨_, b, off, cap, rfl, _⟩
  · exact ⟨ao, cap, rfl⟩
  · exact ⟨_, cap, rfl⟩

theorem kbd {ks : List (Int × Int)} (h : ∀ k ∈ ks, inK k) (i : Nat) (hi : i < ks.length) : inK (ks.getD i (0, 0)) := by
  rw [kgetD i hi]; exact h _ (List.getElem_mem hi)

theorem keyCells_length (ks : List (Int × Int)) : (keyCells ks).length = ks.length * 2 := by
  induction ks with
  | nil => rfl
  | cons k r ih => simp [keyCells] at ih ⊢; omega
theorem keyCells_append (a b : List (Int × Int)) : keyCells (a ++ b) = keyCells a ++ keyCells b := by simp [keyCells]
theorem keyCells_at (ks : List (Int × Int)) (i : Nat) (h : i < ks.length) : (keyCells ks)[i * 2]? = some (.int .i64 (ks.getD i (0, 0)).1) ∧ (keyCells ks)[i * 2 + 1]? = some (.int .i64 (ks.getD i (0, 0)).2) := by
  induction ks generalizing i with
  | nil => simp at h
  | cons k r ih =>
    have e : keyCells (k :: r) = .int .i64 k.1 :: .int .i64 k.2 :: keyCells r := rfl
    cases i with
    | zero => exact ⟨rfl, rfl⟩
    | succ i =>
      have := ih i (by simpa using h)
      rw [e, show (i + 1) * 2 = i * 2 + 2 by omega]
      simpa using this

/-- What the call owns, as a slice of keys. -/
theorem isKeys_own {w : World} {base e n : Nat} {v : Value} {ks : List (Int × Int)} (h : w.ownsRow base e 2 v n (keyCells ks)) (hn : n = ks.length) (hl : ks.length ≤ 4611686018427387903)
    (hk : ∀ k ∈ ks, inK k) : IsKeys w v ks := by
  subst hn
  refine ⟨hk, ⟨hl, (isRow_own h).2.1.2⟩, ?_⟩
  have ho := h
  rcases h.2 with ⟨rfl, h0⟩ | ⟨g, cap, cur, rfl, _, hg, _⟩
  · exact .inl ⟨List.eq_nil_of_length_eq_zero h0, _, _, rfl, fun _ => rfl⟩
  · by_cases e0 : ks = []
    · subst e0
      exact .inl ⟨rfl, _, _, rfl, fun h => by cases h⟩
    · refine .inr ⟨e0, g, 0, cap, rfl, (Array.getElem?_eq_some_iff.1 hg).1, fun i hi => ?_⟩
      have := keyCells_at ks i hi
      have hl2 := keyCells_length ks
      rw [Nat.zero_add, ho.cellAt (i * 2) (by omega), ho.cellAt (i * 2 + 1) (by omega)]
      exact this

theorem keyCells_one (ks : List (Int × Int)) : ∀ u ∈ keyCells ks, u.oneCell' = true := by
  intro u hu
  simp [keyCells] at hu
  obtain ⟨a, b, _, h | h⟩ := hu <;> subst h <;> rfl

theorem IsKeys.row {w : World} {v : Value} {ks : List (Int × Int)} (h : IsKeys w v ks) : IsRow 2 w v ks.length (keyCells ks) := by
  refine ⟨keyCells_length ks, ⟨by unfold maxLen; have := h.2.1.1; omega, h.2.1.2⟩, ?_⟩
  rcases h.2.2 with ⟨rfl, h'⟩ | ⟨hne, b, off, cap, rfl, hlt, hc⟩
  · exact .inl ⟨rfl, h'⟩
  · refine .inr ⟨List.length_pos_iff.2 hne, b, off, cap, rfl, hlt, fun j hj => ?_⟩
    obtain ⟨i, hi | hi⟩ : ∃ i, j = i * 2 ∨ j = i * 2 + 1 := ⟨j / 2, by omega⟩
    · subst hi
      rw [(hc i (by omega)).1, (keyCells_at ks i (by omega)).1]
    · subst hi
      rw [← Nat.add_assoc, (hc i (by omega)).2, (keyCells_at ks i (by omega)).2]

theorem IsRow.keys {w : World} {v : Value} {ks : List (Int × Int)} (h : IsRow 2 w v ks.length (keyCells ks)) (hk : ∀ k ∈ ks, inK k) (hl : ks.length ≤ 4611686018427387903) : IsKeys w v ks := by
  refine ⟨hk, ⟨hl, h.2.1.2⟩, ?_⟩
  rcases h.2.2 with ⟨h0, h⟩ | ⟨hp, b, off, cap, rfl, hlt, hc⟩
  · exact .inl ⟨List.eq_nil_of_length_eq_zero h0, h⟩
  · refine .inr ⟨List.length_pos_iff.1 hp, b, off, cap, rfl, hlt, fun i hi => ⟨?_, ?_⟩⟩
    · rw [hc (i * 2) (by omega), (keyCells_at ks i hi).1]
    · rw [Nat.add_assoc, hc (i * 2 + 1) (by omega), (keyCells_at ks i hi).2]

/-- One key, laid down by the call. -/
theorem one_key (w : World) (k : Int × Int) (t g : Nat) (hg : g = w.heap.size) : IsRow 2 (w.alloc (.cells #[.int .i64 k.1, .int .i64 k.2] t)) (.slice (some ⟨g, 0, none⟩) 1 1) 1 (keyCells [k]) := by
  subst hg
  exact IsRow.fresh w (keyCells [k]) 2 1 t 1 rfl (by omega) (by unfold maxLen; omega) (by omega)

theorem keyCells_take {ks : List (Int × Int)} {k : Nat} (h : k < ks.length) : keyCells (ks.take (k + 1)) = keyCells (ks.take k) ++ keyCells [ks.getD k (0, 0)] := by
  rw [← keyCells_append, kgetD k h, List.take_succ_eq_append_getElem h]

/-- What the call owns stands while what was there stands. -/
theorem own_below {w w' : World} {base e sz n : Nat} {v : Value} {cs : List Value} (h : w.ownsRow base e sz v n cs) (hb : Below w.heap.size w w') : w'.ownsRow base e sz v n cs := by
  refine ⟨h.1, ?_⟩
  rcases h.2 with h | ⟨g, cap, cur, h1, h2, h3, h4⟩
  · exact .inl h
  · exact .inr ⟨g, cap, cur, h1, h2, (hb.block g (Array.getElem?_eq_some_iff.1 h3).1).trans h3, h4⟩

/-- A key stored at place i of what the call owns. -/
theorem own_store {w : World} {base e g cap n : Nat} {ks : List (Int × Int)} (h : w.ownsRow base e 2 (.slice (some ⟨g, 0, none⟩) n cap) n (keyCells ks)) (i : Nat) (k : Int × Int) :
    ((w.setCell ⟨g, i * 2, none⟩ (.int .i64 k.1)).setCell ⟨g, i * 2 + 1, none⟩ (.int .i64 k.2)).ownsRow base e 2 (.slice (some ⟨g, 0, none⟩) n cap) n (keyCells (ks.set i k)) := by
  have h1 := ((h.stored (i * 2) (.int .i64 k.1)).1.stored (i * 2 + 1) (.int .i64 k.2)).1
  have e : ((keyCells ks).set (i * 2) (.int .i64 k.1)).set (i * 2 + 1) (.int .i64 k.2) = keyCells (ks.set i k) := by
    clear h h1
    induction ks generalizing i with
    | nil => rfl
    | cons x r ih =>
      cases i with
      | zero => rfl
      | succ i =>
        have e2 : (i + 1) * 2 = i * 2 + 2 := by omega
        have := ih i
        simp only [keyCells, List.flatMap_cons, List.cons_append, List.nil_append, e2, List.set_cons_succ] at this ⊢
        rw [this]
  rw [e] at h1
  exact h1

/-- The place of a key that the call owns. -/
theorem own_key {w : World} {base e g cap n : Nat} {ks : List (Int × Int)} (h : w.ownsRow base e 2 (.slice (some ⟨g, 0, none⟩) n cap) n (keyCells ks)) (i : Nat) (hi : i < ks.length) :
    w.cell? ⟨g, i * 2, none⟩ = some (.int .i64 (ks.getD i (0, 0)).1) ∧ w.cell? ⟨g, i * 2 + 1, none⟩ = some (.int .i64 (ks.getD i (0, 0)).2) := by
  have hl := keyCells_length ks
  have hn : n * 2 = ks.length * 2 := by rw [← hl]; exact h.1.symm
  rw [h.cellAt (i * 2) (by omega), h.cellAt (i * 2 + 1) (by omega)]
  exact keyCells_at ks i hi

/-- A row with a hole at i: L with h between. -/
def holed (L : List (Int × Int)) (i : Nat) (h : Int × Int) : List (Int × Int) := L.take i ++ h :: L.drop i
theorem holed_length (L : List (Int × Int)) (i : Nat) (h : Int × Int) (hi : i ≤ L.length) : (holed L i h).length = L.length + 1 := by unfold holed; simp; omega
theorem holed_set (L : List (Int × Int)) (i : Nat) (h k : Int × Int) (hi : i ≤ L.length) : (holed L i h).set i k = holed L i k := by
  unfold holed
  rw [List.set_append_right _ _ (by simp; omega)]
  have : i - (L.take i).length = 0 := by simp; omega
  rw [this]; rfl
theorem holed_before (L : List (Int × Int)) (i : Nat) (h : Int × Int) (hi : i + 1 ≤ L.length) : (holed L (i + 1) h).getD i (0, 0) = L.getD i (0, 0) := by
  unfold holed
  have h1 : i < (L.take (i + 1)).length := by simp; omega
  rw [List.getD_eq_getElem?_getD, List.getElem?_append_left h1, List.getElem?_take, if_pos (by omega), List.getD_eq_getElem?_getD]
theorem holed_move (L : List (Int × Int)) (i : Nat) (hi : i + 1 ≤ L.length) : holed L (i + 1) (L.getD i (0, 0)) = holed L i (L.getD i (0, 0)) := by
  unfold holed
  have h1 : i < L.length := by omega
  rw [kgetD i h1, List.take_succ_eq_append_getElem h1, List.append_assoc, List.drop_eq_getElem_cons h1]
  rfl
theorem holed_end (L : List (Int × Int)) (h : Int × Int) : L ++ [h] = holed L L.length h := by unfold holed; simp
theorem holed_perm (L : List (Int × Int)) (i : Nat) (h : Int × Int) : (holed L i h).Perm (L ++ [h]) := by
  unfold holed
  refine List.perm_middle.trans ?_
  rw [List.take_append_drop]
  exact (List.perm_append_singleton h L).symm
theorem holed_sorted (L : List (Int × Int)) (i : Nat) (x : Int × Int) (hi : i ≤ L.length) (hs : SortedK L) (h1 : ∀ j, i ≤ j → j < L.length → ltK x (L.getD j (0, 0)) = true)
    (h2 : i = 0 ∨ ltK x (L.getD (i - 1) (0, 0)) = false) : SortedK (holed L i x) := by
  unfold holed
  have hsp : SortedK (L.take i ++ L.drop i) := by rw [List.take_append_drop]; exact hs
  obtain ⟨s1, s2, s3⟩ := List.pairwise_append.1 hsp
  have hx1 : ∀ a ∈ L.take i, leK a x = true := by
    intro a ha
    obtain ⟨j, hj, rfl⟩ := List.getElem_of_mem ha
    have hj' : j < i ∧ j < L.length := by simp at hj; omega
    rw [List.getElem_take]
    rcases h2 with h2 | h2
    · omega
    · have hb := leK_of_not h2
      rw [kgetD (i - 1) (by omega)] at hb
      rcases Nat.lt_or_ge j (i - 1) with h | h
      · exact leK_trans _ _ _ (List.pairwise_iff_getElem.1 hs j (i - 1) hj'.2 (by omega) h) hb
      · have e : j = i - 1 := by omega
        subst e; exact hb
  have hx2 : ∀ b ∈ L.drop i, leK x b = true := by
    intro b hb
    obtain ⟨j, hj, rfl⟩ := List.getElem_of_mem hb
    rw [List.getElem_drop]
    have hj' : i + j < L.length := by simp at hj; omega
    have := h1 (i + j) (by omega) hj'
    rw [kgetD _ hj'] at this
    exact leK_of_ltK this
  refine List.pairwise_append.2 ⟨s1, List.pairwise_cons.2 ⟨hx2, s2⟩, fun a ha b hb => ?_⟩
  rcases List.mem_cons.1 hb with rfl | hb
  · exact hx1 a ha
  · exact s3 a ha b hb

theorem holed_at (L : List (Int × Int)) (i : Nat) (h : Int × Int) (hi : i ≤ L.length) : (holed L i h).getD i (0, 0) = h := by
  unfold holed
  have h1 : (L.take i).length = i := by simp; omega
  rw [List.getD_eq_getElem?_getD, List.getElem?_append_right (by omega), h1, Nat.sub_self]
  rfl

end Go.Proofs.YtomhmndpjkfppaaDoor

/-
  How rows of timers, and the statement's own clock, lie in memory. No program stands in it.
-/
namespace Go.Proofs.YtomhmndpjkfppaaDoor
open Go.RowKit Go.ChangeShapes

theorem below_drews {n : Nat} {w w' : World} (h : Below n w w') (k : Nat) : Below n w (w'.drewN k) := by
  induction k with
  | zero => simpa [World.drewN] using h
  | succ k ih => exact ih.drew

def timerCells (L : List TimerT) : List Value := L.flatMap fun t => [.int .i64 t.at_, .int .i64 t.kind, .int .i64 t.id]
abbrev tval (t : TimerT) : Value := .agg #[.int .i64 t.at_, .int .i64 t.kind, .int .i64 t.id]
abbrev tcells (t : TimerT) : Array Value := #[.int .i64 t.at_, .int .i64 t.kind, .int .i64 t.id]
theorem timerCells_length (L : List TimerT) : (timerCells L).length = L.length * 3 := by
  induction L with
  | nil => rfl
  | cons k r ih => simp [timerCells] at ih ⊢; omega
theorem timerCells_append (a b : List TimerT) : timerCells (a ++ b) = timerCells a ++ timerCells b := by simp [timerCells]
theorem timerCells_at (L : List TimerT) (i : Nat) (h : i < L.length) : (timerCells L)[i * 3]? = some (.int .i64 (L.getD i noTimer).at_) ∧ (timerCells L)[i * 3 + 1]? = some (.int .i64 (L.getD i noTimer).kind) ∧ (timerCells L)[i * 3 + 2]? = some (.int .i64 (L.getD i noTimer).id) := by
  induction L generalizing i with
  | nil => simp at h
  | cons k r ih =>
    have e : timerCells (k :: r) = .int .i64 k.at_ :: .int .i64 k.kind :: .int .i64 k.id :: timerCells r := rfl
    cases i with
    | zero => exact ⟨rfl, rfl, rfl⟩
    | succ i =>
      have := ih i (by simpa using h)
      rw [e, show (i + 1) * 3 = i * 3 + 3 by omega]
      simpa using this
theorem timerCells_one (L : List TimerT) : ∀ u ∈ timerCells L, u.oneCell' = true := by
  intro u hu
  simp [timerCells] at hu
  obtain ⟨a, _, h | h | h⟩ := hu <;> subst h <;> rfl
theorem timerCells_take (L : List TimerT) (i : Nat) : timerCells (L.take i) = (timerCells L).take (i * 3) := by
  induction L generalizing i with
  | nil => simp [timerCells]
  | cons k r ih =>
    cases i with
    | zero => simp [timerCells]
    | succ i =>
      have e : timerCells (k :: r) = .int .i64 k.at_ :: .int .i64 k.kind :: .int .i64 k.id :: timerCells r := rfl
      have e2 : timerCells (k :: r.take i) = .int .i64 k.at_ :: .int .i64 k.kind :: .int .i64 k.id :: timerCells (r.take i) := rfl
      rw [List.take_succ_cons, e2, e, ih, show (i + 1) * 3 = i * 3 + 3 by omega]
      simp
theorem timerCells_drop (L : List TimerT) (i : Nat) : timerCells (L.drop i) = (timerCells L).drop (i * 3) := by
  induction L generalizing i with
  | nil => simp [timerCells]
  | cons k r ih =>
    cases i with
    | zero => simp
    | succ i =>
      have e : timerCells (k :: r) = .int .i64 k.at_ :: .int .i64 k.kind :: .int .i64 k.id :: timerCells r := rfl
      rw [List.drop_succ_cons, e, ih, show (i + 1) * 3 = i * 3 + 3 by omega]
      simp

/-- 's[:i]', 's[i:]' of a row of flat elements. -/
theorem IsRow.upto {sz : Nat} {w : World} {ao : Option Addr} {n cap : Nat} {cs : List Value} (h : IsRow sz w (.slice ao n cap) n cs) (i : Nat) (hi : i ≤ n) : IsRow sz w (.slice ao i cap) i (cs.take (i * sz)) := by
  obtain ⟨h1, ⟨h2, h3⟩, h4⟩ := h
  have h3' : n ≤ cap ∧ cap ≤ maxLen := h3
  have hm : i * sz ≤ n * sz := Nat.mul_le_mul_right _ hi
  refine ⟨by rw [List.length_take]; omega, ⟨by omega, show i ≤ cap ∧ cap ≤ maxLen by omega⟩, ?_⟩
  rcases h4 with ⟨h0, ao', cap', e, hn⟩ | ⟨hp, b, off, cap', e, hlt, hc⟩
  · simp only [Value.slice.injEq] at e
    obtain ⟨rfl, _, rfl⟩ := e
    exact .inl ⟨by omega, ao, cap, by rw [show i = 0 by omega], hn⟩
  · simp only [Value.slice.injEq] at e
    obtain ⟨rfl, _, rfl⟩ := e
    by_cases h0 : i = 0
    · subst h0
      exact .inl ⟨rfl, _, _, rfl, fun e => by cases e⟩
    · exact .inr ⟨by omega, b, off, cap, rfl, hlt, fun j hj => by rw [hc j (by omega), List.getElem?_take, if_pos hj]⟩
theorem IsRow.from {sz : Nat} {w : World} {ao : Option Addr} {n cap : Nat} {cs : List Value} (h : IsRow sz w (.slice ao n cap) n cs) (i : Nat) (hi : i ≤ n) :
    IsRow sz w (.slice (if cap = i then ao else Option.map (fun x => x.add (i * sz)) ao) (n - i) (cap - i)) (n - i) (cs.drop (i * sz)) := by
  obtain ⟨h1, ⟨h2, h3⟩, h4⟩ := h
  have h3' : n ≤ cap ∧ cap ≤ maxLen := h3
  refine ⟨by rw [List.length_drop, h1, Nat.sub_mul], ⟨by omega, show n - i ≤ cap - i ∧ cap - i ≤ maxLen by omega⟩, ?_⟩
  rcases h4 with ⟨h0, ao', cap', e, hn⟩ | ⟨hp, b, off, cap', e, hlt, hc⟩
  · simp only [Value.slice.injEq] at e
    obtain ⟨rfl, _, rfl⟩ := e
    refine .inl ⟨by omega, _, _, by rw [show n - i = 0 by omega], fun e => ?_⟩
    have hi0 : i = 0 := by omega
    subst hi0
    split at e
    · have := hn e; omega
    · cases ao with
      | none => have := hn rfl; omega
      | some x => simp at e
  · simp only [Value.slice.injEq] at e
    obtain ⟨rfl, _, rfl⟩ := e
    by_cases hin : n - i = 0
    · refine .inl ⟨hin, _, _, by rw [hin], fun e => ?_⟩
      split at e <;> simp at e
    · have hci : ¬ cap = i := by omega
      rw [if_neg hci]
      have hadd : (⟨b, off, none⟩ : Addr).add (i * sz) = ⟨b, off + i * sz, none⟩ := by unfold Addr.add; split <;> simp_all
      refine .inr ⟨by omega, b, off + i * sz, cap - i, by simp [hadd], hlt, fun j hj => ?_⟩
      rw [List.getElem?_drop, Nat.add_assoc]
      refine hc (i * sz + j) ?_
      have : (n - i) * sz = n * sz - i * sz := Nat.sub_mul _ _ _
      omega

/-- A slice value that holds timers. -/
structure IsTimers (w : World) (v : Value) (L : List TimerT) : Prop where
  ok : ∀ t ∈ L, inT t
  row : IsRow 3 w v L.length (timerCells L)
theorem IsTimers.below {w w' : World} {v : Value} {L : List TimerT} (h : IsTimers w v L) (hb : Below w.heap.size w w') : IsTimers w' v L := ⟨h.ok, h.row.below hb⟩
theorem IsTimers.shaped {w : World} {v : Value} {L : List TimerT} (h : IsTimers w v L) : ∃ ao cap, v = .slice ao L.length cap := h.row.shaped
theorem IsTimers.at {w : World} {ao : Option Addr} {n cap : Nat} {L : List TimerT} (h : IsTimers w (.slice ao n cap) L) (i : Nat) (hi : i < L.length) :
    ∃ b off, ao = some ⟨b, off, none⟩ ∧ b < w.heap.size ∧ w.cell? ⟨b, off + i * 3, none⟩ = some (.int .i64 (L.getD i noTimer).at_) ∧ w.cell? ⟨b, off + i * 3 + 1, none⟩ = some (.int .i64 (L.getD i noTimer).kind) ∧ w.cell? ⟨b, off + i * 3 + 2, none⟩ = some (.int .i64 (L.getD i noTimer).id) := by
  rcases h.row.2.2 with ⟨h0, _⟩ | ⟨_, b, off, c, e, hlt, hc⟩
  · omega
  · simp only [Value.slice.injEq] at e
    obtain ⟨a0, a1, a2⟩ := timerCells_at L i hi
    refine ⟨b, off, e.1, hlt, ?_, ?_, ?_⟩
    · rw [hc (i * 3) (by omega), a0]
    · rw [Nat.add_assoc, hc (i * 3 + 1) (by omega), a1]
    · rw [Nat.add_assoc, hc (i * 3 + 2) (by omega), a2]
theorem isTimers_nil (w : World) : IsTimers w nilW [] := ⟨by simp, rfl, ⟨by unfold maxLen; simp, by unfold roomy maxLen; omega⟩, .inl ⟨rfl, _, _, rfl, fun _ => rfl⟩⟩
theorem isTimers_own {w : World} {base e n : Nat} {v : Value} {L : List TimerT} (h : w.ownsRow base e 3 v n (timerCells L)) (hn : n = L.length) (hk : ∀ t ∈ L, inT t) : IsTimers w v L := by
  subst hn; exact ⟨hk, isRow_own h⟩
theorem IsTimers.upto {w : World} {ao : Option Addr} {cap : Nat} {L : List TimerT} (h : IsTimers w (.slice ao L.length cap) L) (i : Nat) (hi : i ≤ L.length) : IsTimers w (.slice ao i cap) (L.take i) := by
  have hl : (L.take i).length = i := by rw [List.length_take]; omega
  refine ⟨fun t ht => h.ok t (List.mem_of_mem_take ht), ?_⟩
  rw [hl, timerCells_take]
  exact IsRow.upto h.row i hi
theorem IsTimers.from {w : World} {ao : Option Addr} {cap : Nat} {L : List TimerT} (h : IsTimers w (.slice ao L.length cap) L) (i : Nat) (hi : i ≤ L.length) : IsTimers w (.slice (if cap = i then ao else Option.map (fun x => x.add (i * 3)) ao) (L.length - i) (cap - i)) (L.drop i) := by
  have hl : (L.drop i).length = L.length - i := by simp
  refine ⟨fun t ht => h.ok t (List.mem_of_mem_drop ht), ?_⟩
  rw [hl, timerCells_drop]
  exact IsRow.from h.row i hi
/-- What is owned stands, if its block stands. -/
theorem own_stands {w w' : World} {base e sz n : Nat} {v : Value} {cs : List Value} (h : w.ownsRow base e sz v n cs) (hb : ∀ k, v.ownBlock = some k → w'.heap[k]? = w.heap[k]?) : w'.ownsRow base e sz v n cs := by
  refine ⟨h.1, ?_⟩
  rcases h.2 with h | ⟨g, cap, cur, rfl, h2, h3, h4⟩
  · exact .inl h
  · exact .inr ⟨g, cap, cur, rfl, h2, (hb g rfl).trans h3, h4⟩

/-- The statement's own clock: a block that holds the time and a row of the call's own. -/
structure RClock (w : World) (base B tC tT : Nat) (v : Value) (now : Int) (L : List TimerT) : Prop where
  ge : base ≤ B
  box : HasBox w B tC #[.int .i64 now, v]
  row : w.ownsRow base tT 3 v L.length (timerCells L)
  ne : v.ownBlock ≠ some B
  ok : ∀ t ∈ L, inT t
  now_ : 0 ≤ now ∧ now ≤ top62
theorem RClock.timers {w : World} {base B tC tT : Nat} {v : Value} {now : Int} {L : List TimerT} (h : RClock w base B tC tT v now L) : IsTimers w v L := isTimers_own h.row rfl h.ok
theorem RClock.stands {w w' : World} {base B tC tT : Nat} {v : Value} {now : Int} {L : List TimerT} (h : RClock w base B tC tT v now L) (hB : w'.heap[B]? = w.heap[B]?) (hb : ∀ k, v.ownBlock = some k → w'.heap[k]? = w.heap[k]?) : RClock w' base B tC tT v now L :=
  ⟨h.ge, hB.trans h.box, own_stands h.row hb, h.ne, h.ok, h.now_⟩
theorem RClock.below {w w' : World} {base B tC tT : Nat} {v : Value} {now : Int} {L : List TimerT} (h : RClock w base B tC tT v now L) (hb : Below w.heap.size w w') : RClock w' base B tC tT v now L :=
  h.stands (hb.block B h.box.lt) fun k hk => hb.block k (h.row.lt k hk).2

/-- What turns but one block. -/
theorem below_of_grown {w0 w w' : World} {base : Nat} {o : Option Nat} (h : Below base w0 w) (hg : w.grownBy w' o) (hb : base ≤ w.heap.size) (ho : ∀ k, o = some k → base ≤ k) : Below base w0 w' := h.grown hg hb ho

end Go.Proofs.YtomhmndpjkfppaaDoor

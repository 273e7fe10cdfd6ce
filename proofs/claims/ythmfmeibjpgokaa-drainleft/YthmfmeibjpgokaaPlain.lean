/-
  Plain mathematics of the program's package ratio, no run of the model in it: what orZero, MulDiv, Compare, Sum, Draw and Spread come to, as functions on whole numbers and lists, and small lemmas on 128-bit products.
-/
import Derived.Laws.BitsAllLaws
import Derived.Lib.Mul64
namespace Go.Proofs.Ythmfmeibjpgokaa

/-- One below 0 counts as 0. -/
def oz (n : Int) : Int := if n < 0 then 0 else n
theorem oz_neg {n : Int} (h : n < 0) : oz n = 0 := by unfold oz; rw [if_pos h]
theorem oz_pos {n : Int} (h : 0 ≤ n) : oz n = n := by unfold oz; rw [if_neg (by omega)]
theorem oz_nonneg (n : Int) : 0 ≤ oz n := by unfold oz; split <;> omega
theorem oz_le (n : Int) (m : Int) (h : n ≤ m) (h0 : 0 ≤ m) : oz n ≤ m := by unfold oz; split <;> omega

/-- The upper and the lower word of a number of 128 bits. -/
def hiW (p : Int) : Int := p / 18446744073709551616
def loW (p : Int) : Int := p % 18446744073709551616
theorem loW_bd (p : Int) : 0 ≤ loW p ∧ loW p ≤ 18446744073709551615 := by unfold loW; omega
theorem hiW_bd (p : Int) (h : 0 ≤ p) (h2 : p ≤ 340282366920938463463374607431768211455) : 0 ≤ hiW p ∧ hiW p ≤ 18446744073709551615 := by unfold hiW; omega

theorem mulN (a b : Nat) : (a : Int) * (b : Int) = ((a * b : Nat) : Int) := (Int.natCast_mul a b).symm
theorem addN (a b : Nat) : (a : Int) + (b : Int) = ((a + b : Nat) : Int) := (Int.natCast_add a b).symm
theorem divN (a : Nat) : (a : Int) / 4294967296 = ((a / 4294967296 : Nat) : Int) := by omega
theorem maskN (a : Nat) (ha : a < 18446744073709551616) : bits .and .u64 (a : Int) 4294967295 = ((a % 4294967296 : Nat) : Int) := by
  have h := u64_and_nat a 4294967295 ha (by omega)
  have e : a &&& 4294967295 = a % 4294967296 := Nat.and_two_pow_sub_one_eq_mod a 32
  rw [e] at h
  exact h
theorem orN (a b : Nat) (ha : a < 18446744073709551616) (hb : b < 4294967296) (h : a % 4294967296 = 0) : bits .or .u64 (a : Int) (b : Int) = ((a + b : Nat) : Int) := by
  rw [u64_or_nat a b ha (by omega), nat_join 32 a b (by simpa using h) (by simpa using hb)]
theorem wrapN (a : Nat) (ha : a < 18446744073709551616) : IntKind.u64.wrap (a : Int) = (a : Int) := by rw [IntKind.wrap_u64]; omega
theorem wrapM (a : Nat) : IntKind.u64.wrap (a : Int) = ((a % 18446744073709551616 : Nat) : Int) := by rw [IntKind.wrap_u64]; omega

theorem lowN (o d : Nat) (hd : d < 4294967296) : bits .or .u64 (IntKind.u64.wrap ((o : Int) * 4294967296)) (d : Int) = ((o * 4294967296 % 18446744073709551616 + d : Nat) : Int) := by
  have e : (o : Int) * 4294967296 = ((o * 4294967296 : Nat) : Int) := by omega
  rw [e, wrapM, orN _ d (by omega) hd (by omega)]

/-- Division bit by bit: the quotient and the rest behind k of 64 steps. -/
def quotAt (p c : Int) (k : Nat) : Int := p / 2 ^ (64 - k) / c
def restAt (p c : Int) (k : Nat) : Int := p / 2 ^ (64 - k) % c

theorem low_bit (p : Int) (j : Nat) (hj : j ≤ 63) : loW p / 2 ^ j % 2 = p / 2 ^ j % 2 := by
  have hp : (0 : Int) < 2 ^ j := Int.pow_pos (by omega)
  have e : (18446744073709551616 : Int) = 2 ^ (63 - j) * 2 * 2 ^ j := by
    rw [show (18446744073709551616 : Int) = 2 ^ 64 from by decide, Int.mul_assoc, Int.mul_comm 2, ← Int.pow_succ, ← Int.pow_add]
    congr 1
    omega
  have h : p = loW p + hiW p * (2 ^ (63 - j) * 2) * 2 ^ j := by
    rw [Int.mul_assoc, ← e]; unfold loW hiW; omega
  have h2 : p / 2 ^ j = loW p / 2 ^ j + hiW p * (2 ^ (63 - j) * 2) := by
    conv => lhs; rw [h]
    rw [Int.add_mul_ediv_right _ _ (by omega)]
  rw [h2, ← Int.mul_assoc]
  generalize hiW p * 2 ^ (63 - j) = u
  omega
/-- The rest behind a step, ahead of what is taken off. -/
def nextR (p c : Int) (k : Nat) : Int := restAt p c k * 2 + p / 2 ^ (63 - k) % 2
theorem rest_bd (p c : Int) (k : Nat) (hc : 0 < c) : 0 ≤ restAt p c k ∧ restAt p c k < c :=
  ⟨Int.emod_nonneg _ (by omega), Int.emod_lt_of_pos _ hc⟩
theorem top_step (p : Int) (k : Nat) (hk : k < 64) : p / 2 ^ (64 - k) = p / 2 ^ (63 - k) / 2 := by
  rw [Int.ediv_ediv_of_nonneg (Int.le_of_lt (Int.pow_pos (by omega))), ← Int.pow_succ]
  congr 2
  omega
theorem step_eq (p c : Int) (k : Nat) (hk : k < 64) : p / 2 ^ (63 - k) = nextR p c k + c * (quotAt p c k * 2) := by
  have h := Int.emod_add_mul_ediv (p / 2 ^ (64 - k)) c
  have h2 := top_step p k hk
  unfold nextR restAt quotAt
  rw [← Int.mul_assoc]
  generalize p / 2 ^ (64 - k) % c = r at *
  generalize p / 2 ^ (64 - k) / c = q at *
  generalize p / 2 ^ (63 - k) = t at *
  generalize c * q = m at *
  omega
theorem step_lo (p c : Int) (k : Nat) (hk : k < 64) (hc : 0 < c) (h : nextR p c k < c) : restAt p c (k + 1) = nextR p c k ∧ quotAt p c (k + 1) = quotAt p c k * 2 := by
  have b := rest_bd p c k hc
  have hs := step_eq p c k hk
  have u := (Int.ediv_emod_unique (a := p / 2 ^ (63 - k)) (r := nextR p c k) (q := quotAt p c k * 2) hc).2 ⟨hs.symm, by unfold nextR; omega, h⟩
  have e : 64 - (k + 1) = 63 - k := by omega
  unfold restAt quotAt at *
  rw [e]
  exact ⟨u.2, u.1⟩
theorem step_hi (p c : Int) (k : Nat) (hk : k < 64) (hc : 0 < c) (h : c ≤ nextR p c k) : restAt p c (k + 1) = nextR p c k - c ∧ quotAt p c (k + 1) = quotAt p c k * 2 + 1 := by
  have b := rest_bd p c k hc
  have hs := step_eq p c k hk
  have hm : c * (quotAt p c k * 2 + 1) = c * (quotAt p c k * 2) + c := by rw [Int.mul_add, Int.mul_one]
  have u := (Int.ediv_emod_unique (a := p / 2 ^ (63 - k)) (r := nextR p c k - c) (q := quotAt p c k * 2 + 1) hc).2 ⟨by rw [hm]; omega, by omega, by unfold nextR at h ⊢; omega⟩
  have e : 64 - (k + 1) = 63 - k := by omega
  unfold restAt quotAt at *
  rw [e]
  exact ⟨u.2, u.1⟩
theorem quot_bd (p c : Int) (k : Nat) (h0 : 0 ≤ p) (hc : 0 < c) (h : hiW p < c) : 0 ≤ quotAt p c k ∧ quotAt p c k ≤ 18446744073709551615 := by
  have hp : (0 : Int) < 2 ^ (64 - k) := Int.pow_pos (by omega)
  have h1 : p < c * 18446744073709551616 := by unfold hiW at h; omega
  have h2 : p / 2 ^ (64 - k) ≤ p := Int.ediv_le_self _ h0
  have h3 : 0 ≤ p / 2 ^ (64 - k) := Int.ediv_nonneg h0 (by omega)
  have h4 : quotAt p c k < 18446744073709551616 := by
    unfold quotAt
    exact Int.ediv_lt_of_lt_mul hc (by rw [Int.mul_comm]; omega)
  exact ⟨Int.ediv_nonneg h3 (by omega), by omega⟩
theorem by_start (p c : Int) (h0 : 0 ≤ p) (h : hiW p < c) : restAt p c 0 = hiW p ∧ quotAt p c 0 = 0 := by
  have e : p / 2 ^ (64 - 0) = hiW p := rfl
  have b : 0 ≤ hiW p := by unfold hiW; omega
  unfold restAt quotAt
  rw [e]
  exact ⟨Int.emod_eq_of_lt b h, Int.ediv_eq_zero_of_lt b h⟩
theorem by_end (p c : Int) : quotAt p c 64 = p / c := by
  unfold quotAt; simp
theorem bitN (x : Int) (h : 0 ≤ x) (h2 : x ≤ 18446744073709551615) : bits .and .u64 x 1 = x % 2 := by
  obtain ⟨n, rfl⟩ := Int.eq_ofNat_of_zero_le h
  have e := u64_and_nat n 1 (by omega) (by omega)
  rw [nat_mask1] at e
  have e2 : bits .and .u64 (n : Int) 1 = bits .and .u64 (n : Int) ((1 : Nat) : Int) := rfl
  rw [e2, e]
  omega
theorem orBit (x b : Int) (h : 0 ≤ x) (h2 : x * 2 ≤ 18446744073709551615) (hb : 0 ≤ b) (hb2 : b ≤ 1) : bits .or .u64 (x * 2) b = x * 2 + b := by
  obtain ⟨n, rfl⟩ := Int.eq_ofNat_of_zero_le h
  obtain ⟨m, rfl⟩ := Int.eq_ofNat_of_zero_le hb
  have e := u64_or_nat (n * 2) m (by omega) (by omega)
  rw [nat_join 1 (n * 2) m (by omega) (by omega)] at e
  have e2 : (n : Int) * 2 = ((n * 2 : Nat) : Int) := by omega
  rw [e2, e]
  omega
theorem low_shift_bd (p : Int) (j : Nat) : 0 ≤ loW p / 2 ^ j ∧ loW p / 2 ^ j ≤ 18446744073709551615 := by
  have h := loW_bd p
  have h2 : loW p / 2 ^ j ≤ loW p := Int.ediv_le_self _ h.1
  exact ⟨Int.ediv_nonneg h.1 (Int.le_of_lt (Int.pow_pos (by omega))), by omega⟩

/-- MulDiv: whether there is an answer, and which. -/
def mdOk (a b c : Int) : Bool := decide (0 ≤ a) && decide (0 ≤ b) && decide (1 ≤ c) && decide (oz a * oz b / c ≤ 4611686018427387904)
def mdV (a b c : Int) : Int := if mdOk a b c then oz a * oz b / c else 0
theorem md_bad (a b c : Int) (h : a < 0 ∨ b < 0 ∨ c < 1) : mdV a b c = 0 ∧ mdOk a b c = false := by
  have e : mdOk a b c = false := by
    unfold mdOk
    rcases h with h | h | h
    · rw [decide_eq_false (by omega : ¬ 0 ≤ a)]; rfl
    · rw [decide_eq_false (by omega : ¬ 0 ≤ b)]; simp
    · rw [decide_eq_false (by omega : ¬ 1 ≤ c)]; simp
  exact ⟨by unfold mdV; rw [e]; rfl, e⟩
theorem md_over (a b c : Int) (h : 4611686018427387904 < oz a * oz b / c) : mdV a b c = 0 ∧ mdOk a b c = false := by
  have e : mdOk a b c = false := by
    unfold mdOk
    rw [decide_eq_false (by omega : ¬ oz a * oz b / c ≤ 4611686018427387904)]; simp
  exact ⟨by unfold mdV; rw [e]; rfl, e⟩
theorem md_good (a b c : Int) (ha : 0 ≤ a) (hb : 0 ≤ b) (hc : 1 ≤ c) (h : oz a * oz b / c ≤ 4611686018427387904) : mdV a b c = oz a * oz b / c ∧ mdOk a b c = true := by
  have e : mdOk a b c = true := by
    unfold mdOk
    rw [decide_eq_true ha, decide_eq_true hb, decide_eq_true hc, decide_eq_true h]; rfl
  exact ⟨by unfold mdV; rw [e]; rfl, e⟩
theorem hi_lt (p c : Int) (hc : 0 < c) (h : p / c ≤ 4611686018427387904) : hiW p < c := by
  have h1 : p < c * (p / c) + c := Int.lt_mul_ediv_self_add hc
  have h2 : c * (p / c) ≤ c * 4611686018427387904 := Int.mul_le_mul_of_nonneg_left h (by omega)
  unfold hiW
  omega
/-- Compare's answer. -/
def cmpV (p q : Int) : Int := if p < q then -1 else if q < p then 1 else 0
/-- Draw's answer. -/
def drawV (d n : Int) : Int := if n < 1 then 0 else d % n

theorem tmod_bd (d n : Int) (hn : 1 ≤ n) : -n < d.tmod n ∧ d.tmod n < n := by
  have h1 := Int.tmod_lt_of_pos d (b := n) (by omega)
  have h2 := Int.tmod_lt_of_pos (-d) (b := n) (by omega)
  rw [Int.neg_tmod] at h2
  omega
theorem draw_neg (d n : Int) (hn : 1 ≤ n) (h : d.tmod n < 0) : d.tmod n + n = drawV d n := by
  have b := tmod_bd d n hn
  have e := Int.tmod_add_mul_tdiv d n
  have u := (Int.ediv_emod_unique (a := d) (r := d.tmod n + n) (q := d.tdiv n - 1) (by omega : 0 < n)).2 ⟨by rw [Int.mul_sub]; omega, by omega, by omega⟩
  unfold drawV
  rw [if_neg (by omega), u.2]
theorem draw_pos (d n : Int) (hn : 1 ≤ n) (h : 0 ≤ d.tmod n) : d.tmod n = drawV d n := by
  have b := tmod_bd d n hn
  have e := Int.tmod_add_mul_tdiv d n
  have u := (Int.ediv_emod_unique (a := d) (r := d.tmod n) (q := d.tdiv n) (by omega : 0 < n)).2 ⟨by omega, by omega, by omega⟩
  unfold drawV
  rw [if_neg (by omega), u.2]

/-- The sum of those above 0; Sum's answer: at most MaxTime. -/
def sm : List Int → Int
  | [] => 0
  | x :: l => oz x + sm l
def sumV (l : List Int) : Int := if sm l ≤ 4611686018427387904 then sm l else 4611686018427387904
theorem sm_append (l m : List Int) : sm (l ++ m) = sm l + sm m := by
  induction l with
  | nil => simp [sm]
  | cons x l ih => simp only [List.cons_append, sm, ih]; omega
theorem sm_nonneg (l : List Int) : 0 ≤ sm l := by
  induction l with
  | nil => simp [sm]
  | cons x l ih => have := oz_nonneg x; simp only [sm]; omega
theorem getD_get (l : List Int) (k : Nat) (h : k < l.length) : l.getD k 0 = l[k] := by simp [List.getD, h]
theorem take_snoc (l : List Int) (k : Nat) (h : k < l.length) : l.take (k + 1) = l.take k ++ [l.getD k 0] := by
  rw [List.take_succ_eq_append_getElem h, getD_get _ _ h]
theorem sm_snoc (l : List Int) (k : Nat) (h : k < l.length) : sm (l.take (k + 1)) = sm (l.take k) + oz (l.getD k 0) := by
  rw [take_snoc l k h, sm_append]; simp [sm]
theorem sm_take_le (l : List Int) (k : Nat) : sm (l.take k) ≤ sm l := by
  have h := sm_append (l.take k) (l.drop k)
  rw [List.take_append_drop] at h
  have := sm_nonneg (l.drop k)
  omega
theorem sum_over (l : List Int) (k : Nat) (h : 4611686018427387904 < sm (l.take k)) : sumV l = 4611686018427387904 := by
  have := sm_take_le l k
  unfold sumV
  rw [if_neg (by omega)]
theorem sum_in (l : List Int) (h : sm l ≤ 4611686018427387904) : sumV l = sm l := by
  unfold sumV
  rw [if_pos h]

/-- May total be shared by the parts. -/
def mayB (total : Int) (l : List Int) : Bool := decide (0 ≤ total) && decide (total ≤ 1000000) && !decide (sumV l = 0) && l.all fun x => decide (x ≤ 4611686018427387904 / (l.length : Int))
theorem may_no1 (total : Int) (l : List Int) (h : total < 0) : mayB total l = false := by
  unfold mayB; rw [decide_eq_false (by omega : ¬ 0 ≤ total)]; rfl
theorem may_no2 (total : Int) (l : List Int) (h : 1000000 < total) : mayB total l = false := by
  unfold mayB; rw [decide_eq_false (by omega : ¬ total ≤ 1000000)]; simp
theorem may_no3 (total : Int) (l : List Int) (h : sumV l = 0) : mayB total l = false := by
  unfold mayB; rw [decide_eq_true h]; simp
theorem may_no4 (total : Int) (l : List Int) (k : Nat) (hk : k < l.length) (h : 4611686018427387904 / (l.length : Int) < l.getD k 0) : mayB total l = false := by
  have e : (l.all fun x => decide (x ≤ 4611686018427387904 / (l.length : Int))) = false := by
    rw [List.all_eq_false]
    exact ⟨l.getD k 0, by rw [getD_get _ _ hk]; exact List.getElem_mem hk, by simp only [decide_eq_true_eq]; omega⟩
  unfold mayB; rw [e]; simp
theorem may_yes (total : Int) (l : List Int) (h1 : 0 ≤ total) (h2 : total ≤ 1000000) (h3 : sumV l ≠ 0) (h4 : ∀ k, k < l.length → l.getD k 0 ≤ 4611686018427387904 / (l.length : Int)) : mayB total l = true := by
  have e : (l.all fun x => decide (x ≤ 4611686018427387904 / (l.length : Int))) = true := by
    rw [List.all_eq_true]
    intro x hx
    obtain ⟨k, hk, rfl⟩ := List.getElem_of_mem hx
    have := h4 k hk
    rw [getD_get _ _ hk] at this
    simpa using this
  unfold mayB; rw [e, decide_eq_true h1, decide_eq_true h2, decide_eq_false h3]; rfl

/-- How many of the first i are above 0. -/
def cp (l : List Int) : Nat → Int
  | 0 => 0
  | i + 1 => cp l i + if 0 < l.getD i 0 then 1 else 0
theorem cp_mono (l : List Int) (i j : Nat) (h : i ≤ j) : cp l i ≤ cp l j := by
  induction j with
  | zero => have : i = 0 := by omega
            subst this; exact Int.le_refl _
  | succ j ih =>
    by_cases e : i = j + 1
    · subst e; exact Int.le_refl _
    · have := ih (by omega)
      simp only [cp]
      split <;> omega
/-- What is left over, given one by one to those above 0: behind k places. -/
def giveF (l : List Int) (f : Nat → Int) (left : Int) (k i : Nat) : Int := f i + if i < k ∧ 0 < l.getD i 0 ∧ cp l i < left then 1 else 0
def leftF (l : List Int) (left : Int) (k : Nat) : Int := if cp l k < left then left - cp l k else 0
theorem give_start (l : List Int) (f : Nat → Int) (left : Int) (i : Nat) : giveF l f left 0 i = f i := by
  unfold giveF; rw [if_neg (by omega)]; omega
theorem left_start (l : List Int) (left : Int) (h : 0 ≤ left) : leftF l left 0 = left := by
  unfold leftF cp; split <;> omega
theorem left_bd (l : List Int) (left : Int) (k : Nat) (h : 0 ≤ left) : 0 ≤ leftF l left k ∧ leftF l left k ≤ left := by
  have h0 := cp_mono l 0 k (by omega)
  have e : cp l 0 = 0 := rfl
  unfold leftF
  split <;> omega
theorem give_done (l : List Int) (f : Nat → Int) (left : Int) (k n i : Nat) (h : leftF l left k = 0) (hi : i < n) : giveF l f left k i = giveF l f left n i := by
  have hc : left ≤ cp l k := by unfold leftF at h; split at h <;> omega
  unfold giveF
  by_cases e : i < k
  · simp [e, hi]
  · have := cp_mono l k i (by omega)
    rw [if_neg (by omega), if_neg (by omega)]
theorem give_pos (l : List Int) (f : Nat → Int) (left : Int) (k i : Nat) (h : leftF l left k ≠ 0) (hx : 0 < l.getD k 0) :
    giveF l f left (k + 1) i = if i = k then giveF l f left k k + 1 else giveF l f left k i := by
  have hc : cp l k < left := by unfold leftF at h; split at h <;> omega
  unfold giveF
  by_cases e : i = k
  · subst e
    rw [if_pos rfl, if_pos ⟨by omega, hx, hc⟩, if_neg (by omega)]; omega
  · rw [if_neg e]
    congr 1
    by_cases e2 : i < k
    · simp [e2, show i < k + 1 by omega]
    · rw [if_neg (by omega), if_neg (by omega)]
theorem left_pos (l : List Int) (left : Int) (k : Nat) (h : leftF l left k ≠ 0) (hx : 0 < l.getD k 0) : leftF l left (k + 1) = leftF l left k - 1 := by
  have e : cp l (k + 1) = cp l k + 1 := by simp only [cp]; rw [if_pos hx]
  unfold leftF at *
  rw [e]
  split at h
  · rename_i hc
    rw [if_pos hc]
    split <;> omega
  · omega
theorem give_neg (l : List Int) (f : Nat → Int) (left : Int) (k i : Nat) (hx : ¬ 0 < l.getD k 0) : giveF l f left (k + 1) i = giveF l f left k i := by
  unfold giveF
  congr 1
  by_cases e : i = k
  · subst e; rw [if_neg (by omega), if_neg (by omega)]
  · by_cases e2 : i < k
    · simp [e2, show i < k + 1 by omega]
    · rw [if_neg (by omega), if_neg (by omega)]
theorem left_neg (l : List Int) (left : Int) (k : Nat) (hx : ¬ 0 < l.getD k 0) : leftF l left (k + 1) = leftF l left k := by
  have e : cp l (k + 1) = cp l k := by simp only [cp]; rw [if_neg hx]; omega
  unfold leftF
  rw [e]

/-- The share of place i, ahead of what is left over; the sum of the first k shares. -/
def shareF (total : Int) (l : List Int) (i : Nat) : Int := mdV total (oz (l.getD i 0)) (sumV l)
def fsum (total : Int) (l : List Int) : Nat → Int
  | 0 => 0
  | k + 1 => fsum total l k + shareF total l k
/-- Spread's answer. -/
def spreadV (total : Int) (l : List Int) : List Int :=
  if mayB total l then (List.range l.length).map (giveF l (shareF total l) (total - fsum total l l.length) l.length) else []
theorem may_facts (total : Int) (l : List Int) (h : mayB total l = true) : 0 ≤ total ∧ total ≤ 1000000 ∧ sumV l ≠ 0 ∧ ∀ x ∈ l, x ≤ 4611686018427387904 / (l.length : Int) := by
  unfold mayB at h
  simp only [Bool.and_eq_true, decide_eq_true_eq, Bool.not_eq_true', decide_eq_false_iff_not, List.all_eq_true] at h
  exact ⟨h.1.1.1, h.1.1.2, h.1.2, h.2⟩

theorem sumV_bd (l : List Int) : 0 ≤ sumV l ∧ sumV l ≤ 4611686018427387904 := by
  have := sm_nonneg l
  unfold sumV
  split <;> omega
theorem sm_le (l : List Int) (m : Int) (h0 : 0 ≤ m) (h : ∀ x ∈ l, x ≤ m) : sm l ≤ l.length * m := by
  induction l with
  | nil => simp [sm]
  | cons x l ih =>
    have h1 := ih fun y hy => h y (List.mem_cons_of_mem _ hy)
    have h2 := oz_le x m (h x List.mem_cons_self) h0
    have e : ((l.length + 1 : Nat) : Int) * m = l.length * m + m := by rw [Int.natCast_add, Int.add_mul]; simp
    simp only [sm, List.length_cons]
    omega
theorem may_sum (total : Int) (l : List Int) (h : mayB total l = true) : sumV l = sm l ∧ 0 < sm l := by
  obtain ⟨h0, h1, h2, h3⟩ := may_facts total l h
  have hq : 0 ≤ 4611686018427387904 / (l.length : Int) := Int.ediv_nonneg (by omega) (by omega)
  have hs := sm_le l _ hq h3
  have hl : (l.length : Int) ≠ 0 := by
    intro e
    have : l = [] := List.eq_nil_of_length_eq_zero (by omega)
    subst this
    exact h2 rfl
  have hd : (l.length : Int) * (4611686018427387904 / (l.length : Int)) ≤ 4611686018427387904 := Int.mul_ediv_self_le hl
  have e := sum_in l (by omega)
  have := sm_nonneg l
  exact ⟨e, by omega⟩
theorem oz_le_sm (l : List Int) (k : Nat) (h : k < l.length) : oz (l.getD k 0) ≤ sm l := by
  have h1 := sm_snoc l k h
  have h2 := sm_take_le l (k + 1)
  have h3 := sm_nonneg (l.take k)
  omega
theorem share_eq (total : Int) (l : List Int) (h : mayB total l = true) (k : Nat) (hk : k < l.length) : shareF total l k = total * oz (l.getD k 0) / sm l := by
  obtain ⟨h0, h1, h2, h3⟩ := may_facts total l h
  obtain ⟨e, hp⟩ := may_sum total l h
  have hz := oz_nonneg (l.getD k 0)
  have hle := oz_le_sm l k hk
  unfold shareF
  rw [e]
  have e1 : oz total = total := oz_pos h0
  have e2 : oz (oz (l.getD k 0)) = oz (l.getD k 0) := oz_pos hz
  have hb : total * oz (l.getD k 0) / sm l ≤ total := by
    have : total * oz (l.getD k 0) ≤ total * sm l := Int.mul_le_mul_of_nonneg_left hle h0
    exact Int.le_trans (Int.ediv_le_ediv hp this) (by rw [Int.mul_ediv_cancel _ (by omega)]; exact Int.le_refl _)
  have g := (md_good total (oz (l.getD k 0)) (sm l) h0 hz (by omega) (by rw [e1, e2]; omega)).1
  rw [g, e1, e2]
theorem share_bd (total : Int) (l : List Int) (h : mayB total l = true) (k : Nat) (hk : k < l.length) : 0 ≤ shareF total l k ∧ shareF total l k ≤ 1000000 := by
  obtain ⟨h0, h1, h2, h3⟩ := may_facts total l h
  obtain ⟨e, hp⟩ := may_sum total l h
  have hz := oz_nonneg (l.getD k 0)
  have hle := oz_le_sm l k hk
  rw [share_eq total l h k hk]
  have hb : total * oz (l.getD k 0) / sm l ≤ total := by
    have : total * oz (l.getD k 0) ≤ total * sm l := Int.mul_le_mul_of_nonneg_left hle h0
    exact Int.le_trans (Int.ediv_le_ediv hp this) (by rw [Int.mul_ediv_cancel _ (by omega)]; exact Int.le_refl _)
  exact ⟨Int.ediv_nonneg (Int.mul_nonneg h0 hz) (by omega), by omega⟩
theorem fsum_mul (total : Int) (l : List Int) (h : mayB total l = true) (k : Nat) (hk : k ≤ l.length) : sm l * fsum total l k ≤ total * sm (l.take k) := by
  obtain ⟨e, hp⟩ := may_sum total l h
  induction k with
  | zero => simp [fsum, sm]
  | succ k ih =>
    have h1 := ih (by omega)
    have h2 := sm_snoc l k (by omega)
    have h3 := share_eq total l h k (by omega)
    have h4 : sm l * (total * oz (l.getD k 0) / sm l) ≤ total * oz (l.getD k 0) := Int.mul_ediv_self_le (by omega)
    simp only [fsum]
    rw [h2, h3, Int.mul_add, Int.mul_add]
    omega
theorem getD_out (l : List Int) (k : Nat) (h : l.length ≤ k) : l.getD k 0 = 0 := by simp [List.getD, h]
theorem fsum_bd (total : Int) (l : List Int) (h : mayB total l = true) (k : Nat) : 0 ≤ fsum total l k ∧ fsum total l k ≤ total := by
  obtain ⟨h0, h1, h2, h3⟩ := may_facts total l h
  obtain ⟨e, hp⟩ := may_sum total l h
  have out : ∀ k, l.length ≤ k → shareF total l k = 0 := by
    intro k hk
    unfold shareF
    rw [getD_out l k hk, e]
    have e1 : oz total = total := oz_pos h0
    have e2 : oz (oz 0) = 0 := rfl
    have e3 : oz 0 = 0 := rfl
    have g := (md_good total (oz 0) (sm l) h0 (by rw [e3]; omega) (by omega) (by rw [e1, e2]; simp)).1
    rw [g, e1, e2]
    simp
  have pos : ∀ k, 0 ≤ fsum total l k := by
    intro k
    induction k with
    | zero => simp [fsum]
    | succ k ih =>
      simp only [fsum]
      by_cases hk : k < l.length
      · have := (share_bd total l h k hk).1
        omega
      · rw [out k (by omega)]; omega
  have le : ∀ k, k ≤ l.length → fsum total l k ≤ total := by
    intro k hk
    have h4 := fsum_mul total l h k hk
    have h5 : total * sm (l.take k) ≤ total * sm l := Int.mul_le_mul_of_nonneg_left (sm_take_le l k) h0
    rw [Int.mul_comm] at h4
    exact Int.le_of_mul_le_mul_right (Int.le_trans h4 h5) hp
  refine ⟨pos k, ?_⟩
  induction k with
  | zero => simpa [fsum] using h0
  | succ k ih =>
    by_cases hk : k < l.length
    · exact le (k + 1) (by omega)
    · simp only [fsum]
      rw [out k (by omega)]
      omega

/-- The school method on halves of 32 bits, as the program's 'times' goes: no step wraps, and what it comes to. -/
theorem times_law (x y : Nat) (hx : x < 18446744073709551616) (hy : y < 18446744073709551616) :
    (x % 4294967296) * (y % 4294967296) < 18446744073709551616 ∧
    (x / 4294967296) * (y % 4294967296) < 18446744073709551616 ∧
    (x / 4294967296) * (y % 4294967296) + (x % 4294967296) * (y % 4294967296) / 4294967296 < 18446744073709551616 ∧
    (x % 4294967296) * (y / 4294967296) < 18446744073709551616 ∧
    (x % 4294967296) * (y / 4294967296) + ((x / 4294967296) * (y % 4294967296) + (x % 4294967296) * (y % 4294967296) / 4294967296) % 4294967296 < 18446744073709551616 ∧
    (x / 4294967296) * (y / 4294967296) < 18446744073709551616 ∧
    (x / 4294967296) * (y / 4294967296) + ((x / 4294967296) * (y % 4294967296) + (x % 4294967296) * (y % 4294967296) / 4294967296) / 4294967296 < 18446744073709551616 ∧
    (x / 4294967296) * (y / 4294967296) + ((x / 4294967296) * (y % 4294967296) + (x % 4294967296) * (y % 4294967296) / 4294967296) / 4294967296 +
      ((x % 4294967296) * (y / 4294967296) + ((x / 4294967296) * (y % 4294967296) + (x % 4294967296) * (y % 4294967296) / 4294967296) % 4294967296) / 4294967296 < 18446744073709551616 ∧
    (x / 4294967296) * (y / 4294967296) + ((x / 4294967296) * (y % 4294967296) + (x % 4294967296) * (y % 4294967296) / 4294967296) / 4294967296 +
      ((x % 4294967296) * (y / 4294967296) + ((x / 4294967296) * (y % 4294967296) + (x % 4294967296) * (y % 4294967296) / 4294967296) % 4294967296) / 4294967296 = x * y / 18446744073709551616 ∧
    ((x % 4294967296) * (y / 4294967296) + ((x / 4294967296) * (y % 4294967296) + (x % 4294967296) * (y % 4294967296) / 4294967296) % 4294967296) * 4294967296 % 18446744073709551616 + (x % 4294967296) * (y % 4294967296) % 4294967296 = x * y % 18446744073709551616 := by
  have e : x * y = (x / 4294967296) * (y / 4294967296) * (4294967296 * 4294967296) + ((x / 4294967296) * (y % 4294967296) + (x % 4294967296) * (y / 4294967296)) * 4294967296 + (x % 4294967296) * (y % 4294967296) := by
    rw [← Lib.split_mul, Nat.div_add_mod' x 4294967296, Nat.div_add_mod' y 4294967296]
  have ha := Lib.half_mul_le (a := x / 4294967296) (b := y / 4294967296) (by omega) (by omega)
  have hb := Lib.half_mul_le (a := x / 4294967296) (b := y % 4294967296) (by omega) (by omega)
  have hc := Lib.half_mul_le (a := x % 4294967296) (b := y / 4294967296) (by omega) (by omega)
  have hd := Lib.half_mul_le (a := x % 4294967296) (b := y % 4294967296) (by omega) (by omega)
  rw [e]
  generalize (x / 4294967296) * (y / 4294967296) = a at *
  generalize (x / 4294967296) * (y % 4294967296) = b at *
  generalize (x % 4294967296) * (y / 4294967296) = c at *
  generalize (x % 4294967296) * (y % 4294967296) = d at *
  refine ⟨by omega, by omega, by omega, by omega, by omega, by omega, by omega, by omega, by omega, by omega⟩

end Go.Proofs.Ythmfmeibjpgokaa

/-
  The contracts of package config's row: the word for what a configuration holds.
-/
import Derived.Test.YtkninlahlgipoaaDoorConf4
import Derived.Test.YtkninlahlgipoaaDoorShelf
import Derived.Lib.AppendIntMem
import Derived.Lib.SmallJoins
namespace Go.Proofs.YtkninlahlgipoaaDoor
open Go.RowKit

theorem gTab10 : Tryd.prog.globalNamed "internal/strconv.uint64pow10" = some 1 := by kernel_rfl
/-- The tables as they lie: package config's, and the library's of the powers of ten. -/
def Tabs (w : World) : Prop := TabC w ∧ Lib.TabIs Tryd.prog w "internal/strconv.uint64pow10" .u64 Lib.pow10Tab
theorem Tabs.below {w w' : World} (h : Tabs w) (hb : Below w.heap.size w w') : Tabs w' := ⟨h.1.below hb, Go.Joins.tab_stays gTab10 h.2 hb (Nat.le_refl _)⟩
theorem Tabs.alloc {w : World} (h : Tabs w) (o : Obj) : Tabs (w.alloc o) := h.below ((Below.refl _ _).alloc (Nat.le_refl _) _)

theorem itoa_any (n : Int) (h0 : -9223372036854775808 ≤ n) (h1 : n ≤ 9223372036854775807) (w : World) (ht : Tabs w) : Calls Tryd.prog 24 #[.int .i64 n] w fun e w' => e = .returned (.string (digC n)) ∧ Below w.heap.size w w' := by
  refine (Tryd.strconv_Itoa n h0 h1 _ ht.2).mono ?_
  rintro e w1 ⟨rfl, k, os, hw⟩
  exact ⟨rfl, by subst hw; exact Lib.below_grow _ _ (Nat.le_refl _) _ _⟩

set_option maxRecDepth 100000 in
set_option maxHeartbeats 1000000 in
theorem write_num (i : Nat) (nm sw : ByteArray) (lo hi x : Int) (cs : Array Value) (hx : cs[i]? = some (.int .i64 x)) (h0 : -9223372036854775808 ≤ x) (h1 : x ≤ 9223372036854775807)
    (hn : ∀ b W, Calls Tryd.prog 36 #[.pointer (some ⟨b, 0, none⟩), .string nm] W fun e w' => e = .returned (.pointer (some ⟨b, i, none⟩)) ∧ w' = W) (w : World) (ht : Tabs w) :
    Calls Tryd.prog 22 #[rowOf nm 1 lo hi sw, .agg cs] w fun e w' => e = .returned (.string (digC x)) ∧ Below w.heap.size w w' := by
  have HN : Hid _ := hn
  have HI : Hid _ := fun W h => itoa_any x h0 h1 W h
  have HT : Hid (Tabs w) := ht
  clear hn ht
  generalize digC x = R at HI ⊢
  go_enter Tryd.func22, Tryd.ntmps22
  go_wp2_with fail
  refine (HN.out _ _).mono ?_
  rintro e w1 ⟨rfl, hw⟩
  subst w1
  go_wp2_with fail
  refine (HI.out _ ((HT.out.alloc _).alloc _)).mono ?_
  rintro e w1 ⟨rfl, hb⟩
  have HB : Hid (Below w.heap.size w w1) := (((Below.refl _ w).alloc (Nat.le_refl _) _).alloc (by simp) _).trans (hb.mono (by simp; omega))
  clear hb
  go_wp2
  go_ret
  exact ⟨rfl, HB.out⟩

set_option maxRecDepth 100000 in
set_option maxHeartbeats 1000000 in
theorem write_pol (i : Nat) (nm sw : ByteArray) (lo hi x : Int) (cs : Array Value) (hx : cs[i]? = some (.int .i64 x)) (hp : x = 1 ∨ x = 2 ∨ x = 3)
    (hn : ∀ b W, Calls Tryd.prog 36 #[.pointer (some ⟨b, 0, none⟩), .string nm] W fun e w' => e = .returned (.pointer (some ⟨b, i, none⟩)) ∧ w' = W) (w : World) :
    Calls Tryd.prog 22 #[rowOf nm 3 lo hi sw, .agg cs] w fun e w' => e = .returned (.string (polW.getD (x - 1).toNat ByteArray.empty)) ∧ Below w.heap.size w w' := by
  have HN : Hid _ := hn
  have HI : Hid _ := fun W => policyWord_any x hp W
  clear hn hp
  generalize polW.getD (x - 1).toNat ByteArray.empty = R at HI ⊢
  go_enter Tryd.func22, Tryd.ntmps22
  go_wp2_with fail
  refine (HN.out _ _).mono ?_
  rintro e w1 ⟨rfl, hw⟩
  subst w1
  go_wp2_with fail
  refine (HI.out _).mono ?_
  rintro e w1 ⟨rfl, hw⟩
  subst w1
  go_wp2
  go_ret
  exact ⟨rfl, ((Below.refl _ _).alloc (Nat.le_refl _) _).alloc (by simp) _⟩

set_option maxRecDepth 100000 in
set_option maxHeartbeats 1000000 in
theorem write_cho (i : Nat) (nm sw : ByteArray) (lo hi : Int) (q : Bool) (cs : Array Value) (hx : cs[i]? = some (.bool q))
    (hn : ∀ b W, Calls Tryd.prog 34 #[.pointer (some ⟨b, 0, none⟩), .string nm] W fun e w' => e = .returned (.pointer (some ⟨b, i, none⟩)) ∧ w' = W) (w : World) :
    Calls Tryd.prog 22 #[rowOf nm 2 lo hi sw, .agg cs] w fun e w' => e = .returned (.string (yesW.getD (bitV q).toNat ByteArray.empty)) ∧ Below w.heap.size w w' := by
  have HN : Hid _ := hn
  have HI : Hid _ := fun W => choiceWord_any q W
  clear hn
  generalize yesW.getD (bitV q).toNat ByteArray.empty = R at HI ⊢
  go_enter Tryd.func22, Tryd.ntmps22
  go_wp2_with fail
  refine (HN.out _ _).mono ?_
  rintro e w1 ⟨rfl, hw⟩
  subst w1
  go_wp2_with fail
  refine (HI.out _).mono ?_
  rintro e w1 ⟨rfl, hw⟩
  subst w1
  go_wp2
  go_ret
  exact ⟨rfl, ((Below.refl _ _).alloc (Nat.le_refl _) _).alloc (by simp) _⟩

set_option maxRecDepth 100000 in
set_option maxHeartbeats 1000000 in
theorem write_zone (nm sw z : ByteArray) (lo hi : Int) (cs : Array Value) (hx : cs[21]? = some (.string z)) (w : World) :
    Calls Tryd.prog 22 #[rowOf nm 4 lo hi sw, .agg cs] w fun e w' => e = .returned (.string (if z.size = 0 then mkS [45] else z)) ∧ Below w.heap.size w w' := by
  have HI : Hid _ := fun W => zoneWord_any z W
  generalize (if z.size = 0 then mkS [45] else z) = R at HI ⊢
  go_enter Tryd.func22, Tryd.ntmps22
  go_wp2_with fail
  refine (HI.out _).mono ?_
  rintro e w1 ⟨rfl, hw⟩
  subst w1
  go_wp2
  go_ret
  exact ⟨rfl, ((Below.refl _ _).alloc (Nat.le_refl _) _).alloc (by simp) _⟩

/-- The word for what a configuration that may be holds. -/
theorem row_write (i : Nat) (hi : i < 23) (c : Cfg) (hc : mayC c = true) (w : World) (ht : Tabs w) :
    Calls Tryd.prog 22 #[rowA i, .agg c.arr] w fun e w' => e = .returned (.string (valW c.nums c.zone i)) ∧ Below w.heap.size w w' := by
  have hf := fits_bounds ((may_parts hc).1 i hi)
  rcases kinds hi with h | h | rfl
  · by_cases e20 : i = 20
    · subst e20
      have hb : lowC 20 = 1 ∧ highC 20 = 3 := ⟨rfl, rfl⟩
      rw [hb.1, hb.2] at hf
      exact write_pol 20 (nameC 20) (mkS (rowK 20).2.2.2) (rowK 20).2.1 (rowK 20).2.2.1 (c.nums.getD 20 0) c.arr (arr_num c h) (by omega) (fun b W => numberIn_any 20 h b W) w
    · have e : valW c.nums c.zone i = digC (c.nums.getD i 0) := by
        unfold valW
        rw [if_neg (by omega), if_neg e20, if_neg (by omega)]
      have hk : (rowK i).1 = 1 := (kind_num h).1.resolve_right fun h' => e20 ((kind_num h).2.2.2.1 h')
      have hb := bounds_tab i hi
      have := write_num i (nameC i) (mkS (rowK i).2.2.2) (rowK i).2.1 (rowK i).2.2.1 (c.nums.getD i 0) c.arr (arr_num c h) (by omega) (by omega) (fun b W => numberIn_any i h b W) w ht
      rw [e]
      unfold rowA
      rw [hk]
      exact this
  · rcases h with rfl | rfl
    · exact write_cho 15 (nameC 15) (mkS (rowK 15).2.2.2) (rowK 15).2.1 (rowK 15).2.2.1 c.one c.arr rfl (fun b W => choiceIn_any 15 (.inl rfl) b W) w
    · exact write_cho 22 (nameC 22) (mkS (rowK 22).2.2.2) (rowK 22).2.1 (rowK 22).2.2.1 c.fb c.arr rfl (fun b W => choiceIn_any 22 (.inr rfl) b W) w
  · exact write_zone (nameC 21) (mkS (rowK 21).2.2.2) c.zone (rowK 21).2.1 (rowK 21).2.2.1 c.arr (arr_zone c) w

end Go.Proofs.YtkninlahlgipoaaDoor

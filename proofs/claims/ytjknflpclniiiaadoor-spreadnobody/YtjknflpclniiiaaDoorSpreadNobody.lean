/-
  SpreadNobody, for all rates, every factor and turn: where all have one rate nobody is far below; the mean never is, nor who is above it; who is below one that is far below is so, too; the order does not matter. No condition on the call.
-/
import Derived.Test.YtjknflpclniiiaaDoorSpreadAwake
import Derived.Test.YtjknflpclniiiaaDoorRefFar
import Derived.Test.YtjknflpclniiiaaDoorUMod
import Derived.Test.YtjknflpclniiiaaDoorCfgFrame
import Derived.Deep.RegionHeld3
namespace Go.Proofs.YtjknflpclniiiaaDoor
open Go.ChangeShapes Go.WideShapes Go.ChangeAt Go.RowKit
open Go.ChangeMaps (open_string shut_string)

/-- int(uint64(r) % 10001). -/
def modR (r : Int) : Int := (IntKind.u64.wrap r).tmod 10001
theorem modR_bd (r : Int) : 0 ≤ modR r ∧ modR r ≤ 10000 := by
  obtain ⟨F, h1, h2⟩ := u_modl r 10001 (by omega)
  unfold modR
  have h2' : (IntKind.u64.wrap r).tmod 10001 = (F : Int) := h2
  omega
theorem modR_ok (l : List Int) : okRates (l.map modR) := by
  intro r hr
  obtain ⟨x, _, rfl⟩ := List.mem_map.1 hr
  exact modR_bd x
theorem farV_true {s q n r f : Int} (h : farV s q n r f = true) : 0 < s - n * r ∧ f * f * (n * q - s * s) < (s - n * r) * (s - n * r) * 1000000 := by
  unfold farV at h
  simp only [Bool.and_eq_true, decide_eq_true_eq] at h
  exact h
theorem farV_same {s q n r f : Int} (h : s - n * r ≤ 0) : farV s q n r f = false := by
  unfold farV
  rw [decide_eq_false (by omega)]
  rfl
theorem farK_up {l : List Int} {f : Int} {i : Nat} (hi : i < l.length) (h : (farK l f).getD i false = true) : ¬ (sumL l ≤ l.getD i 0 * (l.length : Int)) := by
  rw [farK_get l f i hi] at h
  have := (farV_true h).1
  rw [Int.mul_comm]
  omega
theorem farK_low {l : List Int} {f : Int} {i j : Nat} (hi : i < l.length) (hj : j < l.length) (h : (farK l f).getD i false = true) (h2 : (farK l f).getD j false = false) : ¬ (l.getD j 0 ≤ l.getD i 0) := by
  intro hle
  rw [farK_get l f i hi] at h
  rw [farK_get l f j hj] at h2
  obtain ⟨h3, h4⟩ := farV_true h
  have h5 : (l.length : Int) * l.getD j 0 ≤ l.length * l.getD i 0 := Int.mul_le_mul_of_nonneg_left hle (by omega)
  have h6 : (sumL l - l.length * l.getD i 0) * (sumL l - l.length * l.getD i 0) ≤ (sumL l - l.length * l.getD j 0) * (sumL l - l.length * l.getD j 0) := Int.mul_le_mul (by omega) (by omega) (by omega) (by omega)
  have : farV (sumL l) (sqL l) l.length (l.getD j 0) f = true := by
    unfold farV
    rw [decide_eq_true (by omega), decide_eq_true (by omega)]
    rfl
  rw [this] at h2
  cases h2
theorem farA_some {l : List Int} {f : Int} (h : l.length ≤ 64) (h1 : 1 ≤ f ∧ f ≤ 10000) (h2 : okRates l) : farA l f = farK l f := farA_yes ((mayFarK_iff l f).2 ⟨h, h1.1, h1.2, h2⟩)
theorem farA_turn {l : List Int} {f : Int} (h : l.length ≤ 64) (h1 : 1 ≤ f ∧ f ≤ 10000) (h2 : okRates l) (k : Nat) : farA (l.drop k ++ l.take k) f = (farK l f).drop k ++ (farK l f).take k := by
  have e0 : (l.drop k ++ l.take k).length = l.length := by simp; omega
  rw [farA_some (by rw [e0]; exact h) h1 (fun r hr => by
    rcases List.mem_append.1 hr with h3 | h3
    · exact h2 r (List.mem_of_mem_drop h3)
    · exact h2 r (List.mem_of_mem_take h3))]
  have e1 : sumL (l.drop k ++ l.take k) = sumL l := by
    rw [sumL_append, Int.add_comm, ← sumL_append, List.take_append_drop]
  have e2 : sqL (l.drop k ++ l.take k) = sqL l := by
    rw [sqL_append, Int.add_comm, ← sqL_append, List.take_append_drop]
  unfold farK
  rw [e0, e1, e2, List.map_append, List.map_drop, List.map_take]
theorem sum_rep (n : Nat) (a : Int) : sumL (List.replicate n a) = n * a := by
  induction n with
  | zero => simp [sumL]
  | succ n ih => rw [List.replicate_succ, sumL, ih, Int.natCast_add, Int.add_mul]; omega
theorem farA_one (n : Nat) (a f : Int) (h : n ≤ 64) (h1 : 1 ≤ f ∧ f ≤ 10000) (h2 : 0 ≤ a ∧ a ≤ 10000) : farA (List.replicate n a) f = List.replicate n false := by
  rw [farA_some (by simpa using h) h1 (fun r hr => by rw [List.eq_of_mem_replicate hr]; exact h2)]
  unfold farK
  rw [List.map_replicate, farV_same (by rw [sum_rep, List.length_replicate]; omega)]
theorem one_from {w : World} {lo : Option Addr} {lc n : Nat} {cs : List Value} (h : IsRow 1 w (.slice lo n lc) n cs) (k : Nat) (hk : k ≤ n) :
    IsRow 1 w (.slice (if lc = k then lo else Option.map (fun x => x.add k) lo) (n - k) (lc - k)) (n - k) (cs.drop k) := by
  have := row_from h k hk
  rwa [Nat.mul_one] at this
theorem one_upto {w : World} {lo : Option Addr} {lc n : Nat} {cs : List Value} (h : IsRow 1 w (.slice lo n lc) n cs) (k : Nat) (hk : k ≤ n) : IsRow 1 w (.slice lo k lc) k (cs.take k) := by
  have := row_upto h k hk
  rwa [Nat.mul_one] at this
theorem val_one (l : List Int) : ∀ u ∈ l.map (Value.int .i64), u.oneCell' = true := by
  intro u hu
  obtain ⟨x, _, rfl⟩ := List.mem_map.1 hu
  rfl
theorem bval_one (l : List Bool) : ∀ u ∈ l.map Value.bool, u.oneCell' = true := by
  intro u hu
  obtain ⟨x, _, rfl⟩ := List.mem_map.1 hu
  rfl
theorem ok_in {l : List Int} (h : okRates l) : ∀ x ∈ l, -9223372036854775808 ≤ x ∧ x ≤ 9223372036854775807 := fun x hx => by have := h x hx; omega
theorem own_hit {w : World} {base e n : Nat} {v : Value} {xs : List Value} (h : w.ownsRow base e 1 v n xs) (i : Nat) (hi : i < n) : ∃ g cap, v = .slice (some ⟨g, 0, none⟩) n cap ∧ g < w.heap.size ∧ n ≤ cap ∧ w.cell? ⟨g, i, none⟩ = xs[i]? := by
  have h0 := h
  rcases h.2 with ⟨_, h1⟩ | ⟨g, cap, cur, rfl, _, hg, hn, _⟩
  · omega
  · exact ⟨g, cap, rfl, (Array.getElem?_eq_some_iff.1 hg).1, hn, h0.cellAt i (by omega)⟩

set_option maxRecDepth 100000 in
set_option maxHeartbeats 8000000 in
theorem walk_SpreadNobody (rs : List Int) (rv : Value) (f : Int) (_ : -9223372036854775808 ≤ f ∧ f ≤ 9223372036854775807) (t : Int) (_ : -9223372036854775808 ≤ t ∧ t ≤ 9223372036854775807) (w : World) (htab : TabC w) (hr : IsInts w rv rs ∧ roomy rv ∧ rs.length ≤ maxLen) :
    Calls Tryd.prog 4 #[rv, .int .i64 f, .int .i64 t] w fun e w' => e = .returned (.bool true) ∧ Below w.heap.size w w' := by
  have hr := hr.1
  obtain ⟨ro, rc, rfl⟩ := hr.shape
  have HT : Hid (TabC w) := htab
  have HR : Hid (IsInts w (.slice ro rs.length rc) rs) := hr
  have hl1 : rs.length ≤ 9223372036854775807 := hr.2.1
  clear htab hr
  by_cases h1 : rs.length < 1
  · have h1' : (rs.length : Int) < 1 := by omega
    clear h1 HR
    go_enter Tryd.func4, Tryd.ntmps4
    go_wp2_with fail
    refine (awake13_any _ HT.out).mono ?_
    rintro e w2 ⟨rfl, hb⟩
    have HB2 : Hid (Below w.heap.size w w2) := hb
    clear hb
    go_wp2
    go_ret
    exact ⟨rfl, HB2.out⟩
  have h1' : ¬ (rs.length : Int) < 1 := by omega
  by_cases h2 : 64 < rs.length
  · have h2' : (64 : Int) < (rs.length : Int) := by omega
    clear h1 h2 HR
    go_enter Tryd.func4, Tryd.ntmps4
    go_wp2_with fail
    refine (awake13_any _ HT.out).mono ?_
    rintro e w2 ⟨rfl, hb⟩
    have HB2 : Hid (Below w.heap.size w w2) := hb
    clear hb
    go_wp2
    go_ret
    exact ⟨rfl, HB2.out⟩
  have h2' : ¬ (64 : Int) < (rs.length : Int) := by omega
  obtain ⟨F0, hF1, hF2⟩ := u_modl f 10000 (by omega)
  have hF2 : (IntKind.u64.wrap f).tmod 10000 = (F0 : Int) := hF2
  obtain ⟨k0, hk1, hk2⟩ := u_modl t rs.length (by omega)
  have hF3 : IntKind.i64.wrap (F0 : Int) = (F0 : Int) := wrap_at (by omega) (by omega)
  have hF4 : IntKind.i64.wrap (1 + (F0 : Int)) = 1 + (F0 : Int) := wrap_at (by omega) (by omega)
  have hk3 : IntKind.i64.wrap (k0 : Int) = (k0 : Int) := wrap_at (by omega) (by omega)
  have hk4 : IntKind.u64.wrap (rs.length : Int) = (rs.length : Int) := by rw [IntKind.wrap_u64]; omega
  obtain ⟨fc, hfc⟩ : ∃ fc, 1 + (F0 : Int) = fc := ⟨_, rfl⟩
  have HFc : Hid (1 ≤ fc ∧ fc ≤ 10000) := by show _ ∧ _; omega
  rw [hfc] at hF4
  have HN : Hid (1 ≤ rs.length ∧ rs.length ≤ 64) := by show _ ∧ _; omega
  have HK0 : Hid (k0 < rs.length) := hk1
  obtain ⟨A, hA⟩ : ∃ A, rs.map modR = A := ⟨_, rfl⟩
  have HAo : Hid (okRates A) := by show okRates _; rw [← hA]; exact modR_ok rs
  have HAl : Hid (A.length = rs.length) := by show _ = _; rw [← hA]; simp
  have HAx : Hid (∀ k, k < rs.length → A.getD k 0 = modR (rs.getD k 0)) := fun k hk => by rw [← hA]; simp [hk]
  obtain ⟨i0, hi, hz0, hz1, hz2⟩ := info_parts infoNum
  obtain ⟨j0, ji, jz0, jz1, jz2⟩ := info_parts infoBool
  clear h1 h2 hF1 hk1 hA
  go_enter Tryd.func4, Tryd.ntmps4
  go_wp2
  clear h1' h2' hF2 hF3 hF4
  go_loopw [7, 8, 38] (fun o s i wr => ∃ k : Nat, k ≤ rs.length ∧ i = .int .i64 k ∧ s = .int .i64 (sumL (A.take k)) ∧ wr.ownsRow w.heap.size 3 1 o k ((A.take k).map (Value.int .i64)) ∧ Below w.heap.size w wr) (fun _ _ i _ => rs.length - (intOf i).toNat)
  case atStart => exact ⟨0, Nat.zero_le _, rfl, rfl, World.ownsRow_nil _ _ _ _, Below.refl _ _⟩
  case round =>
    obtain ⟨k, hk, rfl, rfl, ho, hb⟩ := hrel
    have HO : Hid (wr.ownsRow w.heap.size 3 1 u7 k ((A.take k).map (Value.int .i64))) := ho
    have HB : Hid (Below w.heap.size w wr) := hb
    clear ho hb
    have hn := HN.out
    by_cases hlt : k < rs.length
    · obtain ⟨b, off, rfl, hbl, g⟩ := (HR.out.below HB.out).hit k hlt
      have hla : k < A.length := by have := HAl.out; omega
      have HNx : Hid ((A.take (k + 1)).map (Value.int .i64) = (A.take k).map (Value.int .i64) ++ [.int .i64 (modR (rs.getD k 0))]) := by
        show _ = _
        rw [take_next A k hla 0, HAx.out k hlt]; simp
      have HSx : Hid (sumL (A.take (k + 1)) = sumL (A.take k) + modR (rs.getD k 0)) := by
        show _ = _
        rw [sumL_next A k hla, HAx.out k hlt]
      have hm := modR_bd (rs.getD k 0)
      have hm2 : (IntKind.u64.wrap (rs.getD k 0)).tmod 10001 = modR (rs.getD k 0) := rfl
      have hs := sumL_bd (HAo.out.take k)
      have hs2 : ((A.take k).length : Int) ≤ 64 := by rw [List.length_take]; omega
      have hs3 : 0 ≤ sumL (A.take k) ∧ sumL (A.take k) ≤ 640000 := by omega
      have hla2 : ((A.take k).map (Value.int .i64)).length = k := by rw [List.length_map, List.length_take]; omega
      clear hs hs2 HAx
      generalize modR (rs.getD k 0) = m at *
      generalize rs.getD k 0 = x at *
      generalize sumL (A.take k) = S at *
      generalize (A.take k).map (Value.int .i64) = E at *
      have hm3 : IntKind.i64.wrap m = m := wrap_at (by omega) (by omega)
      have hw3 : IntKind.i64.wrap (S + m) = S + m := wrap_at (by omega) (by omega)
      go_wp2_with (at_builtin; refine wpList_append_row rfl (.tmp 42) (.tmp 47) 22 rfl w.heap.size 3 i0 _ 1 8 Tryd.underlying22 hi hz0 hz1 hz2 rfl (by decide) _ k _ rfl (HO.out.alloc _) _ 1 [.int .i64 m] rfl (one_val _ _ _ _ (by simp)) (by simp [Value.oneCell']) (by unfold maxLen; omega) (by omega) (by have := HB.out.size; simp; omega) ?_)
      intro v' w2 hown hgrow _
      have HO2 : Hid (w2.ownsRow w.heap.size 3 1 v' (k + 1) ((A.take (k + 1)).map (Value.int .i64))) := by
        show World.ownsRow _ _ _ _ _ _ _
        rw [HNx.out]; exact hown
      have HB2 : Hid (Below w.heap.size w w2) := (HB.out.alloc HB.out.size _).grown hgrow (by have := HB.out.size; simp; omega) (own_base HO.out)
      obtain ⟨og, oc, rfl, hog, hoc, q⟩ := own_hit hown k (by omega)
      rw [List.getElem?_append_right (by omega), hla2, Nat.sub_self] at q
      have q : w2.cell? ⟨og, k, none⟩ = some (.int .i64 m) := q
      clear hown hgrow HO HB
      go_wp2
      go_roundw
      case rel => exact ⟨k + 1, by omega, by go_num, by rw [HSx.out], HO2.out, HB2.out⟩
      case measure => simp [intOf]; omega
    · obtain rfl : k = rs.length := by omega
      have eA : A.take rs.length = A := List.take_of_length_le (by rw [HAl.out]; exact Nat.le_refl _)
      rw [eA] at HO
      rw [eA]
      obtain ⟨lg, lc, rfl, hlg, hlc, q0⟩ := own_hit HO.out 0 (by omega)
      have HLr : Hid (IsRow 1 wr (.slice (some ⟨lg, 0, none⟩) rs.length lc) rs.length (A.map (Value.int .i64))) := isRow_own HO.out
      have HLi : Hid (IsInts wr (.slice (some ⟨lg, 0, none⟩) rs.length lc) A) := isInts_own HO.out HAl.out.symm (by rw [HAl.out]; omega) (ok_in HAo.out)
      have HLc : Hid (rs.length ≤ lc) := hlc
      have HS : Hid (0 ≤ sumL A ∧ sumL A ≤ 640000) := by have := sumL_bd HAo.out; have := HAl.out; show _ ∧ _; omega
      clear HO hlg hlc q0 eA HR HAx
      generalize (some (⟨lg, 0, none⟩ : Addr)) = la at HLr HLi ⊢
      go_wp2_with fail
      refine (far_any A fc _ _ HLi.out).mono ?_
      rintro e w4 ⟨v4, rfl, hf, hb⟩
      have HB4 : Hid (Below w.heap.size w w4) := HB.out.trans (hb.mono HB.out.size)
      have HL4 : Hid (IsRow 1 w4 (.slice la rs.length lc) rs.length (A.map (Value.int .i64))) := HLr.out.below hb
      have HI4 : Hid (IsInts w4 (.slice la rs.length lc) A) := HLi.out.below hb
      have hfe : farA A fc = farK A fc := farA_some (by rw [HAl.out]; omega) HFc.out HAo.out
      rw [hfe] at hf
      have HFl : Hid ((farK A fc).length = rs.length) := by show _ = _; rw [farK_length, HAl.out]
      obtain ⟨fo, fcap, rfl⟩ := hf.shaped
      rw [HFl.out] at hf
      have HF4 : Hid (IsBools w4 (.slice fo rs.length fcap) (farK A fc)) := hf
      have HUp : Hid (∀ i, i < rs.length → (farK A fc).getD i false = true → ¬ (sumL A ≤ A.getD i 0 * (rs.length : Int))) := fun i hi h => by
        have := farK_up (l := A) (f := fc) (i := i) (by rw [HAl.out]; exact hi) h
        rwa [HAl.out] at this
      have HLow : Hid (∀ i j, i < rs.length → j < rs.length → (farK A fc).getD i false = true → (farK A fc).getD j false = false → ¬ (A.getD j 0 ≤ A.getD i 0)) := fun i j hi hj => farK_low (by rw [HAl.out]; exact hi) (by rw [HAl.out]; exact hj)
      have HTu : Hid (∀ k, farA (A.drop k ++ A.take k) fc = (farK A fc).drop k ++ (farK A fc).take k) := farA_turn (by rw [HAl.out]; omega) HFc.out HAo.out
      have HOn : Hid (farA (List.replicate rs.length (A.getD 0 0)) fc = List.replicate rs.length false) := farA_one rs.length _ fc (by omega) HFc.out (HAo.out.at 0 (by rw [HAl.out]; omega))
      have HA64 : Hid (∀ i, i < rs.length → 0 ≤ A.getD i 0 ∧ A.getD i 0 ≤ 10000) := fun i hi => HAo.out.at i (by rw [HAl.out]; exact hi)
      clear hf hb hfe HB HLr HLi
      rw [HFl.out]
      generalize farK A fc = FA at *
      generalize sumL A = S at *
      go_wp2
      go_loopw [68] (fun i wr => ∃ i' : Nat, i' ≤ rs.length ∧ i = .int .i64 i' ∧ Below w4.heap.size w4 wr) (fun i _ => rs.length - (intOf i).toNat)
      case atStart => exact ⟨0, Nat.zero_le _, rfl, Below.refl _ _⟩
      case round =>
        obtain ⟨i', hi', rfl, hb⟩ := hrel
        have HBr : Hid (Below w4.heap.size w4 wr) := hb
        clear hb
        by_cases hil : i' < rs.length
        · obtain ⟨fb, foff, rfl, hfb, gf⟩ := (HF4.out.below HBr.out).at i' (by rw [HFl.out]; exact hil)
          obtain ⟨ab, aoff, rfl, hab, ga⟩ := (HI4.out.below HBr.out).hit i' (by rw [HAl.out]; exact hil)
          have HUp2 : Hid _ := HUp.out i' hil
          have HLow2 : Hid (∀ j, j < rs.length → _) := fun j hj => HLow.out i' j hil hj
          have hxa := HA64.out i' hil
          generalize hXa : A.getD i' 0 = xa at *
          generalize FA.getD i' false = x at *
          have hp1 : 0 ≤ xa * (rs.length : Int) ∧ xa * (rs.length : Int) ≤ 640000 := ⟨Int.mul_nonneg hxa.1 (by omega), Int.le_trans (Int.mul_le_mul hxa.2 (show (rs.length : Int) ≤ 64 by omega) (by omega) (by omega)) (by omega)⟩
          have hp2 : IntKind.i64.wrap (xa * (rs.length : Int)) = xa * (rs.length : Int) := wrap_at (by omega) (by omega)
          rcases x with _ | _
          · clear HUp2 HLow2 hp1 hp2 hxa
            go_wp2
            go_loopw [87] (fun i wi => ∃ j : Nat, j ≤ rs.length ∧ i = .int .i64 j ∧ Below w4.heap.size w4 wi) (fun i _ => rs.length - (intOf i).toNat)
            case atStart => exact ⟨0, Nat.zero_le _, rfl, HBr.out⟩
            case round =>
              obtain ⟨j, hj, rfl, hbi⟩ := hrel
              have HBi : Hid (Below w4.heap.size w4 wr) := hbi
              clear hbi HBr gf ga
              by_cases hjl : j < rs.length
              · obtain ⟨_, _, ef, hfb2, gf2⟩ := (HF4.out.below HBi.out).at j (by rw [HFl.out]; exact hjl)
                simp only [Option.some.injEq, Addr.mk.injEq] at ef
                obtain ⟨rfl, rfl, _⟩ := ef
                generalize FA.getD j false = y at *
                go_wp2
                go_quiet (fail)
                go_wp2
                go_roundw
                case rel => exact ⟨j + 1, by omega, by go_num, below_drewN HBi.out _⟩
                case measure => simp [intOf]; omega
              · go_wp2
                go_roundw
                case rel => exact ⟨i' + 1, by omega, by go_num, HBi.out⟩
                case measure => simp [intOf]; omega
          · have hup := HUp2.out (by trivial)
            clear HUp2 hp1
            go_wp2
            go_loopw [87] (fun i wi => ∃ j : Nat, j ≤ rs.length ∧ i = .int .i64 j ∧ Below w4.heap.size w4 wi) (fun i _ => rs.length - (intOf i).toNat)
            case atStart => exact ⟨0, Nat.zero_le _, rfl, HBr.out⟩
            case round =>
              obtain ⟨j, hj, rfl, hbi⟩ := hrel
              have HBi : Hid (Below w4.heap.size w4 wr) := hbi
              clear hbi HBr gf ga
              by_cases hjl : j < rs.length
              · obtain ⟨_, _, ef, hfb2, gf2⟩ := (HF4.out.below HBi.out).at j (by rw [HFl.out]; exact hjl)
                simp only [Option.some.injEq, Addr.mk.injEq] at ef
                obtain ⟨rfl, rfl, _⟩ := ef
                obtain ⟨_, _, ea, hab2, ga2⟩ := (HI4.out.below HBi.out).hit j (by rw [HAl.out]; exact hjl)
                simp only [Option.some.injEq, Addr.mk.injEq] at ea
                obtain ⟨rfl, rfl, _⟩ := ea
                obtain ⟨_, _, ea, hab3, ga3⟩ := (HI4.out.below HBi.out).hit i' (by rw [HAl.out]; exact hil)
                simp only [Option.some.injEq, Addr.mk.injEq] at ea
                obtain ⟨rfl, rfl, _⟩ := ea
                rw [hXa] at ga3
                have HLow3 : Hid _ := HLow2.out j hjl (by trivial)
                generalize A.getD j 0 = xb at *
                have n1 : (j : Int) < (rs.length : Int) := by omega
                have n2 : (i' : Int) < (rs.length : Int) := by omega
                have n3 : (0 : Int) ≤ (j : Int) := by omega
                have n4 : (0 : Int) ≤ (i' : Int) := by omega
                generalize FA.getD j false = y at *
                rcases y with _ | _
                · have hlow := HLow3.out (by first | rfl | trivial)
                  go_wp2
                  go_quiet (fail)
                  go_wp2
                  go_roundw
                  case rel => exact ⟨j + 1, by omega, by go_num, below_drewN HBi.out _⟩
                  case measure => simp [intOf]; omega
                · clear HLow3
                  go_wp2
                  go_quiet (fail)
                  go_wp2
                  go_roundw
                  case rel => exact ⟨j + 1, by omega, by go_num, below_drewN HBi.out _⟩
                  case measure => simp [intOf]; omega
              · go_wp2
                go_roundw
                case rel => exact ⟨i' + 1, by omega, by go_num, HBi.out⟩
                case measure => simp [intOf]; omega
        · clear HUp HLow
          have j1 : (0 : Int) ≤ (k0 : Int) := by omega
          have j2 : (k0 : Int) ≤ (rs.length : Int) := by have := HK0.out; omega
          have j3 : (k0 : Int) ≤ (lc : Int) := by have := HK0.out; have := HLc.out; omega
          go_wp2
          clear hk2 hk3 hk4
          have HB1 : Hid (Below w.heap.size w wr) := HB4.out.trans (HBr.out.mono HB4.out.size)
          have HLw : Hid (IsRow 1 wr (.slice la rs.length lc) rs.length (A.map (Value.int .i64))) := HL4.out.below HBr.out
          have HIw : Hid (IsInts wr (.slice la rs.length lc) A) := HI4.out.below HBr.out
          have HFw : Hid (IsBools wr (.slice fo rs.length fcap) FA) := HF4.out.below HBr.out
          have HX1 : Hid (IsRow 1 wr (.slice (if lc = k0 then la else Option.map (fun x => x.add k0) la) (rs.length - k0) (lc - k0)) (rs.length - k0) ((A.map (Value.int .i64)).drop k0)) := one_from HLw.out k0 (Nat.le_of_lt HK0.out)
          have HX2 : Hid (IsRow 1 wr (.slice la k0 lc) k0 ((A.map (Value.int .i64)).take k0)) := one_upto HLw.out k0 (Nat.le_of_lt HK0.out)
          have HIn : Hid (okRates (A.drop k0 ++ A.take k0)) := fun x hx => by
            rcases List.mem_append.1 hx with h | h
            · exact HAo.out x (List.mem_of_mem_drop h)
            · exact HAo.out x (List.mem_of_mem_take h)
          have HLn : Hid ((A.drop k0 ++ A.take k0).length = rs.length - k0 + k0) := by have := HAl.out; have := HK0.out; show _ = _; simp; omega
          have hone : ∀ u ∈ (A.map (Value.int .i64)).drop k0, u.oneCell' = true := fun u hu => val_one A u (List.mem_of_mem_drop hu)
          have htwo : ∀ u ∈ (A.map (Value.int .i64)).take k0, u.oneCell' = true := fun u hu => val_one A u (List.mem_of_mem_take hu)
          have HO1 : Hid _ := hone
          have HO2' : Hid _ := htwo
          clear hone htwo HBr HB4 HL4 HI4 HF4 hil
          have hk0 := HK0.out
          have hn := HN.out
          go_region_held3 (fun _ => True) (trivial) (first
            | ((have := H13; go_at_call 9; refine (far_any (A.drop k0 ++ A.take k0) fc _ _ HO3.out).mono ?_; rintro e w5 ⟨v5, rfl, h5, hb5⟩; have HF5 : Hid (IsBools w5 v5 (FA.drop k0 ++ FA.take k0)) := (by rw [HTu.out] at h5; exact h5); have H14 : Hid (Below wr.heap.size wr w5) := H13.out.trans (hb5.mono H13.out.size); clear h5 hb5; generalize (if lc = k0 then la else Option.map (fun x => x.add k0) la) = lo1))
            | ((have := H12; refine step_append_row (by rfl) (.tmp 121) (.tmp 124) 22 (by rfl) wr.heap.size 3 i0 _ 1 8 Tryd.underlying22 hi hz0 hz1 hz2 (by rfl) (by decide) _ (rs.length - k0) _ (by rfl) HO2.out _ k0 _ (by rfl) (HX2.out.below H12.out) HO2'.out (by unfold maxLen; omega) (by omega) H12.out.size ?_; intro v3 w3 hown3 hgrow3 hat3; have HO3 : Hid (IsInts w3 v3 (A.drop k0 ++ A.take k0)) := isInts_own (by rw [List.map_append, List.map_drop, List.map_take]; exact hown3) HLn.out.symm (by rw [HLn.out]; omega) (ok_in HIn.out); have H13 : Hid (Below wr.heap.size wr w3) := H12.out.grown hgrow3 H12.out.size HN2.out; clear hown3 hgrow3 hat3))
            | ((refine step_append_row (by rfl) (.tmp 117) (.tmp 120) 22 (by rfl) wr.heap.size 3 i0 _ 1 8 Tryd.underlying22 hi hz0 hz1 hz2 (by rfl) (by decide) _ 0 _ (by rfl) (own_empty wr _ 1 _ (Nat.le_refl _)).drew _ (rs.length - k0) _ (by rfl) (HX1.out.below ((Below.refl _ _).alloc (Nat.le_refl _) _).drew) HO1.out (by unfold maxLen; omega) (by omega) (by simp) ?_; intro v2 w2 hown2 hgrow2 hat2; have HO2 : Hid (w2.ownsRow wr.heap.size 3 1 v2 (rs.length - k0) ((A.map (Value.int .i64)).drop k0)) := (by rw [Nat.zero_add, List.nil_append] at hown2; exact hown2); have HN2 : Hid (∀ q, v2.ownBlock = some q → wr.heap.size ≤ q) := (fun q hq => by rcases hat2 with h | h <;> rw [h] at hq <;> simp [Value.ownBlock] at hq <;> omega); have H12 : Hid (Below wr.heap.size wr w2) := (((Below.refl _ _).alloc (Nat.le_refl _) _).drew).grown hgrow2 (by simp) (fun q hq => by simp [Value.ownBlock] at hq; omega); clear hown2 hgrow2 hat2)))
          have HB5 : Hid (Below w.heap.size w w5) := HB1.out.trans (H14.out.mono HB1.out.size)
          have HI5 : Hid (IsInts w5 (.slice la rs.length lc) A) := HIw.out.below H14.out
          have HFx : Hid (IsBools w5 (.slice fo rs.length fcap) FA) := HFw.out.below H14.out
          have HTl : Hid ((FA.drop k0 ++ FA.take k0).length = rs.length) := by have := HFl.out; have := HK0.out; show _ = _; simp; omega
          obtain ⟨uo, uc, rfl⟩ := HF5.out.shaped
          rw [HTl.out] at HF5
          rw [HTl.out]
          clear H14 H13 H12 HO3 HO2 HN2 HX1 HX2 HIn HLn HO1 HO2' HB1 HLw HIw HFw hk0 j3
          have hm := run_make_flat (P := Tryd.prog) 22 3 (.int .i64 0) (.int .i64 0) 1 8 Tryd.underlying22 infoNum rfl (by omega) rs.length (by omega) (by omega)
          go_upto_region 30 with fail
          generalize hW6 : World.alloc _ _ = W6
          have HX6 : Hid (HasBox W6 w5.heap.size 3 (fillV ((List.replicate rs.length (A.getD 0 0)).map (Value.int .i64)) (.int .i64 0) 0)) := by
            show HasBox _ _ _ _
            rw [← hW6, fill_start, List.length_map, List.length_replicate]
            simpa using hasBox_new w5 3 (Array.replicate rs.length (Value.int .i64 0)).toList.toArray
          have HW6 : Hid (Below w5.heap.size w5 W6) := by show Below _ _ _; rw [← hW6]; exact (Below.refl _ _).alloc (Nat.le_refl _) _
          clear hW6 hm
          go_wp2
          go_loopw [133] (fun i wi => ∃ j : Nat, j ≤ rs.length ∧ i = .int .i64 j ∧ HasBox wi w5.heap.size 3 (fillV ((List.replicate rs.length (A.getD 0 0)).map (Value.int .i64)) (.int .i64 0) j) ∧ Below w5.heap.size w5 wi) (fun i _ => rs.length - (intOf i).toNat)
          case atStart => exact ⟨0, Nat.zero_le _, rfl, HX6.out, HW6.out⟩
          case round =>
            obtain ⟨j, hj, rfl, hx, hbi⟩ := hrel
            have HX : Hid (HasBox wr w5.heap.size 3 (fillV ((List.replicate rs.length (A.getD 0 0)).map (Value.int .i64)) (.int .i64 0) j)) := hx
            have HBi : Hid (Below w5.heap.size w5 wr) := hbi
            clear hx hbi HX6 HW6
            by_cases hjl : j < rs.length
            · obtain ⟨ab, aoff, rfl, hab, ga⟩ := (HI5.out.below HBi.out).hit 0 (by rw [HAl.out]; omega)
              rw [Nat.add_zero] at ga
              have HAt : Hid ((fillV ((List.replicate rs.length (A.getD 0 0)).map (Value.int .i64)) (.int .i64 0) j)[j]? = some (.int .i64 0)) := fill_at (by rw [List.length_map, List.length_replicate]; exact hjl)
              have HSet : Hid ((fillV ((List.replicate rs.length (A.getD 0 0)).map (Value.int .i64)) (.int .i64 0) j).setIfInBounds j (.int .i64 (A.getD 0 0)) = fillV ((List.replicate rs.length (A.getD 0 0)).map (Value.int .i64)) (.int .i64 0) (j + 1)) := fill_set (by rw [List.length_map, List.length_replicate]; exact hjl) (by simp [hjl])
              generalize hA2 : fillV ((List.replicate rs.length (A.getD 0 0)).map (Value.int .i64)) (.int .i64 0) (j + 1) = A2 at *
              generalize fillV ((List.replicate rs.length (A.getD 0 0)).map (Value.int .i64)) (.int .i64 0) j = A1 at *
              generalize A.getD 0 0 = a0 at *
              have gk : wr.cell? ⟨w5.heap.size, j, none⟩ = some (.int .i64 0) := (HX.out.cell j).trans HAt.out
              have fk : wr.frozen? ⟨w5.heap.size, j, none⟩ = false := HX.out.frozen j
              have n5 : (0 : Int) < (rs.length : Int) := by omega
              have n6 : 0 < rs.length := by omega
              go_wp2
              have HX2 : Hid (HasBox (wr.setCell ⟨w5.heap.size, j, none⟩ (.int .i64 a0)) w5.heap.size 3 A2) := by show HasBox _ _ _ _; rw [← HSet.out]; exact HX.out.set _ _
              have HB2 : Hid (Below w5.heap.size w5 (wr.setCell ⟨w5.heap.size, j, none⟩ (.int .i64 a0))) := HBi.out.setCell (Nat.le_refl _) _
              go_roundw
              case rel => exact ⟨j + 1, by omega, by go_num, by rw [hA2]; exact HX2.out, HB2.out⟩
              case measure => simp [intOf]; omega
            · obtain rfl : j = rs.length := by omega
              have HNi : Hid (IsInts wr (.slice (some ⟨w5.heap.size, 0, none⟩) rs.length rs.length) (List.replicate rs.length (A.getD 0 0))) := by
                show IsInts _ _ _
                have h1 := HX.out
                have e : fillV ((List.replicate rs.length (A.getD 0 0)).map (Value.int .i64)) (.int .i64 0) rs.length = ((List.replicate rs.length (A.getD 0 0)).map (Value.int .i64)).toArray := by
                  have := fill_end ((List.replicate rs.length (A.getD 0 0)).map (Value.int .i64)) (.int .i64 0)
                  rwa [List.length_map, List.length_replicate] at this
                rw [e] at h1
                have hr := row_box (sz := 1) (n := rs.length) h1 (by simp) (by omega)
                have ha := HA64.out 0 (by omega)
                exact IsRow.asInts (by rw [List.length_replicate]; exact hr) (fun x hx => by rw [List.eq_of_mem_replicate hx]; omega)
              clear HX
              go_wp2_with fail
              refine (far_any (List.replicate rs.length (A.getD 0 0)) fc _ _ HNi.out).mono ?_
              rintro e w7 ⟨v7, rfl, h7, hb7⟩
              rw [HOn.out] at h7
              obtain ⟨zo, zc, rfl⟩ := h7.shaped
              rw [List.length_replicate] at h7
              rw [List.length_replicate]
              have HZ7 : Hid (IsBools w7 (.slice zo rs.length zc) (List.replicate rs.length false)) := h7
              have HB57 : Hid (Below w5.heap.size w5 w7) := HBi.out.trans (hb7.mono HBi.out.size)
              have HF7 : Hid (IsBools w7 (.slice fo rs.length fcap) FA) := HFx.out.below HB57.out
              have HT7 : Hid (IsBools w7 (.slice uo rs.length uc) (FA.drop k0 ++ FA.take k0)) := HF5.out.below HB57.out
              have HB7 : Hid (Below w.heap.size w w7) := HB5.out.trans (HB57.out.mono HB5.out.size)
              have HZg : Hid (∀ j, (List.replicate rs.length false).getD j false = false) := fun j => by
                rw [List.getD_eq_getElem?_getD, List.getElem?_replicate]; split <;> rfl
              have HZl : Hid ((List.replicate rs.length false).length = rs.length) := List.length_replicate
              have HT7t : Hid (TabC w7) := HT.out.below HB7.out
              clear h7 hb7 HNi HBi HI5 HFx HF5 HB57 HB5 HOn HA64 HTu
              generalize List.replicate rs.length false = Z at *
              go_wp2
              go_loopw [147] (fun i wi => ∃ j : Nat, j ≤ rs.length ∧ i = .int .i64 j ∧ Below w7.heap.size w7 wi) (fun i _ => rs.length - (intOf i).toNat)
              case atStart => exact ⟨0, Nat.zero_le _, rfl, Below.refl _ _⟩
              case round =>
                obtain ⟨j, hj, rfl, hbi⟩ := hrel
                have HBi : Hid (Below w7.heap.size w7 wr) := hbi
                clear hbi
                by_cases hjl : j < rs.length
                · obtain ⟨zb, zoff, rfl, hzb, gz⟩ := (HZ7.out.below HBi.out).at j (by rw [HZl.out]; exact hjl)
                  rw [HZg.out j] at gz
                  go_wp2
                  go_roundw
                  case rel => exact ⟨j + 1, by omega, by go_num, HBi.out⟩
                  case measure => simp [intOf]; omega
                · have j3 : (k0 : Int) ≤ (fcap : Int) := by have := HK0.out; have h3 := HF7.out.2.1.2; have h4 : rs.length ≤ fcap := h3.1; omega
                  go_wp2
                  have HBw : Hid (Below w.heap.size w wr) := HB7.out.trans (HBi.out.mono HB7.out.size)
                  have HFw : Hid (IsRow 1 wr (.slice fo rs.length fcap) rs.length (FA.map Value.bool)) := by
                    have := HF7.out.below HBi.out
                    unfold IsBools at this
                    rwa [HFl.out] at this
                  have HTw : Hid (IsBools wr (.slice uo rs.length uc) (FA.drop k0 ++ FA.take k0)) := HT7.out.below HBi.out
                  have HX1 : Hid (IsRow 1 wr (.slice (if fcap = k0 then fo else Option.map (fun x => x.add k0) fo) (rs.length - k0) (fcap - k0)) (rs.length - k0) ((FA.map Value.bool).drop k0)) := one_from HFw.out k0 (Nat.le_of_lt HK0.out)
                  have HX2 : Hid (IsRow 1 wr (.slice fo k0 fcap) k0 ((FA.map Value.bool).take k0)) := one_upto HFw.out k0 (Nat.le_of_lt HK0.out)
                  have hone : ∀ u ∈ (FA.map Value.bool).drop k0, u.oneCell' = true := fun u hu => bval_one FA u (List.mem_of_mem_drop hu)
                  have htwo : ∀ u ∈ (FA.map Value.bool).take k0, u.oneCell' = true := fun u hu => bval_one FA u (List.mem_of_mem_take hu)
                  have HO1 : Hid _ := hone
                  have HO2' : Hid _ := htwo
                  have HMp : Hid ((FA.map Value.bool).drop k0 ++ (FA.map Value.bool).take k0 = (FA.drop k0 ++ FA.take k0).map Value.bool) := by show _ = _; rw [List.map_append, List.map_drop, List.map_take]
                  have HTr : Hid (TabC wr) := HT7t.out.below HBi.out
                  clear hone htwo HF7 HT7 HBi HFw HZ7 HZg HZl HB7 HT7t
                  generalize FA.drop k0 ++ FA.take k0 = FT at *
                  have hk0 := HK0.out
                  have hn := HN.out
                  go_region_held3 (fun _ => True) (trivial) (first
                    | ((have := H15; go_at_call 7; refine (awake13_any _ (HTr.out.below H15.out)).mono ?_; rintro e w6 ⟨rfl, hb6⟩; have H16 : Hid (Below wr.heap.size wr w6) := H15.out.trans (hb6.mono H15.out.size); clear hb6))
                    | ((have := H13; go_at_call 8; refine (bools_any FT FT _ _ _ (HTw.out.below H13.out) HO3.out (by rw [HTl.out]; omega)).mono ?_; rw [decide_eq_true rfl]; rintro e w5 ⟨rfl, hb5⟩; have H15 : Hid (Below wr.heap.size wr w5) := H13.out.trans (hb5.mono H13.out.size); clear hb5; generalize (if fcap = k0 then fo else Option.map (fun x => x.add k0) fo) = fo1))
                    | ((have := H12; refine step_append_row (by rfl) (.tmp 158) (.tmp 161) 28 (by rfl) wr.heap.size 4 j0 _ 1 1 Tryd.underlying28 ji jz0 jz1 jz2 (by rfl) (by decide) _ (rs.length - k0) _ (by rfl) HO2.out _ k0 _ (by rfl) (HX2.out.below H12.out) HO2'.out (by unfold maxLen; omega) (by omega) H12.out.size ?_; intro v3 w3 hown3 hgrow3 hat3; have HO3 : Hid (IsBools w3 v3 FT) := own_bools (by rw [← HMp.out]; exact hown3) (by rw [HTl.out]; omega); have H13 : Hid (Below wr.heap.size wr w3) := H12.out.grown hgrow3 H12.out.size HN2.out; clear hown3 hgrow3 hat3))
                    | ((refine step_append_row (by rfl) (.tmp 154) (.tmp 157) 28 (by rfl) wr.heap.size 4 j0 _ 1 1 Tryd.underlying28 ji jz0 jz1 jz2 (by rfl) (by decide) _ 0 _ (by rfl) (own_empty wr _ 1 _ (Nat.le_refl _)).drew _ (rs.length - k0) _ (by rfl) (HX1.out.below ((Below.refl _ _).alloc (Nat.le_refl _) _).drew) HO1.out (by unfold maxLen; omega) (by omega) (by simp) ?_; intro v2 w2 hown2 hgrow2 hat2; have HO2 : Hid (w2.ownsRow wr.heap.size 4 1 v2 (rs.length - k0) ((FA.map Value.bool).drop k0)) := (by rw [Nat.zero_add, List.nil_append] at hown2; exact hown2); have HN2 : Hid (∀ q, v2.ownBlock = some q → wr.heap.size ≤ q) := (fun q hq => by rcases hat2 with h | h <;> rw [h] at hq <;> simp [Value.ownBlock] at hq <;> omega); have H12 : Hid (Below wr.heap.size wr w2) := (((Below.refl _ _).alloc (Nat.le_refl _) _).drew).grown hgrow2 (by simp) (fun q hq => by simp [Value.ownBlock] at hq; omega); clear hown2 hgrow2 hat2)))
                  go_wp2
                  go_ret
                  exact ⟨rfl, HBw.out.trans (H16.out.mono HBw.out.size)⟩

theorem reads_SpreadNobody (os : Os) {H : Type} (enc : TypeId × Value → H) : ∃ places, DataW.whole enc Tryd.prog ((laidWorld os).forCall (fun _ _ => 0) ⟨#[], #[.slice none 0 0, .int .i64 0, .int .i64 0], []⟩).memory Tryd.f4.params.toList Rows.spreadNobodySpec.vars false (#[.slice none 0 0, .int .i64 0, .int .i64 0] : Array Value).toList 8 = some ([.nil, .lit (.int .i64 0), .lit (.int .i64 0)], [], places) :=
  ⟨[], by kernel_rfl⟩

set_option maxRecDepth 100000 in
theorem lifted_SpreadNobody (os : Os) (started : os.Started) (H : Type) (enc : TypeId × Value → H) (F : Stop.Interp) :
    ReturnsInHanded {} Tryd.checked os 4 .any ((OpenSpec.ofChange Rows.spreadNobodySpec).preRow enc Tryd.prog Tryd.f4 Rows.spreadNobodyRow.domain false Rows.spreadNobodyRow.laid) (((OpenSpec.ofChange Rows.spreadNobodySpec).at F).post enc Tryd.prog Tryd.f4 false true false false) := by
  obtain ⟨places, hx⟩ := reads_SpreadNobody os enc
  refine returnsInHanded_of_row (C := Tryd.checked) (s := OpenSpec.ofChange Rows.spreadNobodySpec) own started (by kernel_rfl) Tryd.func4
    (witness_row_at (enc := enc) (C := Tryd.checked) false (laidWorld os) #[.slice none 0 0, .int .i64 0, .int .i64 0] rfl (by kernel_rfl) (by kernel_rfl) (by kernel_rfl)
      (OpenSpec.preRow_of_cond 8 hx (by kernel_rfl) (fun k hk => by cases hk) (by kernel_rfl) (laid_met os _))) ?_
  intro W base args ds gs before hval0 hW _ _ hsz0 hL _ _
  have htab := table hL
  have hval : ∀ (j : Nat) t v, Tryd.f4.params[j]? = some t → args[j]? = some v → Value.okWide Tryd.prog W .any base t v := hval0
  have hW' := hW
  obtain ⟨p, q, hA0, hV, rfl, hfz, hnd⟩ := hW
  have hA : DataW.TrodAll enc Tryd.prog W 0 (fun _ => true) true Tryd.f4.params.toList args.toList ds p := hA0
  rw [Tryd.params4] at hA hval
  obtain ⟨v0, vs0, d0, ds0, p0, q0, hargs, rfl, rfl, h0, r0⟩ := trodAll_cons hA
  obtain ⟨v1, vs1, d1, ds1, p1, q1, rfl, rfl, rfl, h1, r1⟩ := trodAll_cons r0
  obtain ⟨v2, vs2, d2, ds2, p2, q2, rfl, rfl, rfl, h2, r2⟩ := trodAll_cons r1
  obtain ⟨rfl, rfl, rfl⟩ := trodAll_nil r2
  obtain rfl : args = #[v0, v1, v2] := by cases args; simp_all
  obtain ⟨rfl, rfl⟩ := trodVars_none hV
  have k0 := h0
  have lt0 : ∀ x ∈ p0, x.block < W.heap.size := by obtain ⟨m, hm⟩ := k0; exact DataW.trod_lt m _ _ _ hm
  obtain ⟨z0, w0⟩ := open_nums (hval 0 22 v0 rfl rfl) h0
  obtain ⟨a1, rfl, rfl, rfl, w1⟩ := open_int Tryd.underlying3 (hval 1 3 v1 rfl rfl) h1
  obtain ⟨a2, rfl, rfl, rfl, w2⟩ := open_int Tryd.underlying3 (hval 2 3 v2 rfl rfl) h2
  clear hA0 hval0
  refine (walk_SpreadNobody z0 v0 a1 (bounds_i64 w1) a2 (bounds_i64 w2) W htab w0).mono fun e W' ⟨he, bel⟩ => ?_
  subst he
  exact ⟨_, rfl, _, _, _, [], _, [], hW', trodAll_mk1 (shut_bool Tryd.underlying4 _), (trodAll_cons_mk (Below.trod laidOut (by kernel_rfl) (of_decide_eq_true (by kernel_rfl)) k0 bel lt0) (trodAll_cons_mk (shut_int Tryd.underlying3 w1) (trodAll_cons_mk (shut_int Tryd.underlying3 w2) trodAll_mk0))), rfl, bel.frame _, fun h => by cases h⟩

theorem said_SpreadNobody : Rows.SpreadNobodySaid :=
  OpenClaim.holds_of_cond 4 Tryd.f4 rfl rfl rfl rfl rfl rfl rfl ⟨rfl, rfl, rfl, rfl, rfl⟩ rfl rfl rfl rfl rfl (by kernel_rfl) Tryd.func4 (by kernel_rfl)
    (of_decide_eq_true (by kernel_rfl)) (by unfold Func.isWrapper; first | (rw [if_pos (by decide +kernel)]; kernel_rfl) | (rw [if_neg (by decide +kernel)]; exact ⟨rfl, rfl⟩))
    (fun os started H enc _ F => by rw [OpenClaim.pre_eq_preRow]; exact lifted_SpreadNobody os started H enc F)

theorem plain_SpreadNobody (f : FuncId) (fn : Func) (hf : Tryd.pinned.checked.prog.funcNamed Rows.spreadNobodyRow.func = some f) (hfn : Tryd.pinned.checked.prog.funcs[f]? = some fn) :
    false = Tryd.pinned.checked.prog.looks [] ∧ ∀ (j : Nat) t, fn.params[j]? = some t → Tryd.pinned.checked.prog.wantsStandIn t = false := by
  obtain rfl : f = 4 := Option.some.inj ((show Tryd.prog.funcNamed Rows.spreadNobodyRow.func = some 4 by kernel_rfl).symm.trans hf) |>.symm
  obtain rfl : fn = Tryd.f4 := (Option.some.inj (Tryd.func4.symm.trans hfn)).symm
  refine ⟨by kernel_rfl, fun j t ht => ?_⟩
  rw [Tryd.params4] at ht
  have hm := Array.mem_of_getElem? ht
  simp only [List.mem_toArray, List.mem_cons, List.not_mem_nil, or_false] at hm
  rcases hm with rfl | rfl | rfl
  · exact (show Tryd.prog.wantsStandIn 22 = false by kernel_rfl)
  · exact (show Tryd.prog.wantsStandIn 3 = false by kernel_rfl)
  · exact (show Tryd.prog.wantsStandIn 3 = false by kernel_rfl)

/-- The statement. -/
theorem spreadNobody_holds : Rows.SpreadNobodyCardSaid :=
  Claim7.holds_tied_plain_at .later [] _ _ _ _ said_SpreadNobody (fun _ h => by cases h) (by kernel_rfl) (fun _ h => by cases h) spreadNobody_row_tie rfl ⟨rfl, rfl⟩ (by kernel_rfl) rfl plain_SpreadNobody (by kernel_rfl)
#print axioms spreadNobody_holds

end Go.Proofs.YtjknflpclniiiaaDoor

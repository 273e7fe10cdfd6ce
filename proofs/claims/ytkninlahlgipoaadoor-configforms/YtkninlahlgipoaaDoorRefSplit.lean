/-
  The contract of the statements' own Split (package triageref1): lines and words.
-/
import Derived.Test.YtkninlahlgipoaaDoorRefSplitKit
namespace Go.Proofs.YtkninlahlgipoaaDoor
open Go.RowKit

set_option maxRecDepth 100000 in
set_option maxHeartbeats 4000000 in
theorem rSplit_any (s : ByteArray) (w : World) (hs : s.size ≤ 9223372036854775807) :
    Calls Tryd.prog 15 #[.string s] w fun e w' => ∃ v, e = .returned (.tuple #[v, .int .i64 (splitV s).2.1, .int .i64 (splitV s).2.2]) ∧ HasLines w' v (splitV s).1 ∧ Below w.heap.size w w' := by
  obtain ⟨i0, hi, hz0, hz1, hz2⟩ := info_parts infoStr0
  obtain ⟨i1, ji, jz0, jz1, jz2⟩ := info_parts infoLine
  by_cases hbig : (4000 : Int) < (s.size : Int)
  · have hV : splitV s = ([], 0, 2) := by unfold splitV; rw [if_pos (by omega)]
    rw [hV]
    clear hV
    go_enter Tryd.func15, Tryd.ntmps15
    go_wp2
    go_ret3
    exact ⟨_, rfl, ⟨[], isLines_nil _⟩, Below.refl _ _⟩
  · have HBad : Hid (∀ i, i < (partsV s 10).length → (∀ j, j < i → lineOK ((partsV s 10).getD j ByteArray.empty) = true) → lineOK ((partsV s 10).getD i ByteArray.empty) = false → splitV s = ([], ((i + 1 : Nat) : Int), 2)) := fun i h1 h2 h3 => split_bad (by omega) i h1 h2 h3
    have HGood : Hid ((∀ j, j < (partsV s 10).length → lineOK ((partsV s 10).getD j ByteArray.empty) = true) → splitV s = (linesOf 0 (partsV s 10), 0, 0)) := fun h => split_good (by omega) h
    have hpl := partsV_length s 10
    have HPar := fun W => rParts_any s 10 W (by omega)
    generalize partsV s 10 = P at HBad HGood hpl HPar
    generalize splitV s = R at HBad HGood ⊢
    go_enter Tryd.func15, Tryd.ntmps15
    go_wp2_with fail
    refine (HPar _).mono ?_
    rintro e w1 ⟨pv, rfl, hk1, hb1⟩
    obtain ⟨po, pc, rfl⟩ := hk1.shaped
    have HK1 : Hid (IsStrs w1 (.slice po P.length pc) P) := hk1
    have HB1 : Hid (Below w.heap.size w w1) := hb1
    clear hk1 hb1 HPar
    go_wp2
    go_loopw [5, 19] (fun o q wr => ∃ (i : Nat) (vs : List Value), i ≤ P.length ∧ q = .int .i64 i ∧ (∀ j, j < i → lineOK (P.getD j ByteArray.empty) = true) ∧ HeldL wr o vs (linesOf 0 (P.take i)) ∧ wr.ownsRow w1.heap.size 38 2 o (linesOf 0 (P.take i)).length (lineCells (linesOf 0 (P.take i)) vs) ∧ Below w1.heap.size w1 wr) (fun _ q _ => P.length - (intOf q).toNat)
    case atStart => exact ⟨0, [], Nat.zero_le _, rfl, fun j h => by omega, heldL_nil _ _, World.ownsRow_nil _ _ _ _, Below.refl _ _⟩
    case round =>
      obtain ⟨i, vs, hi1, rfl, hok, hh, ho, hb⟩ := hrel
      have HOk : Hid (∀ j, j < i → lineOK (P.getD j ByteArray.empty) = true) := hok
      have HH : Hid (HeldL wr u5 vs (linesOf 0 (P.take i))) := hh
      have HO : Hid (wr.ownsRow w1.heap.size 38 2 u5 (linesOf 0 (P.take i)).length (lineCells (linesOf 0 (P.take i)) vs)) := ho
      have HB : Hid (Below w1.heap.size w1 wr) := hb
      clear hok hh ho hb
      by_cases hlt : i < P.length
      · obtain ⟨b1, o1, rfl, hbl1, g1⟩ := strsAt (HK1.out.below HB.out) i hlt
        have HBi : Hid (lineOK (P.getD i ByteArray.empty) = false → R = ([], ((i + 1 : Nat) : Int), 2)) := HBad.out i hlt HOk.out
        have HNx : Hid (linesOf 0 (P.take (i + 1)) = linesOf 0 (P.take i) ++ (if wordsOf (P.getD i ByteArray.empty) = [] then [] else [(((i + 1 : Nat) : Int), wordsOf (P.getD i ByteArray.empty))])) := linesOf_next P i hlt
        have HOk1 : Hid (lineOK (P.getD i ByteArray.empty) = true → ∀ j, j < i + 1 → lineOK (P.getD j ByteArray.empty) = true) := fun h j hj => by
          rcases Nat.lt_or_ge j i with h1 | h1
          · exact HOk.out j h1
          · have : j = i := by omega
            rw [this]; exact h
        have hDl : (linesOf 0 (P.take i)).length ≤ i := Nat.le_trans (linesOf_length 0 _) (by rw [List.length_take]; omega)
        generalize P.getD i ByteArray.empty = p at g1 HBi HNx HOk1
        generalize linesOf 0 (P.take i) = D at HH HO HNx hDl
        have HBw : Hid (Below w.heap.size w wr) := HB1.out.trans (HB.out.mono HB1.out.size)
        by_cases hlong : (200 : Int) < (p.size : Int)
        · have e := HBi.out (lineOK_long (by omega))
          subst e
          go_wp2
          go_ret3
          exact ⟨_, rfl, ⟨[], isLines_nil _⟩, HBw.out⟩
        · go_wp2
          generalize wr = wa at *
          go_loopw [31] (fun q wq => ∃ k : Nat, k ≤ p.size ∧ q = .int .i64 k ∧ (∀ b ∈ upto p k, lineB b = true) ∧ wa = wq) (fun q _ => p.size - (intOf q).toNat)
          case atStart => exact ⟨0, Nat.zero_le _, rfl, by simp [upto], rfl⟩
          case round =>
            obtain ⟨k, hk, rfl, hd, hw⟩ := hrel
            subst hw
            have HD : Hid (∀ b ∈ upto p k, lineB b = true) := hd
            clear hd
            by_cases hlt2 : k < p.size
            · have hsu := upto_succ p k hlt2
              have HDn : Hid (lineB p[k] = true → ∀ b ∈ upto p (k + 1), lineB b = true) := fun h b hb => by
                rw [hsu] at hb
                rcases List.mem_append.1 hb with h1 | h1
                · exact HD.out b h1
                · rw [List.mem_singleton] at h1; rw [h1]; exact h
              have HDg : Hid (lineB p[k] = decide (32 ≤ (p[k]).toNat ∧ (p[k]).toNat ≤ 126)) := rfl
              have HF : Hid (lineB p[k] = false → R = ([], ((i + 1 : Nat) : Int), 2)) := fun h => HBi.out (lineOK_bad k hlt2 h)
              have hub := (p[k]).toNat_lt
              clear hsu
              by_cases d1 : ((p[k]).toNat : Int) < 32
              · have e := HF.out (by rw [HDg.out, decide_eq_false_iff_not]; omega)
                subst e
                go_wp2
                go_ret3
                exact ⟨_, rfl, ⟨[], isLines_nil _⟩, HBw.out⟩
              · by_cases d2 : (126 : Int) < ((p[k]).toNat : Int)
                · have e := HF.out (by rw [HDg.out, decide_eq_false_iff_not]; omega)
                  subst e
                  go_wp2
                  go_ret3
                  exact ⟨_, rfl, ⟨[], isLines_nil _⟩, HBw.out⟩
                · have HO2 : Hid (∀ b ∈ upto p (k + 1), lineB b = true) := HDn.out (by rw [HDg.out, decide_eq_true_eq]; omega)
                  go_wp2
                  go_roundw
                  case rel => exact ⟨k + 1, by omega, by go_num, HO2.out, by first | rfl | trivial⟩
                  case measure => simp [intOf]; omega
            · have hall := HD.out
              rw [upto_all p k (by omega)] at hall
              have HOk2 : Hid (∀ j, j < i + 1 → lineOK (P.getD j ByteArray.empty) = true) := HOk1.out (lineOK_end (by omega) hall)
              clear hall
              go_wp2
              go_loopw [7, 49] (fun t q wq => ∃ k : Nat, k ≤ p.size ∧ t = .string p ∧ q = .int .i64 k ∧ (∀ b ∈ upto p k, b.toNat ≠ 35) ∧ wa = wq) (fun _ q _ => p.size - (intOf q).toNat)
              case atStart => exact ⟨0, Nat.zero_le _, rfl, rfl, by simp [upto], rfl⟩
              case round =>
                obtain ⟨k3, hk3, rfl, rfl, hd3, hw3⟩ := hrel
                subst hw3
                have key : (∃ h : k3 < p.size, (((p[k3]).toNat : Int) == 35) = false ∧ ∀ b ∈ upto p (k3 + 1), b.toNat ≠ 35) ∨ ∃ C : ByteArray, C = mkS (cutH p.data.toList) ∧ ((∃ h : k3 < p.size, (((p[k3]).toNat : Int) == 35) = true ∧ p.extract 0 k3 = C) ∨ (¬ k3 < p.size ∧ p = C)) := by
                  by_cases h : k3 < p.size
                  · by_cases hc : (p[k3]).toNat = 35
                    · exact .inr ⟨_, rfl, .inl ⟨h, by simp [hc], cutH_hit h hd3 hc⟩⟩
                    · refine .inl ⟨h, by rw [beq_eq_false_iff_ne]; omega, fun b hb => ?_⟩
                      rw [upto_succ p k3 h] at hb
                      rcases List.mem_append.1 hb with h1 | h1
                      · exact hd3 b h1
                      · rw [List.mem_singleton] at h1; rw [h1]; exact hc
                  · rw [upto_all p k3 (by omega)] at hd3
                    exact .inr ⟨_, rfl, .inr ⟨h, by rw [cutH_all hd3, mkS_data]⟩⟩
                clear hd3
                rcases key with ⟨hl3, hc3, hn3⟩ | ⟨C, hC, hwhich⟩
                · have HN3 : Hid (∀ b ∈ upto p (k3 + 1), b.toNat ≠ 35) := hn3
                  clear hn3
                  go_wp2
                  go_roundw
                  case rel => exact ⟨k3 + 1, by omega, by first | rfl | trivial, by go_num, HN3.out, by first | rfl | trivial⟩
                  case measure => simp [intOf]; omega
                · have hCs : C.size ≤ p.size := by
                    rw [hC, mkS_data' _]
                    exact (List.takeWhile_sublist _).length_le
                  have HWo : Hid (wordsOf p = wordsTo (partsV C 32) (partsV C 32).length) := by
                    show _ = _
                    unfold wordsOf wordsTo
                    rw [← hC, List.take_of_length_le (Nat.le_refl _)]
                  have hql := partsV_length C 32
                  have hPar2 := fun W => rParts_any C 32 W (by omega)
                  generalize partsV C 32 = Q at HWo hql hPar2
                  generalize wordsOf p = Wd at HWo HNx
                  clear hC
                  rcases hwhich with ⟨hl3, hc3, hex⟩ | ⟨hl3, rfl⟩
                  all_goals
                    go_wp2_with fail
                    refine (hPar2 _).mono ?_
                    rintro e w5 ⟨qv, rfl, hk5, hb5⟩
                    obtain ⟨qo, qc, rfl⟩ := hk5.shaped
                    have HK5 : Hid (IsStrs w5 (.slice qo Q.length qc) Q) := hk5
                    have HB5 : Hid (Below wa.heap.size wa w5) := hb5
                    clear hk5 hb5 hPar2
                    go_wp2
                    go_loopw [10, 63] (fun o q wq => ∃ k : Nat, k ≤ Q.length ∧ q = .int .i64 k ∧ wq.ownsRow w5.heap.size 9 1 o (wordsTo Q k).length ((wordsTo Q k).map Value.string) ∧ Below w5.heap.size w5 wq) (fun _ q _ => Q.length - (intOf q).toNat)
                    case atStart => exact ⟨0, Nat.zero_le _, rfl, World.ownsRow_nil _ _ _ _, Below.refl _ _⟩
                    case round =>
                      obtain ⟨k4, hk4, rfl, ho4, hb4⟩ := hrel
                      have HO4 : Hid (wr.ownsRow w5.heap.size 9 1 u10 (wordsTo Q k4).length ((wordsTo Q k4).map Value.string)) := ho4
                      have HB4 : Hid (Below w5.heap.size w5 wr) := hb4
                      clear ho4 hb4
                      have hwl := wordsTo_length Q k4
                      by_cases hlt4 : k4 < Q.length
                      · obtain ⟨b4, o4, rfl, hbl4, g4⟩ := strsAt (HK5.out.below HB4.out) k4 hlt4
                        have HNw : Hid (wordsTo Q (k4 + 1) = wordsTo Q k4 ++ if (Q.getD k4 ByteArray.empty).size = 0 then [] else [Q.getD k4 ByteArray.empty]) := wordsTo_next Q k4 hlt4
                        generalize Q.getD k4 ByteArray.empty = x at g4 HNw
                        generalize wordsTo Q k4 = Wk at HO4 HNw hwl
                        by_cases hx0 : x.size = 0
                        · have hx1 := empty_size x hx0
                          have hx2 : x.toList = [] := by simpa using hx1
                          have HNe : Hid (wordsTo Q (k4 + 1) = Wk) := by show _ = _; rw [HNw.out, if_pos hx0, List.append_nil]
                          clear hx0 hx1
                          go_wp2
                          go_roundw
                          case rel => exact ⟨k4 + 1, by omega, by go_num, by rw [HNe.out]; exact HO4.out, HB4.out⟩
                          case measure => simp [intOf]; omega
                        · have hx1 := nonempty_size x hx0
                          have hx2 : x.toList.isEmpty = false := by simpa using hx1
                          have HNe : Hid (wordsTo Q (k4 + 1) = Wk ++ [x]) := by show _ = _; rw [HNw.out, if_neg hx0]
                          clear hx0
                          go_wp2_with (at_builtin; refine wpList_append_row rfl (.tmp 69) (.tmp 71) 36 rfl w5.heap.size 9 i0 _ 1 16 Tryd.underlying36 hi hz0 hz1 hz2 rfl (by decide) _ Wk.length _ rfl (HO4.out.alloc _) _ 1 [.string x] rfl (one_cell _ _ _ _ (by simp)) (by simp [Value.oneCell']) (by unfold maxLen; omega) (by omega) (by have := HB4.out.size; simp; omega) ?_)
                          intro v' w6 hown hgrow _
                          have HO6 : Hid (w6.ownsRow w5.heap.size 9 1 v' (wordsTo Q (k4 + 1)).length ((wordsTo Q (k4 + 1)).map Value.string)) := by
                            show World.ownsRow _ _ _ _ _ _ _
                            rw [HNe.out, List.length_append, List.map_append]; exact hown
                          have HB6 : Hid (Below w5.heap.size w5 w6) := (HB4.out.alloc HB4.out.size _).grown hgrow (by have := HB4.out.size; simp; omega) (own_base HO4.out)
                          clear hown hgrow
                          go_wp2
                          go_roundw
                          case rel => exact ⟨k4 + 1, by omega, by go_num, HO6.out, HB6.out⟩
                          case measure => simp [intOf]; omega
                      · obtain rfl : k4 = Q.length := by omega
                        have hO7 := HO4.out
                        rw [← HWo.out] at hO7 hwl
                        obtain ⟨xo, xc, rfl⟩ := own_shape hO7
                        have HO7 : Hid (wr.ownsRow w5.heap.size 9 1 (.slice xo Wd.length xc) Wd.length (Wd.map Value.string)) := hO7
                        have HBx : Hid (Below wa.heap.size wa wr) := HB5.out.trans (HB4.out.mono HB5.out.size)
                        have HH7 : Hid (HeldL wr u5 vs D) := HH.out.below HBx.out
                        have HO8 : Hid (wr.ownsRow w1.heap.size 38 2 u5 D.length (lineCells D vs)) := own_stays HO.out HBx.out
                        have HB8 : Hid (Below w1.heap.size w1 wr) := HB.out.trans (HBx.out.mono HB.out.size)
                        clear hO7 HO4
                        by_cases h0 : Wd = []
                        · have hl0 : Wd.length = 0 := by rw [h0]; rfl
                          have HNe : Hid (linesOf 0 (P.take (i + 1)) = D) := by show _ = _; rw [HNx.out, if_pos h0, List.append_nil]
                          clear h0
                          go_wp2
                          go_roundw
                          case rel => exact ⟨i + 1, vs, by omega, by go_num, HOk2.out, by rw [HNe.out]; exact HH7.out, by rw [HNe.out]; exact HO8.out, HB8.out⟩
                          case measure => simp [intOf]; omega
                        · have hl0 : 0 < Wd.length := List.length_pos_iff.2 h0
                          have hl1 : (0 : Int) < (Wd.length : Int) := by omega
                          have HNe : Hid (linesOf 0 (P.take (i + 1)) = D ++ [(((i + 1 : Nat) : Int), Wd)]) := by show _ = _; rw [HNx.out, if_neg h0]
                          have HLt : Hid (∀ q, u5.ownBlock = some q → q < wa.heap.size) := fun q hq => (HO.out.lt q hq).2
                          have HVs : Hid (vs.length = D.length) := HH.out.1
                          have HSz5 : Hid (wa.heap.size ≤ w5.heap.size) := HB5.out.size
                          clear h0
                          go_wp2_with (at_builtin; refine wpList_append_row rfl (.tmp 77) (.tmp 82) 32 rfl w1.heap.size 38 i1 _ 2 32 Tryd.underlying32 ji jz0 jz1 jz2 rfl (by decide) _ D.length _ rfl (HO8.out.alloc _) _ 1 [.int .i64 ((i : Int) + 1), .slice xo Wd.length xc] rfl (one_line _ _ _ _ _ (by simp)) (by simp [Value.oneCell']) (by unfold maxLen; omega) (by omega) (by have := HB8.out.size; simp; omega) ?_)
                          intro v' w7 hown hgrow hat
                          have HO9 : Hid (w7.ownsRow w1.heap.size 38 2 v' (D ++ [(((i + 1 : Nat) : Int), Wd)]).length (lineCells (D ++ [(((i + 1 : Nat) : Int), Wd)]) (vs ++ [.slice xo Wd.length xc]))) := by
                            show World.ownsRow _ _ _ _ _ _ _
                            rw [List.length_append, lineCells_snoc _ _ HVs.out]; exact hown
                          have HB9 : Hid (Below w1.heap.size w1 w7) := (HB8.out.alloc HB8.out.size _).grown hgrow (by have := HB8.out.size; simp; omega) (own_base HO8.out)
                          have HH9 : Hid (HeldL w7 v' (vs ++ [.slice xo Wd.length xc]) (D ++ [(((i + 1 : Nat) : Int), Wd)])) := by
                            refine heldL_append (HH7.out.below ((Below.refl _ _).alloc (Nat.le_refl _) _)) hgrow (by simpa using hat) ((isRow_own HO7.out).below ((Below.refl _ _).alloc (Nat.le_refl _) _)) (fun _ e => ?_)
                            obtain ⟨q, hq, _⟩ := (isRow_own HO7.out).blk_lt hl0
                            have h1 := own_blkOf HO7.out q hq
                            have h2 := HLt.out q (by rw [← e, hq])
                            have h3 := HSz5.out
                            omega
                          clear hown hgrow hat
                          go_wp2
                          go_roundw
                          case rel => exact ⟨i + 1, vs ++ [.slice xo Wd.length xc], by omega, by go_num, HOk2.out, by rw [HNe.out]; exact HH9.out, by rw [HNe.out]; exact HO9.out, HB9.out⟩
                          case measure => simp [intOf]; omega
      · have HE := HGood.out (fun j hj => HOk.out j (by omega))
        subst HE
        have hH := HH.out
        have hO := HO.out
        rw [List.take_of_length_le (by omega)] at hH hO
        have HH2 : Hid (HeldL wr u5 vs (linesOf 0 P)) := hH
        have HO2 : Hid (wr.ownsRow w1.heap.size 38 2 u5 (linesOf 0 P).length (lineCells (linesOf 0 P) vs)) := hO
        clear hH hO
        go_wp2
        go_ret3
        exact ⟨u5, rfl, ⟨vs, heldL_lines HH2.out (isRow_own HO2.out)⟩, HB1.out.trans (HB.out.mono HB1.out.size)⟩

end Go.Proofs.YtkninlahlgipoaaDoor

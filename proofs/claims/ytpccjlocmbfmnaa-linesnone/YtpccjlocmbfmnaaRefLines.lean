/-
  The contracts of the statements' own answers to chapter 5 (package triageref1): Join, SameLines.
-/
import Derived.Test.YtpccjlocmbfmnaaLineKit
import Derived.Test.YtpccjlocmbfmnaaChecked
import Derived.WalkSmall
import Derived.BigQuiet
namespace Go.Proofs.Ytpccjlocmbfmnaa
open Go.RowKit

theorem mkS_append (a : List UInt8) (x : ByteArray) : mkS a ++ x = mkS (a ++ x.data.toList) := by
  apply ByteArray.ext
  unfold mkS
  simp
theorem mkS_size (a : List UInt8) : (mkS a).size = a.length := rfl

set_option maxHeartbeats 2000000 in
theorem rJoin_any (L : List LineT) (vs : List Value) (v : Value) (w : World) (hv : IsLines w v vs L) (hlen : (textL L).length ≤ 1000000) :
    Calls Try.prog 19 #[v] w fun e w' => e = .returned (.string (mkS (textL L))) ∧ Below w.heap.size w w' := by
  obtain ⟨ao, c1, rfl⟩ := hv.2.1.shaped
  have hLm : L.length ≤ 9223372036854775807 := hv.2.1.2.1.1
  have HV : Hid (IsLines w (.slice ao L.length c1) vs L) := hv
  have HLe : Hid ((textL L).length ≤ 1000000) := hlen
  clear hv hlen
  go_enter Try.func19, Try.ntmps19
  go_wp2
  go_loopw [3, 10] (fun t i wr => ∃ k : Nat, k ≤ L.length ∧ i = .int .i64 k ∧ t = .string (mkS (textL (L.take k))) ∧ Below w.heap.size w wr) (fun _ i _ => L.length - (intOf i).toNat)
  case atStart => exact ⟨0, Nat.zero_le _, rfl, rfl, Below.refl _ _⟩
  case round =>
    obtain ⟨i, hi, rfl, rfl, hb⟩ := hrel
    have HB : Hid (Below w.heap.size w wr) := hb
    clear hb
    by_cases hlt : i < L.length
    · obtain ⟨b, off, rfl, hbl, g1, g2⟩ := (HV.out.below HB.out).at i hlt
      have hW := (HV.out.below HB.out).2.2 i hlt
      have HT : Hid (textL (L.take (i + 1)) = textL (L.take i) ++ (wordsL (L.getD i (0, [])).2 ++ [10])) := textL_take L i hlt
      have HZ : Hid ((textL (L.take i) ++ (wordsL (L.getD i (0, [])).2 ++ [10])).length ≤ 1000000) := by
        show _ ≤ _
        rw [← HT.out]; exact Nat.le_trans (textL_le L (i + 1)) HLe.out
      generalize L.getD i (0, []) = l at g1 hW HT HZ
      obtain ⟨no, ws⟩ := l
      simp only at g1 hW HT HZ
      generalize vs.getD i nilW = u at g2 hW
      obtain ⟨wo, wc, rfl⟩ := hW.shaped
      have hwm : ws.length ≤ 9223372036854775807 := hW.2.1.1
      have HWs : Hid (IsStrs wr (.slice wo ws.length wc) ws) := hW
      clear hW
      generalize textL (L.take i) = A at HT HZ ⊢
      go_wp2
      have HB1 : Hid (Below w.heap.size w (wr.alloc (.cells #[.int .i64 no, .slice wo ws.length wc] 37))) := HB.out.alloc HB.out.size _
      have HWs1 : Hid (IsStrs (wr.alloc (.cells #[.int .i64 no, .slice wo ws.length wc] 37)) (.slice wo ws.length wc) ws) := HWs.out.below ((Below.refl _ _).alloc (Nat.le_refl _) _)
      generalize wr.alloc (.cells #[.int .i64 no, .slice wo ws.length wc] 37) = W1 at HB1 HWs1 ⊢
      clear HB HWs g1 g2 hbl
      go_loopw [3, 17] (fun t q wq => ∃ k : Nat, k ≤ ws.length ∧ q = .int .i64 k ∧ t = .string (mkS (A ++ wordsL (ws.take k))) ∧ Below W1.heap.size W1 wq) (fun _ q _ => ws.length - (intOf q).toNat)
      case atStart => exact ⟨0, Nat.zero_le _, rfl, by simp [wordsL, joinL], Below.refl _ _⟩
      case round =>
        obtain ⟨k, hk, rfl, rfl, hb⟩ := hrel
        have HBr : Hid (Below W1.heap.size W1 wr) := hb
        clear hb
        have hz := HZ.out
        simp only [List.length_append, List.length_singleton] at hz
        by_cases hlt2 : k < ws.length
        · obtain ⟨b2, o2, rfl, hbl2, g3⟩ := strsAt (HWs1.out.below HBr.out) k hlt2
          have hstep := wordsL_take ws k hlt2
          have hle := wordsL_le ws (k + 1)
          rw [hstep] at hle
          simp only [List.length_append] at hle
          have HStep : Hid (wordsL (ws.take (k + 1)) = wordsL (ws.take k) ++ ((if k = 0 then [] else [32]) ++ (ws.getD k ByteArray.empty).data.toList)) := hstep
          clear hstep
          generalize ws.getD k ByteArray.empty = x at g3 hle HStep
          have hxs : x.data.toList.length = x.size := rfl
          rw [hxs] at hle
          have hsz : (mkS (A ++ wordsL (ws.take k))).size = A.length + (wordsL (ws.take k)).length := by rw [mkS_size, List.length_append]
          by_cases h0 : k = 0
          · subst h0
            simp only [Nat.add_zero, if_true, List.length_nil] at g3 hle
            have HE : Hid (mkS (A ++ wordsL (ws.take 0)) ++ x = mkS (A ++ wordsL (ws.take 1))) := by
              show _ = _
              rw [mkS_append, HStep.out]; simp
            generalize mkS (A ++ wordsL (ws.take 0)) = Tx at hsz HE ⊢
            generalize (wordsL (ws.take 0)).length = z at hsz hle
            go_wp2
            go_roundw
            case rel => exact ⟨1, by omega, by go_num, by rw [HE.out], HBr.out⟩
            case measure => simp [intOf]; omega
          · rw [if_neg h0] at hle
            have HE : Hid (mkS (A ++ wordsL (ws.take k)) ++ { data := #[32] } ++ x = mkS (A ++ wordsL (ws.take (k + 1)))) := by
              show _ = _
              rw [mkS_append, mkS_append, HStep.out, if_neg h0]; simp
            generalize mkS (A ++ wordsL (ws.take k)) = Tx at hsz HE ⊢
            generalize (wordsL (ws.take k)).length = z at hsz hle
            have hk0 : (0 : Int) < (k : Int) := by omega
            have hs1 : ({ data := #[32] } : ByteArray).size = 1 := rfl
            go_wp2
            go_roundw
            case rel => exact ⟨k + 1, by omega, by go_num, by rw [HE.out], HBr.out⟩
            case measure => simp [intOf]; omega
        · obtain rfl : k = ws.length := by omega
          have HE : Hid (mkS (A ++ wordsL (ws.take ws.length)) ++ { data := #[10] } = mkS (textL (L.take (i + 1)))) := by
            show _ = _
            rw [mkS_append, HT.out, List.take_of_length_le (Nat.le_refl _)]; simp
          have hsz : (mkS (A ++ wordsL (ws.take ws.length))).size = A.length + (wordsL ws).length := by rw [mkS_size, List.length_append, List.take_of_length_le (Nat.le_refl _)]
          generalize mkS (A ++ wordsL (ws.take ws.length)) = Tx at hsz HE ⊢
          have hs1 : ({ data := #[10] } : ByteArray).size = 1 := rfl
          go_wp2
          go_roundw
          case rel => exact ⟨i + 1, by omega, by go_num, by rw [HE.out], HB1.out.trans (HBr.out.mono HB1.out.size)⟩
          case measure => simp [intOf]; omega
    · go_wp2
      go_ret
      exact ⟨by rw [List.take_of_length_le (by omega)]; rfl, HB.out⟩

theorem take_next {α : Type} {a b : List α} {k : Nat} (d : α) (h1 : k < a.length) (h2 : k < b.length) (ht : a.take k = b.take k) (h : a.getD k d = b.getD k d) : a.take (k + 1) = b.take (k + 1) := by
  rw [List.getD_eq_getElem?_getD, List.getD_eq_getElem?_getD, List.getElem?_eq_getElem h1, List.getElem?_eq_getElem h2, Option.getD_some, Option.getD_some] at h
  rw [List.take_succ_eq_append_getElem h1, List.take_succ_eq_append_getElem h2, ht, h]

theorem str_ne {x y : ByteArray} (h : x ≠ y) : (x.toList == y.toList) = false := by
  rw [beq_eq_false_iff_ne, ne_eq, ByteArray.toList_eq, ByteArray.toList_eq]
  intro e
  exact h (ByteArray.ext (by simpa using e))

set_option maxRecDepth 100000 in
set_option maxHeartbeats 2000000 in
theorem rSame_any (L M : List LineT) (vs us : List Value) (v u : Value) (w : World) (hv : IsLines w v vs L) (hu : IsLines w u us M) :
    Calls Try.prog 15 #[v, u] w fun e w' => e = .returned (.bool (decide (L = M))) ∧ Below w.heap.size w w' := by
  obtain ⟨ao, c1, rfl⟩ := hv.2.1.shaped
  obtain ⟨bo, c2, rfl⟩ := hu.2.1.shaped
  have hl1 : L.length ≤ 9223372036854775807 := hv.2.1.2.1.1
  have hl2 : M.length ≤ 9223372036854775807 := hu.2.1.2.1.1
  have HV : Hid (IsLines w (.slice ao L.length c1) vs L) := hv
  have HU : Hid (IsLines w (.slice bo M.length c2) us M) := hu
  clear hv hu
  by_cases hl : L.length = M.length
  · go_enter Try.func15, Try.ntmps15
    go_wp2
    have HL : Hid (L.length = M.length) := hl
    clear hl
    go_loopw [14] (fun i wr => ∃ k : Nat, k ≤ L.length ∧ i = .int .i64 k ∧ L.take k = M.take k ∧ Below w.heap.size w wr) (fun i _ => L.length - (intOf i).toNat)
    case atStart => exact ⟨0, Nat.zero_le _, rfl, by simp, Below.refl _ _⟩
    case round =>
      obtain ⟨k, hk, rfl, ht, hb⟩ := hrel
      have HT : Hid (L.take k = M.take k) := ht
      have HB : Hid (Below w.heap.size w wr) := hb
      clear ht hb
      by_cases hlt : k < L.length
      · have hlj : k < M.length := by have := HL.out; omega
        obtain ⟨b1, o1, rfl, hbl1, g1, g2⟩ := (HV.out.below HB.out).at k hlt
        obtain ⟨b2, o2, rfl, hbl2, g3, g4⟩ := (HU.out.below HB.out).at k hlj
        have hW1 := (HV.out.below HB.out).2.2 k hlt
        have hW2 := (HU.out.below HB.out).2.2 k hlj
        have HN : Hid (L.getD k (0, []) = M.getD k (0, []) → L.take (k + 1) = M.take (k + 1)) := take_next (0, []) hlt hlj HT.out
        have HX : Hid (L.getD k (0, []) ≠ M.getD k (0, []) → decide (L = M) = false) := fun h => decide_eq_false fun e => h (by rw [e])
        generalize L.getD k (0, []) = l at g1 hW1 HN HX
        generalize M.getD k (0, []) = m at g3 hW2 HN HX
        obtain ⟨no1, ws⟩ := l
        obtain ⟨no2, xs⟩ := m
        simp only at g1 g3 hW1 hW2
        generalize vs.getD k nilW = p1 at g2 hW1
        generalize us.getD k nilW = p2 at g4 hW2
        obtain ⟨wo, wc, rfl⟩ := hW1.shaped
        obtain ⟨xo, xc, rfl⟩ := hW2.shaped
        have hm1 : ws.length ≤ 9223372036854775807 := hW1.2.1.1
        have hm2 : xs.length ≤ 9223372036854775807 := hW2.2.1.1
        have HW1 : Hid (IsStrs wr (.slice wo ws.length wc) ws) := hW1
        have HW2 : Hid (IsStrs wr (.slice xo xs.length xc) xs) := hW2
        clear hW1 hW2
        by_cases en : no1 = no2
        · subst en
          by_cases el : ws.length = xs.length
          · have HEl : Hid (ws.length = xs.length) := el
            have q1 : ((ws.length : Int) != (xs.length : Int)) = false := by rw [el]; simp
            clear el
            go_wp2
            go_quiet (fail)
            go_wp2
            have hD := below_drewN (Below.refl wr.heap.size wr) nq
            generalize wr.drewN nq = W1 at hD ⊢
            have HD : Hid (Below wr.heap.size wr W1) := hD
            have G2 : Hid (wr.cell? ⟨b1, o1 + k * 2 + 1, none⟩ = some (.slice wo ws.length wc)) := g2
            have G4 : Hid (wr.cell? ⟨b2, o2 + k * 2 + 1, none⟩ = some (.slice xo xs.length xc)) := g4
            have HBl : Hid (b1 < wr.heap.size ∧ b2 < wr.heap.size) := ⟨hbl1, hbl2⟩
            have HB2 : Hid (Below w.heap.size w W1) := HB.out.trans (hD.mono HB.out.size)
            clear hD g1 g2 g3 g4 hbl1 hbl2 q1
            generalize wr = w0 at *
            go_loopw [49] (fun q wq => ∃ j : Nat, j ≤ ws.length ∧ q = .int .i64 j ∧ ws.take j = xs.take j ∧ Below W1.heap.size W1 wq) (fun q _ => ws.length - (intOf q).toNat)
            case atStart => exact ⟨0, Nat.zero_le _, rfl, by simp, Below.refl _ _⟩
            case round =>
              obtain ⟨j, hj, rfl, ht2, hb2⟩ := hrel
              have HT2 : Hid (ws.take j = xs.take j) := ht2
              have HB3 : Hid (Below W1.heap.size W1 wr) := hb2
              have HB4 : Hid (Below w0.heap.size w0 wr) := HD.out.trans (hb2.mono HD.out.size)
              clear ht2 hb2
              by_cases hlt2 : j < ws.length
              · have hlx : j < xs.length := by have := HEl.out; omega
                have e2 := (HB4.out.cell (p := ⟨b1, o1 + k * 2 + 1, none⟩) HBl.out.1).trans G2.out
                have e4 := (HB4.out.cell (p := ⟨b2, o2 + k * 2 + 1, none⟩) HBl.out.2).trans G4.out
                have e5 := Nat.lt_of_lt_of_le HBl.out.1 HB4.out.size
                have e6 := Nat.lt_of_lt_of_le HBl.out.2 HB4.out.size
                obtain ⟨b3, o3, rfl, hbl3, g5⟩ := strsAt (HW1.out.below HB4.out) j hlt2
                obtain ⟨b4, o4, rfl, hbl4, g6⟩ := strsAt (HW2.out.below HB4.out) j hlx
                have HN2 : Hid (ws.getD j ByteArray.empty = xs.getD j ByteArray.empty → ws.take (j + 1) = xs.take (j + 1)) := take_next ByteArray.empty hlt2 hlx HT2.out
                have HX2 : Hid (ws.getD j ByteArray.empty ≠ xs.getD j ByteArray.empty → decide (L = M) = false) := fun h => HX.out (fun e => h (by rw [Prod.mk.injEq] at e; rw [e.2]))
                generalize ws.getD j ByteArray.empty = x at g5 HN2 HX2
                generalize xs.getD j ByteArray.empty = y at g6 HN2 HX2
                by_cases exy : x = y
                · subst exy
                  have HO : Hid (ws.take (j + 1) = xs.take (j + 1)) := HN2.out rfl
                  go_wp2
                  go_quiet (fail)
                  go_wp2
                  go_roundw
                  case rel => exact ⟨j + 1, by omega, by go_num, HO.out, below_drewN HB3.out _⟩
                  case measure => simp [intOf]; omega
                · have q2 := str_ne exy
                  have HF : Hid (decide (L = M) = false) := HX2.out exy
                  clear exy
                  go_wp2
                  go_quiet (fail)
                  go_wp2
                  go_ret
                  exact ⟨by rw [HF.out]; rfl, below_drewN (HB2.out.trans (HB3.out.mono HB2.out.size)) _⟩
              · have e1 := HT2.out
                rw [List.take_of_length_le (by omega), List.take_of_length_le (by have := HEl.out; omega)] at e1
                have HO : Hid (L.take (k + 1) = M.take (k + 1)) := HN.out (by rw [e1])
                clear e1
                go_wp2
                go_roundw
                case rel => exact ⟨k + 1, by omega, by go_num, HO.out, HB2.out.trans (HB3.out.mono HB2.out.size)⟩
                case measure => simp [intOf]; omega
          · have HF : Hid (decide (L = M) = false) := HX.out (fun e => el (by rw [Prod.mk.injEq] at e; rw [e.2]))
            have q1 : ((ws.length : Int) != (xs.length : Int)) = true := by rw [bne_iff_ne]; omega
            clear el
            go_wp2
            go_quiet (fail)
            go_wp2
            go_ret
            exact ⟨by rw [HF.out]; rfl, below_drewN HB.out _⟩
        · have HF : Hid (decide (L = M) = false) := HX.out (fun e => en (by rw [Prod.mk.injEq] at e; exact e.1))
          have q1 : ((no1 : Int) != no2) = true := by rw [bne_iff_ne]; exact en
          clear en
          go_wp2
          go_quiet (fail)
          go_wp2
          go_ret
          exact ⟨by rw [HF.out]; rfl, below_drewN HB.out _⟩
      · have hl := HL.out
        have e1 := HT.out
        rw [List.take_of_length_le (by omega), List.take_of_length_le (by omega)] at e1
        have HTr : Hid (decide (L = M) = true) := decide_eq_true e1
        have hlm : ¬ k < M.length := by omega
        clear hl e1
        go_wp2
        go_ret
        exact ⟨by rw [HTr.out]; rfl, HB.out⟩
  · have q1 : ((L.length : Int) != (M.length : Int)) = true := by rw [bne_iff_ne]; omega
    have HF : Hid (decide (L = M) = false) := decide_eq_false fun e => hl (by rw [e])
    clear hl
    go_enter Try.func15, Try.ntmps15
    go_wp2
    go_ret
    exact ⟨by rw [HF.out]; rfl, Below.refl _ _⟩

end Go.Proofs.Ytpccjlocmbfmnaa

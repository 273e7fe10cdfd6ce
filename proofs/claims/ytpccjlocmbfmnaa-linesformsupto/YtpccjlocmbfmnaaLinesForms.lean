/-
  Proved: triagelaw5.LinesForms returns true for every text and all lines that are together of bulk at most 1048576, and changes nothing that was there.
-/
import Derived.Test.YtpccjlocmbfmnaaLinesFrame
import Derived.Test.YtpccjlocmbfmnaaLineOpen
import Derived.JoinedCond
namespace Go.Proofs.Ytpccjlocmbfmnaa
open Go.ChangeShapes Go.WideShapes Go.ChangeAt Go.RowKit
open Go.ChangeMaps (open_string shut_string)

/-- What a line's words weigh: one each, and their bytes. -/
def wtW (ws : List ByteArray) : Nat := ws.length + (ws.map ByteArray.size).sum
def wtL (L : List LineT) : Nat := (L.map fun l => wtW l.2).sum
theorem wtW_take (ws : List ByteArray) (k : Nat) (h : k < ws.length) : ((ws.take (k + 1)).map ByteArray.size).sum = ((ws.take k).map ByteArray.size).sum + (ws.getD k ByteArray.empty).size := by
  rw [List.take_succ_eq_append_getElem h, List.map_append, List.sum_append]
  simp [h]
theorem wtW_le (ws : List ByteArray) (k : Nat) : ((ws.take k).map ByteArray.size).sum ≤ (ws.map ByteArray.size).sum := by
  conv => rhs; rw [← List.take_append_drop k ws, List.map_append, List.sum_append]
  omega
theorem wtL_take (L : List LineT) (i : Nat) (h : i < L.length) : wtL (L.take (i + 1)) = wtL (L.take i) + wtW (L.getD i (0, [])).2 := by
  unfold wtL
  rw [List.take_succ_eq_append_getElem h, List.map_append, List.sum_append]
  simp [h]
theorem wtL_le (L : List LineT) (i : Nat) : wtL (L.take i) ≤ wtL L := by
  unfold wtL
  conv => rhs; rw [← List.take_append_drop i L, List.map_append, List.sum_append]
  omega
theorem wordsL_weight (ws : List ByteArray) : (wordsL ws).length ≤ wtW ws := by
  unfold wordsL wtW
  cases ws with
  | nil => simp [joinL]
  | cons s r =>
    simp only [List.map_cons, joinL, List.length_append, List.length_cons, List.sum_cons]
    have h1 : s.data.toList.length = s.size := rfl
    have h2 : ∀ q : List ByteArray, (List.flatMap (fun p => (32 : UInt8) :: p) (q.map fun s => s.data.toList)).length = q.length + (q.map ByteArray.size).sum := fun q => by
      induction q with
      | nil => simp
      | cons x q ih =>
        have h3 : x.data.toList.length = x.size := rfl
        simp only [List.map_cons, List.flatMap_cons, List.length_append, List.length_cons, List.sum_cons, ih, h3]
        omega
    rw [h2 r, h1]
    omega
theorem textL_weight (L : List LineT) : (textL L).length ≤ L.length + wtL L := by
  induction L with
  | nil => simp [textL]
  | cons l r ih =>
    have e : textL (l :: r) = (wordsL l.2 ++ [10]) ++ textL r := by simp [textL]
    have e2 : wtL (l :: r) = wtW l.2 + wtL r := by simp [wtL]
    have h1 := wordsL_weight l.2
    rw [e, e2]
    simp only [List.length_append, List.length_cons, List.length_nil]
    omega

theorem bulk_append {H : Type} (l r : List (DataW H)) : Rows.uptoBulkAll (l ++ r) = Rows.uptoBulkAll l + Rows.uptoBulkAll r := by
  induction l with
  | nil => simp [Rows.uptoBulkAll]
  | cons x l ih => simp only [List.cons_append, Rows.uptoBulkAll, ih]; omega
theorem bulk_strs {H : Type} (ss : List ByteArray) : wtW ss = Rows.uptoBulkAll (strs (H := H) ss) := by
  unfold wtW strs
  induction ss with
  | nil => simp [Rows.uptoBulkAll]
  | cons s r ih =>
    have h1 : s.data.toList.length = s.size := rfl
    simp only [List.map_cons, Rows.uptoBulkAll, Rows.uptoBulk, List.length_cons, List.sum_cons, ← ih, h1]
    omega
theorem bulk_lines {H : Type} {d : DataW H} {L : List LineT} (y : (d = .nil ∧ L = []) ∨ ∃ (sp : List (DataW H)) (dd : Nat → DataW H), d = .slice ((List.range L.length).map fun i => .agg [.lit (.int .i64 (L.getD i (0, [])).1), dd i]) sp ∧
      ∀ i, i < L.length → (dd i = .nil ∧ (L.getD i (0, [])).2 = []) ∨ ∃ sp', dd i = .slice (strs (L.getD i (0, [])).2) sp') : L.length + wtL L ≤ Rows.uptoBulk d := by
  rcases y with ⟨rfl, rfl⟩ | ⟨sp, dd, rfl, hd⟩
  · simp [wtL]
  · have key : ∀ n, n ≤ L.length → n + wtL (L.take n) ≤ Rows.uptoBulkAll ((List.range n).map fun i => (.agg [.lit (.int .i64 (L.getD i (0, [])).1), dd i] : DataW H)) := fun n => by
      induction n with
      | zero => intro _; simp [wtL]
      | succ n ih =>
        intro hn
        rw [List.range_succ, List.map_append, bulk_append, wtL_take L n (by omega)]
        have h1 := ih (by omega)
        simp only [List.map_cons, List.map_nil, Rows.uptoBulkAll, Rows.uptoBulk]
        rcases hd n (by omega) with ⟨e1, e2⟩ | ⟨sp', e1⟩
        · rw [e2]
          have : wtW [] = 0 := rfl
          omega
        · rw [e1]
          simp only [Rows.uptoBulk]
          rw [bulk_strs (H := H)]
          omega
    have h1 := key L.length (Nat.le_refl _)
    rw [List.take_of_length_le (Nat.le_refl _)] at h1
    simp only [Rows.uptoBulk]
    omega
theorem short_LinesForms {H : Type} {s : ByteArray} {d : DataW H} {L : List LineT} (y : (d = .nil ∧ L = []) ∨ ∃ (sp : List (DataW H)) (dd : Nat → DataW H), d = .slice ((List.range L.length).map fun i => .agg [.lit (.int .i64 (L.getD i (0, [])).1), dd i]) sp ∧
      ∀ i, i < L.length → (dd i = .nil ∧ (L.getD i (0, [])).2 = []) ∨ ∃ sp', dd i = .slice (strs (L.getD i (0, [])).2) sp')
    (hk : Rows.uptoBulkAll [.lit (.string s.data.toList), d] ≤ 1048576) : L.length + wtL L ≤ 1048576 := by
  have h1 := bulk_lines y
  simp only [Rows.uptoBulkAll] at hk
  omega

set_option maxRecDepth 100000 in
set_option maxHeartbeats 2000000 in
theorem light_any (L : List LineT) (vs : List Value) (v : Value) (w : World) (hv : IsLines w v vs L) (hlen : L.length + wtL L ≤ 1048576) :
    Calls Try.prog 9 #[v] w fun e w' => e = .returned (.int .i64 (if 3000 < L.length + wtL L then 1 else 0)) ∧ Below w.heap.size w w' := by
  obtain ⟨ao, c1, rfl⟩ := hv.2.1.shaped
  have hLm : L.length ≤ 1048576 := by omega
  have HV : Hid (IsLines w (.slice ao L.length c1) vs L) := hv
  have HLe : Hid (L.length + wtL L ≤ 1048576) := hlen
  clear hv hlen
  obtain ⟨ans, hans⟩ : ∃ ans : Int, ans = if 3000 < L.length + wtL L then 1 else 0 := ⟨_, rfl⟩
  rw [← hans]
  have HAn : Hid (ans = if 3000 < L.length + wtL L then 1 else 0) := hans
  clear hans
  go_enter Try.func9, Try.ntmps9
  go_wp2
  go_loopw [3, 12] (fun t i wr => ∃ k : Nat, k ≤ L.length ∧ i = .int .i64 k ∧ t = .int .i64 ((L.length + wtL (L.take k) : Nat) : Int) ∧ Below w.heap.size w wr) (fun _ i _ => L.length - (intOf i).toNat)
  case atStart => exact ⟨0, Nat.zero_le _, rfl, by simp [wtL], Below.refl _ _⟩
  case round =>
    obtain ⟨i, hi, rfl, rfl, hb⟩ := hrel
    have HB : Hid (Below w.heap.size w wr) := hb
    clear hb
    by_cases hlt : i < L.length
    · obtain ⟨b, off, rfl, hbl, g1, g2⟩ := (HV.out.below HB.out).at i hlt
      have hW := (HV.out.below HB.out).2.2 i hlt
      have hT := wtL_take L i hlt
      have hZ := wtL_le L (i + 1)
      have hZ2 := HLe.out
      generalize L.getD i (0, []) = l at g1 hW hT
      obtain ⟨no, ws⟩ := l
      simp only at g1 hW hT
      generalize vs.getD i nilW = u at g2 hW
      obtain ⟨wo, wc, rfl⟩ := hW.shaped
      have HWs : Hid (IsStrs wr (.slice wo ws.length wc) ws) := hW
      have hwt : wtW ws = ws.length + (ws.map ByteArray.size).sum := rfl
      generalize wtL (L.take i) = A at hT ⊢
      clear hW
      have hA : (L.length + A + ws.length : Nat) ≤ 1048576 := by omega
      have HT : Hid (wtL (L.take (i + 1)) = A + wtW ws) := hT
      have HZ : Hid (A + wtW ws + L.length ≤ 1048576) := by show _ ≤ _; omega
      have HWt : Hid (wtW ws = ws.length + (ws.map ByteArray.size).sum) := hwt
      clear hT hZ hZ2 hwt
      go_wp2
      have HB1 : Hid (Below w.heap.size w (wr.alloc (.cells #[.int .i64 no, .slice wo ws.length wc] 37))) := HB.out.alloc HB.out.size _
      have HWs1 : Hid (IsStrs (wr.alloc (.cells #[.int .i64 no, .slice wo ws.length wc] 37)) (.slice wo ws.length wc) ws) := HWs.out.below ((Below.refl _ _).alloc (Nat.le_refl _) _)
      generalize wr.alloc (.cells #[.int .i64 no, .slice wo ws.length wc] 37) = W1 at HB1 HWs1 ⊢
      clear HB HWs g1 g2 hbl
      go_loopw [3, 24] (fun t q wq => ∃ k : Nat, k ≤ ws.length ∧ q = .int .i64 k ∧ t = .int .i64 ((L.length + A + ws.length + ((ws.take k).map ByteArray.size).sum : Nat) : Int) ∧ W1 = wq) (fun _ q _ => ws.length - (intOf q).toNat)
      case atStart => exact ⟨0, Nat.zero_le _, rfl, by simp, rfl⟩
      case round =>
        obtain ⟨k, hk, rfl, rfl, hw⟩ := hrel
        subst hw
        by_cases hlt2 : k < ws.length
        · obtain ⟨b2, o2, rfl, hbl2, g3⟩ := strsAt HWs1.out k hlt2
          have hS := wtW_take ws k hlt2
          have hS2 := wtW_le ws (k + 1)
          have hz := HZ.out
          rw [HWt.out] at hz
          generalize ws.getD k ByteArray.empty = x at g3 hS
          generalize ((ws.take k).map ByteArray.size).sum = S0 at hS ⊢
          have hx : (L.length + A + ws.length + S0 + x.size : Nat) ≤ 1048576 := by omega
          have HS : Hid (((ws.take (k + 1)).map ByteArray.size).sum = S0 + x.size) := hS
          clear hS hS2 hz
          go_wp2
          go_roundw
          case rel => exact ⟨k + 1, by omega, by go_num, by rw [HS.out]; go_num, by first | rfl | trivial⟩
          case measure => simp [intOf]; omega
        · have hall : ws.take k = ws := List.take_of_length_le (by omega)
          rw [hall]
          have hz := HZ.out
          rw [HWt.out] at hz
          have HT2 : Hid (wtL (L.take (i + 1)) = A + (ws.length + (ws.map ByteArray.size).sum)) := by show _ = _; rw [HT.out, HWt.out]
          generalize (ws.map ByteArray.size).sum = S0 at hz HT2 ⊢
          clear hall
          go_wp2
          go_roundw
          case rel => exact ⟨i + 1, by omega, by go_num, by rw [HT2.out]; go_num, HB1.out⟩
          case measure => simp [intOf]; omega
    · have hall : L.take i = L := List.take_of_length_le (by omega)
      rw [hall]
      have hz := HLe.out
      have hn := HAn.out
      generalize L.length + wtL L = Q at hz hn ⊢
      clear hall HAn HLe
      by_cases h3 : (3000 : Int) < (Q : Int)
      · have h3n : 3000 < Q := by omega
        rw [if_pos h3n] at hn
        subst hn
        go_wp2
        go_ret
        exact ⟨rfl, HB.out⟩
      · have h3n : ¬ 3000 < Q := by omega
        rw [if_neg h3n] at hn
        subst hn
        go_wp2
        go_ret
        exact ⟨rfl, HB.out⟩

set_option maxRecDepth 100000 in
set_option maxHeartbeats 4000000 in
theorem walk_LinesForms (s : ByteArray) (hs0 : s.size ≤ maxLen) (v : Value) (vs : List Value) (L : List LineT) (w : World) (hv : IsLines w v vs L) (_ : ∀ l ∈ L, (-9223372036854775808 ≤ l.1 ∧ l.1 ≤ 9223372036854775807) ∧ ∀ x ∈ l.2, x.size ≤ maxLen) (hlen : L.length + wtL L ≤ 1048576) :
    Calls Try.prog 3 #[.string s, v] w fun e w' => e = .returned (.bool true) ∧ Below w.heap.size w w' := by
  have hs : s.size ≤ 9223372036854775807 := hs0
  clear hs0
  have quit : ∀ (w1 : World), Below w.heap.size w w1 → Calls Try.prog 10 #[] w1 fun e w' => e = .returned (.bool true) ∧ Below w.heap.size w w' := fun w1 hb => (awake_any w1).mono fun e w' h => ⟨h.1, hb.trans (h.2.mono hb.size)⟩
  have HQ : Hid _ := quit
  clear quit
  have HV : Hid (IsLines w v vs L) := hv
  clear hv
  by_cases hbig : (6000 : Int) < (s.size : Int)
  · go_enter Try.func3, Try.ntmps3
    go_wp2_with fail
    refine (HQ.out _ (Below.refl _ _)).mono ?_
    rintro e w8 ⟨rfl, hb8⟩
    have HB8 : Hid (Below w.heap.size w w8) := hb8
    clear hb8
    go_wp2
    go_ret
    exact ⟨rfl, HB8.out⟩
  have hlt := fun W h => light_any L vs v W h hlen
  have htx := textL_weight L
  by_cases h3 : 3000 < L.length + wtL L
  · rw [if_pos h3] at hlt
    have HLt : Hid _ := hlt
    clear hlt htx hlen h3
    go_enter Try.func3, Try.ntmps3
    go_wp2_with fail
    refine (HLt.out _ HV.out).mono ?_
    rintro e w1 ⟨rfl, hb1⟩
    have HB1 : Hid (Below w.heap.size w w1) := hb1
    clear hb1
    go_wp2_with fail
    refine (HQ.out _ HB1.out).mono ?_
    rintro e w8 ⟨rfl, hb8⟩
    have HB8 : Hid (Below w.heap.size w w8) := hb8
    clear hb8
    go_wp2
    go_ret
    exact ⟨rfl, HB8.out⟩
  · rw [if_neg h3] at hlt
    have HLt : Hid _ := hlt
    have hsp := fun W => split_any s W hs
    have hrs := fun W => rSplit_any s W hs
    have hnm := fun W => number_any s W hs
    have hrn := fun W => rNumber_any s W hs
    have hna := fun W => name_any s W hs
    have hrw := fun W => rWord_any s W hs
    have hjn := fun W h => join_any L vs v W h (by omega)
    have hrj := fun W h => rJoin_any L vs v W h (by omega)
    generalize mkS (textL L) = Tx at hjn hrj
    generalize splitV s = R at hsp hrs
    obtain ⟨M, y1, y2⟩ := R
    generalize numV s = y3 at hnm hrn
    generalize numOK s = y4 at hnm hrn
    generalize nameOK s = y5 at hna hrw
    simp only at hsp hrs
    have HSp : Hid _ := hsp
    have HRs : Hid _ := hrs
    have HNm : Hid _ := hnm
    have HRn : Hid _ := hrn
    have HNa : Hid _ := hna
    have HRw : Hid _ := hrw
    have HJn : Hid _ := hjn
    have HRj : Hid _ := hrj
    have HEq : Hid (∀ (W : World) (a b : Value) (p q : List Value), IsLines W a p M → IsLines W b q M → Calls Try.prog 15 #[a, b] W fun e w' => e = .returned (.bool true) ∧ Below W.heap.size W w') := fun W a b p q h1 h2 => by
      have := rSame_any M M p q a b W h1 h2
      simpa using this
    clear hlt htx hlen h3 hsp hrs hnm hrn hna hrw hjn hrj
    go_enter Try.func3, Try.ntmps3
    go_wp2_with fail
    refine (HLt.out _ HV.out).mono ?_
    rintro e w1 ⟨rfl, hb1⟩
    have HB1 : Hid (Below w.heap.size w w1) := hb1
    have HV1 : Hid (IsLines w1 v vs L) := HV.out.below hb1
    clear hb1 HLt HV
    go_wp2_with fail
    refine (HSp.out _).mono ?_
    rintro e w2 ⟨v2, rfl, ⟨vs2, hk2⟩, hb2⟩
    have HK2 : Hid (IsLines w2 v2 vs2 M) := hk2
    have HB2 : Hid (Below w.heap.size w w2) := HB1.out.trans (hb2.mono HB1.out.size)
    have HV2 : Hid (IsLines w2 v vs L) := HV1.out.below hb2
    clear hk2 hb2 HV1 HSp
    go_wp2_with fail
    refine (HRs.out _).mono ?_
    rintro e w3 ⟨v3, rfl, ⟨vs3, hk3⟩, hb3⟩
    have HK3 : Hid (IsLines w3 v3 vs3 M) := hk3
    have HK23 : Hid (IsLines w3 v2 vs2 M) := HK2.out.below hb3
    have HB3 : Hid (Below w.heap.size w w3) := HB2.out.trans (hb3.mono HB2.out.size)
    have HV3 : Hid (IsLines w3 v vs L) := HV2.out.below hb3
    clear hk3 hb3 HV2 HRs HK2
    go_wp2_with fail
    refine (HNm.out _).mono ?_
    rintro e w4 ⟨rfl, hb4⟩
    have HB4 : Hid (Below w.heap.size w w4) := HB3.out.trans (hb4.mono HB3.out.size)
    have HV4 : Hid (IsLines w4 v vs L) := HV3.out.below hb4
    have HK24 : Hid (IsLines w4 v2 vs2 M) := HK23.out.below hb4
    have HK34 : Hid (IsLines w4 v3 vs3 M) := HK3.out.below hb4
    clear hb4 HV3 HNm HK23 HK3
    go_wp2_with fail
    refine (HRn.out _).mono ?_
    rintro e w5 ⟨rfl, hw5⟩
    have hb5 : Below w4.heap.size w4 w5 := by first | exact hw5 | (rw [hw5]; exact Below.refl _ _)
    have HB5 : Hid (Below w.heap.size w w5) := HB4.out.trans (hb5.mono HB4.out.size)
    have HV5 : Hid (IsLines w5 v vs L) := HV4.out.below hb5
    have HK25 : Hid (IsLines w5 v2 vs2 M) := HK24.out.below hb5
    have HK35 : Hid (IsLines w5 v3 vs3 M) := HK34.out.below hb5
    clear hb5 hw5 HV4 HRn HK24 HK34
    go_wp2_with fail
    refine (HEq.out _ _ _ _ _ HK25.out HK35.out).mono ?_
    rintro e w6 ⟨rfl, hb6⟩
    have HB6 : Hid (Below w.heap.size w w6) := HB5.out.trans (hb6.mono HB5.out.size)
    have HV6 : Hid (IsLines w6 v vs L) := HV5.out.below hb6
    clear hb6 HV5 HEq HK25 HK35
    go_wp2_with fail
    refine (HNa.out _).mono ?_
    rintro e w7 ⟨rfl, hb7⟩
    have HB7 : Hid (Below w.heap.size w w7) := HB6.out.trans (hb7.mono HB6.out.size)
    have HV7 : Hid (IsLines w7 v vs L) := HV6.out.below hb7
    clear hb7 HV6 HNa
    go_wp2_with fail
    refine (HRw.out _).mono ?_
    rintro e w9 ⟨rfl, hw9⟩
    subst w9
    go_wp2_with fail
    refine (HJn.out _ HV7.out).mono ?_
    rintro e w10 ⟨rfl, hb10⟩
    have HB10 : Hid (Below w.heap.size w w10) := HB7.out.trans (hb10.mono HB7.out.size)
    have HV10 : Hid (IsLines w10 v vs L) := HV7.out.below hb10
    clear hb10 HV7 HJn HRw
    go_wp2_with fail
    refine (HRj.out _ HV10.out).mono ?_
    rintro e w11 ⟨rfl, hb11⟩
    have HB11 : Hid (Below w.heap.size w w11) := HB10.out.trans (hb11.mono HB10.out.size)
    clear hb11 HV10 HRj
    go_wp2_with fail
    refine (HQ.out _ HB11.out).mono ?_
    rintro e w8 ⟨rfl, hb8⟩
    have HB8 : Hid (Below w.heap.size w w8) := hb8
    clear hb8
    go_wp2
    go_ret
    exact ⟨rfl, HB8.out⟩


set_option maxRecDepth 100000 in
theorem lifted_LinesForms (os : Os) (started : os.Started) (H : Type) (enc : TypeId × Value → H) (F : Stop.Interp) :
    ReturnsInHanded {} Try.checked os 3 .any ((Rows.OpenSpec.upto Rows.linesFormsSpec).pre6 enc Try.prog Try.f3 Rows.linesFormsUptoRow.domain false) (((Rows.OpenSpec.upto Rows.linesFormsSpec).at F).post enc Try.prog Try.f3 false true false false) := by
  refine returnsInHanded_of_cond (C := Try.checked) (s := Rows.OpenSpec.upto Rows.linesFormsSpec) (k := Rows.uptoSmall) rfl own started (by kernel_rfl) Try.func3
    (OpenSpec.witness (enc := enc) (C := Try.checked) (s := Rows.OpenSpec.upto Rows.linesFormsSpec) (k := Rows.uptoSmall) rfl false ⟨#[], #[.string ByteArray.empty, .slice none 0 0], []⟩ 8 (by kernel_rfl) (by kernel_rfl) (by kernel_rfl)
      (x := ([.lit (.string []), .nil], [], [])) (by kernel_rfl) rfl (by kernel_rfl)) ?_
  intro W base args ds gs before hval0 hW hcnd hk0 hholds
  have hval : ∀ (j : Nat) t v, Try.f3.params[j]? = some t → args[j]? = some v → Value.okWide Try.prog W .any base t v := hval0
  have hW' := hW
  obtain ⟨p, q, hA0, hV, rfl, hfz, hnd⟩ := hW
  have hA : DataW.TrodAll enc Try.prog W 0 (fun _ => true) true Try.f3.params.toList args.toList ds p := hA0
  rw [Try.params3] at hA hval
  obtain ⟨v0, vs0, d0, ds0, p0, q0, hargs, rfl, rfl, h0, r0⟩ := trodAll_cons hA
  obtain ⟨v1, vs1, d1, ds1, p1, q1, rfl, rfl, rfl, h1, r1⟩ := trodAll_cons r0
  obtain ⟨rfl, rfl, rfl⟩ := trodAll_nil r1
  obtain rfl : args = #[v0, v1] := by cases args; simp_all
  obtain ⟨rfl, rfl⟩ := trodVars_none hV
  obtain ⟨a0, rfl, rfl, rfl, w0⟩ := open_string Try.underlying9 (hval 0 9 v0 rfl rfl) h0
  have k1 := h1
  have lt1 : ∀ x ∈ p1, x.block < W.heap.size := by obtain ⟨m, hm⟩ := k1; exact DataW.trod_lt m _ _ _ hm
  obtain ⟨us1, z1, w1, x1, y1⟩ := open_lines Try.underlying22 Try.underlying37 (by kernel_rfl) rfl rfl (by kernel_rfl) (by kernel_rfl) Try.underlying3 Try.underlying35 Try.underlying9 (by kernel_rfl) (hval 1 22 v1 rfl rfl) h1
  clear hA0 hval0
  have hk : Rows.uptoBulkAll (_ ++ []) ≤ 1048576 := of_decide_eq_true hk0
  rw [List.append_nil] at hk
  refine (walk_LinesForms a0 w0 _ us1 z1 W w1 x1 (short_LinesForms y1 hk)).mono fun e W' ⟨he, bel⟩ => ?_
  subst he
  exact ⟨_, rfl, _, _, _, [], _, [], hW', trodAll_mk1 (shut_bool Try.underlying4 _), (trodAll_cons_mk (shut_string Try.underlying9 w0) (trodAll_cons_mk (Below.trod laidOut (by kernel_rfl) (of_decide_eq_true (by kernel_rfl)) k1 bel lt1) trodAll_mk0)), rfl, bel.frame _, fun h => by cases h⟩

theorem over_LinesForms : Rows.linesFormsUptoRow.holds Try.pinned (Rows.OpenSpec.upto Rows.linesFormsSpec) :=
  OpenClaim.holds_of_cond 3 Try.f3 rfl rfl rfl rfl rfl rfl rfl ⟨rfl, rfl, rfl, rfl, rfl⟩ rfl rfl rfl rfl rfl (by kernel_rfl) Try.func3 (by kernel_rfl)
    (of_decide_eq_true (by kernel_rfl)) (by unfold Func.isWrapper; first | (rw [if_pos (by decide +kernel)]; kernel_rfl) | (rw [if_neg (by decide +kernel)]; exact ⟨rfl, rfl⟩))
    (fun os started H enc _ F => lifted_LinesForms os started H enc F)

/-- The statement. -/
theorem linesFormsUpto_holds : Rows.LinesFormsUptoSaid := over_LinesForms
#print axioms linesFormsUpto_holds

end Go.Proofs.Ytpccjlocmbfmnaa

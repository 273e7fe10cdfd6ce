/-
  Proved: triagelaw5.LinesBack returns true for all rows of texts and every text and changes nothing that was there. No condition.
-/
import Derived.Test.YtpccjlocmbfmnaaLinesFrame
import Derived.Test.YtpccjlocmbfmnaaLinesMath
import Derived.Test.YtpccjlocmbfmnaaLineOpen
namespace Go.Proofs.Ytpccjlocmbfmnaa
open Go.ChangeShapes Go.WideShapes Go.ChangeAt Go.RowKit
open Go.ChangeMaps (open_string shut_string)

theorem numberedL_snoc (i : Nat) (rows : List (List ByteArray)) (ws : List ByteArray) : numberedL i (rows ++ [ws]) = numberedL i rows ++ [(((i + rows.length + 1 : Nat) : Int), ws)] := by
  induction rows generalizing i with
  | nil => rfl
  | cons x r ih =>
    rw [List.cons_append, numberedL, ih, numberedL, List.cons_append, List.length_cons, show i + 1 + r.length + 1 = i + (r.length + 1) + 1 by omega]
theorem numberedL_length (i : Nat) (rows : List (List ByteArray)) : (numberedL i rows).length = rows.length := by
  induction rows generalizing i with
  | nil => rfl
  | cons x r ih => rw [numberedL, List.length_cons, ih, List.length_cons]
theorem numberedL_getD (i : Nat) (rows : List (List ByteArray)) (j : Nat) (h : j < rows.length) : ((numberedL i rows).getD j (0, [])).2 = rows.getD j [] := by
  induction rows generalizing i j with
  | nil => simp at h
  | cons x r ih =>
    cases j with
    | zero => rfl
    | succ j => simpa [numberedL] using ih (i + 1) j (by simpa using h)
theorem wordsL_short {ws : List ByteArray} (h : ∀ s ∈ ws, s.size ≤ 12) : (wordsL ws).length ≤ ws.length * 13 := by
  unfold wordsL
  cases ws with
  | nil => simp [joinL]
  | cons s r =>
    simp only [List.map_cons, joinL, List.length_append, List.length_cons]
    have h1 : s.data.toList.length ≤ 12 := h s (by simp)
    have h2 : ∀ q : List ByteArray, (∀ x ∈ q, x.size ≤ 12) → (List.flatMap (fun p => (32 : UInt8) :: p) (q.map fun s => s.data.toList)).length ≤ q.length * 13 := fun q hq => by
      induction q with
      | nil => simp
      | cons x q ih =>
        have h3 : x.data.toList.length ≤ 12 := hq x (by simp)
        have h4 := ih (fun y hy => hq y (by simp [hy]))
        simp only [List.map_cons, List.flatMap_cons, List.length_append, List.length_cons]
        omega
    have h3 := h2 r (fun x hx => h x (by simp [hx]))
    omega
theorem textL_short (i : Nat) {rows : List (List ByteArray)} (h : ∀ ws ∈ rows, (wordsL ws).length ≤ 200) : (textL (numberedL i rows)).length ≤ rows.length * 201 := by
  induction rows generalizing i with
  | nil => simp [numberedL, textL]
  | cons ws r ih =>
    have e : textL (numberedL i (ws :: r)) = (wordsL ws ++ [10]) ++ textL (numberedL (i + 1) r) := by simp [textL, numberedL]
    rw [e]
    have h1 := h ws (by simp)
    have h2 := ih (i + 1) (fun x hx => h x (by simp [hx]))
    simp only [List.length_append, List.length_cons, List.length_nil]
    omega

/-- A row that is let through. -/
def RowOK (ws : List ByteArray) : Prop := (ws ≠ [] ∧ ∀ s ∈ ws, Clean s) ∧ (wordsL ws).length ≤ 200
theorem rowOK_of {ws : List ByteArray} (h0 : ¬ (ws.length : Int) < 1) (h1 : ¬ (8 : Int) < (ws.length : Int)) (h : ∀ s ∈ ws, nameOK s = true) : RowOK ws := by
  refine ⟨⟨fun e => by rw [e] at h0; simp at h0, fun s hs => (clean_name (h s hs)).1⟩, ?_⟩
  have := wordsL_short (fun s hs => (clean_name (h s hs)).2)
  omega
theorem note_rest (note : ByteArray) (h20 : ¬ (20 : Int) < (note.size : Int)) (h : ∀ b ∈ note.data.toList, lineB b = true) :
    Without 10 (35 :: note.data.toList) ∧ lineOK (mkS (35 :: note.data.toList)) = true ∧ wordsOf (mkS (35 :: note.data.toList)) = [] := by
  have hb : ∀ b ∈ (35 : UInt8) :: note.data.toList, lineB b = true := fun b hb => by
    rcases List.mem_cons.1 hb with rfl | hb
    · decide
    · exact h b hb
  refine ⟨fun b hbm => ?_, lineOK_end ?_ ?_, ?_⟩
  · have := hb b hbm
    unfold lineB at this
    simp only [decide_eq_true_eq] at this
    omega
  · show note.data.toList.length + 1 ≤ 200
    have : note.data.toList.length = note.size := rfl
    omega
  · exact hb
  · unfold wordsOf
    have e : cutH (mkS (35 :: note.data.toList)).data.toList = [] := by unfold cutH mkS; simp
    rw [e]
    decide

set_option maxRecDepth 100000 in
set_option maxHeartbeats 4000000 in
theorem walk_LinesBack (v : Value) (us : List Value) (R : List (List ByteArray)) (note : ByteArray) (hns : note.size ≤ maxLen) (w : World) (hv : IsStrss w v us R) (hsz0 : ∀ ws ∈ R, ∀ x ∈ ws, x.size ≤ maxLen) :
    Calls Try.prog 4 #[v, .string note] w fun e w' => e = .returned (.bool true) ∧ Below w.heap.size w w' := by
  obtain ⟨ao, ac, rfl⟩ := IsRow.shaped hv.2.1
  have hrl : R.length ≤ 9223372036854775807 := hv.2.1.2.1.1
  have hns' : note.size ≤ 9223372036854775807 := hns
  have HV : Hid (IsStrss w (.slice ao R.length ac) us R) := hv
  have HSz : Hid (∀ i k, i < R.length → k < (R.getD i []).length → ((R.getD i []).getD k ByteArray.empty).size ≤ 9223372036854775807) := fun i k h1 h2 => by
    refine hsz0 (R.getD i []) ?_ _ ?_
    · simp [h1]
    · generalize R.getD i [] = q at h2
      rw [List.getD_eq_getElem?_getD, List.getElem?_eq_getElem h2]; exact List.getElem_mem h2
  clear hv hns hsz0
  obtain ⟨i1, ji, jz0, jz1, jz2⟩ := info_parts infoLine
  have quit : ∀ (w1 : World), Below w.heap.size w w1 → Calls Try.prog 10 #[] w1 fun e w' => e = .returned (.bool true) ∧ Below w.heap.size w w' := fun w1 hb => (awake_any w1).mono fun e w' h => ⟨h.1, hb.trans (h.2.mono hb.size)⟩
  have HQ : Hid _ := quit
  clear quit
  by_cases hbig : (40 : Int) < (R.length : Int)
  · go_enter Try.func4, Try.ntmps4
    go_wp2_with fail
    refine (HQ.out _ (Below.refl _ _)).mono ?_
    rintro e w8 ⟨rfl, hb8⟩
    have HB8 : Hid (Below w.heap.size w w8) := hb8
    clear hb8
    go_wp2
    go_ret
    exact ⟨rfl, HB8.out⟩
  by_cases hbn : (20 : Int) < (note.size : Int)
  · go_enter Try.func4, Try.ntmps4
    go_wp2_with fail
    refine (HQ.out _ (Below.refl _ _)).mono ?_
    rintro e w8 ⟨rfl, hb8⟩
    have HB8 : Hid (Below w.heap.size w w8) := hb8
    clear hb8
    go_wp2
    go_ret
    exact ⟨rfl, HB8.out⟩
  go_enter Try.func4, Try.ntmps4
  go_wp2
  go_loopw [5, 29] (fun o q wr => ∃ i : Nat, i ≤ R.length ∧ q = .int .i64 i ∧ (∀ j, j < i → RowOK (R.getD j [])) ∧ wr.ownsRow w.heap.size 37 2 o i (lineCells (numberedL 0 (R.take i)) (us.take i)) ∧ Below w.heap.size w wr) (fun _ q _ => R.length - (intOf q).toNat)
  case atStart => exact ⟨0, Nat.zero_le _, rfl, fun j h => by omega, World.ownsRow_nil _ _ _ _, Below.refl _ _⟩
  case round =>
    obtain ⟨i, hi1, rfl, hok, ho, hb⟩ := hrel
    have HOk : Hid (∀ j, j < i → RowOK (R.getD j [])) := hok
    have HO : Hid (wr.ownsRow w.heap.size 37 2 u5 i (lineCells (numberedL 0 (R.take i)) (us.take i))) := ho
    have HB : Hid (Below w.heap.size w wr) := hb
    clear hok ho hb
    by_cases hlt : i < R.length
    · obtain ⟨b1, o1, rfl, hbl1, g1⟩ := (HV.out.below HB.out).at i hlt
      have hW := (HV.out.below HB.out).2.2 i hlt
      have HNx : Hid (lineCells (numberedL 0 (R.take (i + 1))) (us.take (i + 1)) = lineCells (numberedL 0 (R.take i)) (us.take i) ++ [.int .i64 ((i : Int) + 1), us.getD i nilW]) := by
        show _ = _
        have h1 : i < us.length := by rw [HV.out.1]; exact hlt
        rw [List.take_succ_eq_append_getElem hlt, List.take_succ_eq_append_getElem h1, numberedL_snoc, lineCells_snoc _ _ (by rw [numberedL_length, List.length_take, List.length_take]; omega)]
        have e1 : us.getD i nilW = us[i] := by simp [h1]
        have e2 : 0 + (R.take i).length + 1 = i + 1 := by rw [List.length_take]; omega
        rw [e1, e2]; rfl
      have HOk1 : Hid (RowOK (R.getD i []) → ∀ j, j < i + 1 → RowOK (R.getD j [])) := fun h j hj => by
        rcases Nat.lt_or_ge j i with h1 | h1
        · exact HOk.out j h1
        · have : j = i := by omega
          rw [this]; exact h
      have HSi : Hid (∀ k, k < (R.getD i []).length → ((R.getD i []).getD k ByteArray.empty).size ≤ 9223372036854775807) := fun k h => HSz.out i k hlt h
      generalize R.getD i [] = ws at hW HOk1 HSi
      generalize us.getD i nilW = u at g1 hW HNx
      obtain ⟨ro, rc, rfl⟩ := IsRow.shaped hW
      have HW : Hid (IsStrs wr (.slice ro ws.length rc) ws) := hW
      have hwl : ws.length ≤ 9223372036854775807 := hW.2.1.1
      clear hW
      by_cases hlo : (ws.length : Int) < 1
      · go_wp2_with fail
        refine (HQ.out _ HB.out).mono ?_
        rintro e w8 ⟨rfl, hb8⟩
        have HB8 : Hid (Below w.heap.size w w8) := hb8
        clear hb8
        go_wp2
        go_ret
        exact ⟨rfl, HB8.out⟩
      by_cases hhi : (8 : Int) < (ws.length : Int)
      · go_wp2_with fail
        refine (HQ.out _ HB.out).mono ?_
        rintro e w8 ⟨rfl, hb8⟩
        have HB8 : Hid (Below w.heap.size w w8) := hb8
        clear hb8
        go_wp2
        go_ret
        exact ⟨rfl, HB8.out⟩
      have HRow : Hid ((∀ s ∈ ws, nameOK s = true) → RowOK ws) := rowOK_of hlo hhi
      go_wp2
      generalize wr = wa at *
      go_loopw [45] (fun q wq => ∃ k : Nat, k ≤ ws.length ∧ q = .int .i64 k ∧ (∀ s ∈ ws.take k, nameOK s = true) ∧ wa = wq) (fun q _ => ws.length - (intOf q).toNat)
      case atStart => exact ⟨0, Nat.zero_le _, rfl, by simp, rfl⟩
      case round =>
        obtain ⟨k, hk, rfl, hd, hw⟩ := hrel
        subst hw
        have HD : Hid (∀ s ∈ ws.take k, nameOK s = true) := hd
        clear hd
        by_cases hlt2 : k < ws.length
        · obtain ⟨b2, o2, rfl, hbl2, g2⟩ := strsAt HW.out k hlt2
          have HDn : Hid (nameOK (ws.getD k ByteArray.empty) = true → ∀ s ∈ ws.take (k + 1), nameOK s = true) := fun h s hs => by
            rw [List.take_succ_eq_append_getElem hlt2] at hs
            rcases List.mem_append.1 hs with h1 | h1
            · exact HD.out s h1
            · rw [List.mem_singleton] at h1
              have e : ws.getD k ByteArray.empty = ws[k] := by simp [hlt2]
              rw [h1, ← e]; exact h
          have hsz : (ws.getD k ByteArray.empty).size ≤ 9223372036854775807 := HSi.out k hlt2
          have hnm := fun W => rWord_any (ws.getD k ByteArray.empty) W hsz
          generalize ws.getD k ByteArray.empty = x at g2 HDn hnm hsz
          generalize nameOK x = nb at HDn hnm
          have HNm : Hid _ := hnm
          clear hnm
          cases nb
          · go_wp2_with fail
            refine (HNm.out _).mono ?_
            rintro e w3 ⟨rfl, hw3⟩
            subst w3
            go_wp2_with fail
            refine (HQ.out _ HB.out).mono ?_
            rintro e w8 ⟨rfl, hb8⟩
            have HB8 : Hid (Below w.heap.size w w8) := hb8
            clear hb8
            go_wp2
            go_ret
            exact ⟨rfl, HB8.out⟩
          · have HDn2 := HDn.out rfl
            have HDn3 : Hid (∀ s ∈ ws.take (k + 1), nameOK s = true) := HDn2
            clear HDn2 HDn
            go_wp2_with fail
            refine (HNm.out _).mono ?_
            rintro e w3 ⟨rfl, hw3⟩
            subst w3
            go_wp2
            go_roundw
            case rel => exact ⟨k + 1, by omega, by go_num, HDn3.out, by first | rfl | trivial⟩
            case measure => simp [intOf]; omega
        · have hall := HD.out
          rw [List.take_of_length_le (by omega)] at hall
          have HOk2 : Hid (∀ j, j < i + 1 → RowOK (R.getD j [])) := HOk1.out (HRow.out hall)
          clear hall
          go_wp2_with (at_builtin; refine wpList_append_row rfl (.tmp 54) (.tmp 59) 22 rfl w.heap.size 37 i1 _ 2 32 Try.underlying22 ji jz0 jz1 jz2 rfl (by decide) _ i _ rfl (HO.out.alloc _) _ 1 [.int .i64 ((i : Int) + 1), .slice ro ws.length rc] rfl (one_line _ _ _ _ _ (by simp)) (by simp [Value.oneCell']) (by unfold maxLen; omega) (by omega) (by have := HB.out.size; simp; omega) ?_)
          intro v' w7 hown hgrow hat
          have HO9 : Hid (w7.ownsRow w.heap.size 37 2 v' (i + 1) (lineCells (numberedL 0 (R.take (i + 1))) (us.take (i + 1)))) := by
            show World.ownsRow _ _ _ _ _ _ _
            rw [HNx.out]; exact hown
          have HB9 : Hid (Below w.heap.size w w7) := (HB.out.alloc HB.out.size _).grown hgrow (by have := HB.out.size; simp; omega) (own_base HO.out)
          clear hown hgrow hat
          go_wp2
          go_roundw
          case rel => exact ⟨i + 1, by omega, by go_num, HOk2.out, HO9.out, HB9.out⟩
          case measure => simp [intOf]; omega
    · obtain rfl : i = R.length := by omega
      have hOk : ∀ ws ∈ R, RowOK ws := fun ws hws => by
        obtain ⟨j, hj, rfl⟩ := List.getElem_of_mem hws
        have := HOk.out j hj
        rwa [show R.getD j [] = R[j] by simp [hj]] at this
      have hO := HO.out
      rw [List.take_of_length_le (Nat.le_refl _), List.take_of_length_le (by rw [HV.out.1]; exact Nat.le_refl _)] at hO
      have HI : Hid (IsLines wr u5 us (numberedL 0 R)) := ⟨by rw [numberedL_length]; exact HV.out.1, by rw [numberedL_length]; exact isRow_own hO, fun j hj => by
        rw [numberedL_length] at hj
        rw [numberedL_getD 0 R j hj]
        exact (HV.out.below HB.out).2.2 j hj⟩
      have htl := textL_short 0 (fun ws hws => (hOk ws hws).2)
      have HS0 : Hid ((textL (numberedL 0 R)).length ≤ 3000 → splitV (mkS (textL (numberedL 0 R))) = (numberedL 0 R, 0, 0)) := fun h => by
        have := split_back R [] hOk (fun b hb => by simp at hb) (by decide) (by decide) (by rw [List.append_nil]; omega)
        rwa [List.append_nil] at this
      have HS1 : Hid ((textL (numberedL 0 R)).length ≤ 3000 → (∀ b ∈ note.data.toList, lineB b = true) → splitV (mkS (textL (numberedL 0 R) ++ (35 :: note.data.toList))) = (numberedL 0 R, 0, 0)) := fun h h2 => by
        obtain ⟨r1, r2, r3⟩ := note_rest note (by omega) h2
        refine split_back R _ hOk r1 r2 r3 ?_
        have : note.data.toList.length = note.size := rfl
        rw [List.length_append, List.length_cons]
        omega
      obtain ⟨lo, lc, rfl⟩ := own_shape hO
      clear hO hOk HO
      generalize numberedL 0 R = L at HI htl HS0 HS1
      have hjn := fun W h => join_any L us (.slice lo R.length lc) W h (by omega)
      have HJ : Hid _ := hjn
      clear hjn
      go_wp2_with fail
      refine (HJ.out _ HI.out).mono ?_
      rintro e w2 ⟨rfl, hb2⟩
      have HB2 : Hid (Below w.heap.size w w2) := HB.out.trans (hb2.mono HB.out.size)
      have HI2 : Hid (IsLines w2 (.slice lo R.length lc) us L) := HI.out.below hb2
      clear hb2 HJ HI
      have hss : (mkS (textL L)).size = (textL L).length := rfl
      by_cases h30 : (3000 : Int) < ((mkS (textL L)).size : Int)
      · go_wp2_with fail
        refine (HQ.out _ HB2.out).mono ?_
        rintro e w8 ⟨rfl, hb8⟩
        have HB8 : Hid (Below w.heap.size w w8) := hb8
        clear hb8
        go_wp2
        go_ret
        exact ⟨rfl, HB8.out⟩
      have hsp := fun W => split_any (mkS (textL L)) W (by omega)
      rw [HS0.out (by omega)] at hsp
      have HSp : Hid _ := hsp
      have HS2 : Hid ((∀ b ∈ note.data.toList, lineB b = true) → ∀ W, Calls Try.prog 11 #[.string (mkS (textL L) ++ { data := #[35] } ++ note)] W fun e w' => ∃ v, e = .returned (.tuple #[v, .int .i64 0, .int .i64 0]) ∧ HasLines w' v L ∧ Below W.heap.size W w') := fun h W => by
        have h1 := split_any (mkS (textL L ++ (35 :: note.data.toList))) W (by have : note.data.toList.length = note.size := rfl; rw [mkS_size, List.length_append, List.length_cons]; omega)
        rw [HS1.out (by omega) h] at h1
        have e : mkS (textL L) ++ { data := #[35] } ++ note = mkS (textL L ++ (35 :: note.data.toList)) := by
          rw [mkS_append, mkS_append, List.append_assoc]; rfl
        rw [e]; exact h1
      clear hsp HS0 HS1 htl
      generalize mkS (textL L) = Tx at HSp HS2 hss h30 ⊢
      clear hss
      go_wp2_with fail
      refine (HSp.out _).mono ?_
      rintro e w3 ⟨v3, rfl, ⟨vs3, hk3⟩, hb3⟩
      obtain ⟨ko, kc, rfl⟩ := hk3.2.1.shaped
      have HK3 : Hid (IsLines w3 (.slice ko L.length kc) vs3 L) := hk3
      have HB3 : Hid (Below w.heap.size w w3) := HB2.out.trans (hb3.mono HB2.out.size)
      have HI3 : Hid (IsLines w3 (.slice lo R.length lc) us L) := HI2.out.below hb3
      clear hk3 hb3 HI2 HSp
      have HEq : Hid (∀ (W : World) (a b : Value) (p q : List Value), IsLines W a p L → IsLines W b q L → Calls Try.prog 15 #[a, b] W fun e w' => e = .returned (.bool true) ∧ Below W.heap.size W w') := fun W a b p q h1 h2 => by
        have := rSame_any L L p q a b W h1 h2
        simpa using this
      go_wp2
      generalize hw3 : w3 = wb at *
      go_loopw [76] (fun q wq => ∃ k : Nat, k ≤ note.size ∧ q = .int .i64 k ∧ (∀ b ∈ upto note k, lineB b = true) ∧ wb = wq) (fun q _ => note.size - (intOf q).toNat)
      case atStart => exact ⟨0, Nat.zero_le _, rfl, by simp [upto], rfl⟩
      case round =>
        obtain ⟨k, hk, rfl, hd, hw⟩ := hrel
        subst hw
        have HD : Hid (∀ b ∈ upto note k, lineB b = true) := hd
        clear hd
        by_cases hlt2 : k < note.size
        · have hsu := upto_succ note k hlt2
          have HDn : Hid (lineB note[k] = true → ∀ b ∈ upto note (k + 1), lineB b = true) := fun h b hb => by
            rw [hsu] at hb
            rcases List.mem_append.1 hb with h1 | h1
            · exact HD.out b h1
            · rw [List.mem_singleton] at h1; rw [h1]; exact h
          have HDg : Hid (lineB note[k] = decide (32 ≤ (note[k]).toNat ∧ (note[k]).toNat ≤ 126)) := rfl
          have hub := (note[k]).toNat_lt
          clear hsu
          have key : (((note[k]).toNat : Int) < 32 ∨ (¬ ((note[k]).toNat : Int) < 32 ∧ (126 : Int) < ((note[k]).toNat : Int))) ∨ (¬ ((note[k]).toNat : Int) < 32 ∧ ¬ (126 : Int) < ((note[k]).toNat : Int)) := by omega
          rcases key with hbad | ⟨d1, d2⟩
          · rcases hbad with d1 | ⟨d1, d2⟩
            all_goals
              go_wp2_with fail
              refine (HEq.out _ _ _ _ _ HK3.out HI3.out).mono ?_
              rintro e w4 ⟨rfl, hb4⟩
              have HB4 : Hid (Below w.heap.size w w4) := HB3.out.trans (hb4.mono HB3.out.size)
              clear hb4
              go_wp2_with fail
              refine (HQ.out _ HB4.out).mono ?_
              rintro e w8 ⟨rfl, hb8⟩
              have HB8 : Hid (Below w.heap.size w w8) := hb8
              clear hb8
              go_wp2
              go_ret
              exact ⟨rfl, HB8.out⟩
          · have HO2 : Hid (∀ b ∈ upto note (k + 1), lineB b = true) := HDn.out (by rw [HDg.out, decide_eq_true_eq]; omega)
            go_wp2
            go_roundw
            case rel => exact ⟨k + 1, by omega, by go_num, HO2.out, by first | rfl | trivial⟩
            case measure => simp [intOf]; omega
        · have hall := HD.out
          rw [upto_all note k (by omega)] at hall
          have HSb : Hid _ := HS2.out hall
          have hq1 : ({ data := #[35] } : ByteArray).size = 1 := rfl
          clear hall HS2
          go_wp2_with fail
          refine (HSb.out _).mono ?_
          rintro e w4 ⟨v4, rfl, ⟨vs4, hk4⟩, hb4⟩
          obtain ⟨mo, mc, rfl⟩ := hk4.2.1.shaped
          have HK4 : Hid (IsLines w4 (.slice mo L.length mc) vs4 L) := hk4
          have HK34 : Hid (IsLines w4 (.slice ko L.length kc) vs3 L) := HK3.out.below hb4
          have HI4 : Hid (IsLines w4 (.slice lo R.length lc) us L) := HI3.out.below hb4
          have HB4 : Hid (Below w.heap.size w w4) := HB3.out.trans (hb4.mono HB3.out.size)
          clear hk4 hb4 HSb
          go_wp2_with fail
          refine (HEq.out _ _ _ _ _ HK34.out HI4.out).mono ?_
          rintro e w5 ⟨rfl, hb5⟩
          have HB5 : Hid (Below w.heap.size w w5) := HB4.out.trans (hb5.mono HB4.out.size)
          have HK5 : Hid (IsLines w5 (.slice mo L.length mc) vs4 L) := HK4.out.below hb5
          have HI5 : Hid (IsLines w5 (.slice lo R.length lc) us L) := HI4.out.below hb5
          clear hb5
          go_wp2_with fail
          refine (HEq.out _ _ _ _ _ HK5.out HI5.out).mono ?_
          rintro e w6 ⟨rfl, hb6⟩
          have HB6 : Hid (Below w.heap.size w w6) := HB5.out.trans (hb6.mono HB5.out.size)
          clear hb6
          go_wp2_with fail
          refine (HQ.out _ HB6.out).mono ?_
          rintro e w8 ⟨rfl, hb8⟩
          have HB8 : Hid (Below w.heap.size w w8) := hb8
          clear hb8
          go_wp2
          go_ret
          exact ⟨rfl, HB8.out⟩


set_option maxRecDepth 100000 in
theorem lifted_LinesBack (os : Os) (started : os.Started) (H : Type) (enc : TypeId × Value → H) :
    ReturnsInHanded {} Try.checked os 4 .any (Rows.linesBackSpec.pre6 enc Try.prog Try.f4 Rows.linesBackRow.domain false) (Rows.linesBackSpec.post enc Try.prog Try.f4 false true false false) := by
  refine returnsInHanded_of_change (C := Try.checked) own started (by kernel_rfl) Try.func4
    (ChangeSpec.witness6 (enc := enc) (C := Try.checked) false ⟨#[], #[.slice none 0 0, .string ByteArray.empty], []⟩ 8 (by kernel_rfl) (by kernel_rfl) (by kernel_rfl) (by kernel_rfl)) ?_
  intro W base args ds gs before hval0 hW hcnd _
  have hval : ∀ (j : Nat) t v, Try.f4.params[j]? = some t → args[j]? = some v → Value.okWide Try.prog W .any base t v := hval0
  have hW' := hW
  obtain ⟨p, q, hA0, hV, rfl, hfz, hnd⟩ := hW
  have hA : DataW.TrodAll enc Try.prog W 0 (fun _ => true) true Try.f4.params.toList args.toList ds p := hA0
  rw [Try.params4] at hA hval
  obtain ⟨v0, vs0, d0, ds0, p0, q0, hargs, rfl, rfl, h0, r0⟩ := trodAll_cons hA
  obtain ⟨v1, vs1, d1, ds1, p1, q1, rfl, rfl, rfl, h1, r1⟩ := trodAll_cons r0
  obtain ⟨rfl, rfl, rfl⟩ := trodAll_nil r1
  obtain rfl : args = #[v0, v1] := by cases args; simp_all
  obtain ⟨rfl, rfl⟩ := trodVars_none hV
  have k0 := h0
  have lt0 : ∀ x ∈ p0, x.block < W.heap.size := by obtain ⟨m, hm⟩ := k0; exact DataW.trod_lt m _ _ _ hm
  obtain ⟨us0, z0, w0, x0⟩ := open_strss Try.underlying34 (by kernel_rfl) Try.underlying35 Try.underlying9 (by kernel_rfl) (hval 0 34 v0 rfl rfl) h0
  obtain ⟨a1, rfl, rfl, rfl, w1⟩ := open_string Try.underlying9 (hval 1 9 v1 rfl rfl) h1
  clear hA0 hval0
  refine (walk_LinesBack _ us0 z0 a1 w1 W w0 x0).mono fun e W' ⟨he, bel⟩ => ?_
  subst he
  exact ⟨_, rfl, _, _, _, [], _, [], hW', trodAll_mk1 (shut_bool Try.underlying4 _), (trodAll_cons_mk (Below.trod laidOut (by kernel_rfl) (of_decide_eq_true (by kernel_rfl)) k0 bel lt0) (trodAll_cons_mk (shut_string Try.underlying9 w1) trodAll_mk0)), rfl, bel.frame _, fun h => by cases h⟩

theorem over_LinesBack : Rows.linesBackRow.holds Try.pinned (OpenSpec.ofChange Rows.linesBackSpec) :=
  OpenClaim.holds_of_wide 4 Try.f4 rfl rfl rfl rfl rfl rfl rfl ⟨rfl, rfl, rfl, rfl, rfl⟩ rfl rfl rfl rfl rfl (by kernel_rfl) Try.func4 (by kernel_rfl)
    (of_decide_eq_true (by kernel_rfl)) (by unfold Func.isWrapper; first | (rw [if_pos (by decide +kernel)]; kernel_rfl) | (rw [if_neg (by decide +kernel)]; exact ⟨rfl, rfl⟩))
    (fun os started H enc _ => lifted_LinesBack os started H enc)

/-- The statement. -/
theorem linesBack_holds : Rows.LinesBackSaid := over_LinesBack
#print axioms linesBack_holds

end Go.Proofs.Ytpccjlocmbfmnaa

/-
  The contracts of package lines' mayStand and wordsOf, as landed.
-/
import Derived.Test.YtkninlahlgipoaaDoorShelf
import Derived.Test.YtkninlahlgipoaaDoorTurnRuns
import Derived.Test.YtkninlahlgipoaaDoorRefSplitKit
import Derived.BigQuiet
namespace Go.Proofs.YtkninlahlgipoaaDoor
open Go.RowKit Go.Shelf

attribute [local go_sem] Oper.semAt_some

set_option maxHeartbeats 1000000 in
theorem mayStand_any (p : ByteArray) (w : World) :
    Calls Tryd.prog 28 #[.string p] w fun e w' => e = .returned (.bool (lineOK p)) ∧ w' = w := by
  by_cases hlong : (200 : Int) < (p.size : Int)
  · have H : Hid (lineOK p = false) := lineOK_long (by omega)
    go_enter Tryd.func28, Tryd.ntmps28
    go_wp2
    go_ret
    exact ⟨by rw [H.out]; rfl, rfl⟩
  · have HE : Hid ((∀ b ∈ p.data.toList, lineB b = true) → lineOK p = true) := lineOK_end (by omega)
    have HBad : Hid (∀ k (h : k < p.size), lineB p[k] = false → lineOK p = false) := fun k h hb => lineOK_bad k h hb
    go_enter Tryd.func28, Tryd.ntmps28
    go_wp2
    go_loop [9] (fun q => ∃ k : Nat, k ≤ p.size ∧ q = .int .i64 k ∧ ∀ b ∈ upto p k, lineB b = true) (fun q => p.size - (intOf q).toNat)
    case atStart => exact ⟨0, Nat.zero_le _, rfl, by simp [upto]⟩
    case round =>
      obtain ⟨k, hk, rfl, hd⟩ := hrel
      have HD : Hid (∀ b ∈ upto p k, lineB b = true) := hd
      clear hd
      by_cases hlt2 : k < p.size
      · have hsu := upto_succ p k hlt2
        have HDn : Hid (lineB p[k] = true → ∀ b ∈ upto p (k + 1), lineB b = true) := fun h b hb => by
          rw [hsu] at hb
          rcases List.mem_append.1 hb with h1 | h1
          · exact HD.out b h1
          · rw [List.mem_singleton] at h1; rw [h1]; exact h
        have HDg : Hid (lineB p[k] = decide (32 ≤ (p[k]).toNat ∧ (p[k]).toNat ≤ 126)) := rfl
        have HF : Hid (lineB p[k] = false → lineOK p = false) := HBad.out k hlt2
        have hub := (p[k]).toNat_lt
        clear hsu
        by_cases d1 : ((p[k]).toNat : Int) < 32
        · have H : Hid (lineOK p = false) := HF.out (by rw [HDg.out, decide_eq_false_iff_not]; omega)
          go_wp2
          go_ret
          exact ⟨by rw [H.out]; rfl, rfl⟩
        · by_cases d2 : (126 : Int) < ((p[k]).toNat : Int)
          · have H : Hid (lineOK p = false) := HF.out (by rw [HDg.out, decide_eq_false_iff_not]; omega)
            go_wp2
            go_ret
            exact ⟨by rw [H.out]; rfl, rfl⟩
          · have HO2 : Hid (∀ b ∈ upto p (k + 1), lineB b = true) := HDn.out (by rw [HDg.out, decide_eq_true_eq]; omega)
            go_wp2
            go_round
            case rel => exact ⟨k + 1, by omega, by go_num, HO2.out⟩
            case measure => simp [intOf]; omega
      · have hall := HD.out
        rw [upto_all p k (by omega)] at hall
        have HT : Hid (lineOK p = true) := HE.out hall
        clear hall
        go_wp2
        go_ret
        exact ⟨by rw [HT.out]; rfl, rfl⟩

theorem cutH_split {l pre post : List UInt8} (h : l = pre ++ 35 :: post) (hn : (35 : UInt8) ∉ pre) : cutH l = pre := by
  subst h
  unfold cutH
  rw [List.takeWhile_append_of_pos (fun a ha => by
    rw [decide_eq_true_eq]
    intro e
    have : a = 35 := UInt8.toNat_inj.1 e
    exact hn (this ▸ ha)), List.takeWhile_cons]
  simp
theorem below_drew' {n : Nat} {w w' : World} (h : Below n w w') (k : Nat) : Below n w (w'.drewN k) := below_drewN h k

set_option maxHeartbeats 1000000 in
theorem cut2_any (s : ByteArray) (w : World) (hs : s.size ≤ 1000000) :
    Calls Tryd.prog 57 #[.string s, .string ⟨#[35]⟩] w fun e w' => ∃ x b, e = .returned (.tuple #[.string (mkS (cutH s.data.toList)), .string x, .bool b]) ∧ Below w.heap.size w w' := by
  have hx := Tryd.stringslite_Index_one s 35
  rcases index_split s.data.toList 35 with ⟨hi, hno⟩ | ⟨pre, post, hsp, hno, hi⟩
  · rw [hi] at hx
    have HC : Hid (mkS (cutH s.data.toList) = s) := by
      show _ = _
      rw [cutH_all (fun b hb e => hno (by have : b = 35 := UInt8.toNat_inj.1 e; exact this ▸ hb)), mkS_data]
    clear hi hno
    go_enter Tryd.func57, Tryd.ntmps57
    go_wp2_with fail
    refine (hx _).mono ?_
    rintro e w1 ⟨rfl, hw⟩
    subst w1
    go_wp2
    go_ret3
    exact ⟨_, _, by rw [HC.out]; rfl, Below.refl _ _⟩
  · rw [hi] at hx
    have hsz : s.size = pre.length + 1 + post.length := by
      show s.data.toList.length = _
      rw [hsp]; simp; omega
    have HC : Hid (mkS (cutH s.data.toList) = s.extract 0 pre.length) := by
      show _ = _
      rw [cutH_split hsp hno, extract_cut, hsp]; unfold cutL; simp
    have hpi : (pre.length : Int) ≤ (s.size : Int) := by omega
    have hpi2 : (pre.length : Int) + 1 ≤ (s.size : Int) := by omega
    have hs1 : (⟨#[35]⟩ : ByteArray).size = 1 := rfl
    clear hi hno hsp hsz
    go_enter Tryd.func57, Tryd.ntmps57
    go_wp2_with fail
    refine (hx _).mono ?_
    rintro e w1 ⟨rfl, hw⟩
    subst w1
    go_wp2
    go_quiet (fail)
    go_wp2
    go_ret3
    exact ⟨_, _, by rw [HC.out]; rfl, below_drewN (Below.refl _ _) _⟩
set_option maxHeartbeats 1000000 in
theorem cut_any (s : ByteArray) (w : World) (hs : s.size ≤ 1000000) :
    Calls Tryd.prog 50 #[.string s, .string ⟨#[35]⟩] w fun e w' => ∃ x b, e = .returned (.tuple #[.string (mkS (cutH s.data.toList)), .string x, .bool b]) ∧ Below w.heap.size w w' := by
  have hx := cut2_any s w hs
  generalize mkS (cutH s.data.toList) = C at hx ⊢
  go_enter Tryd.func50, Tryd.ntmps50
  go_wp2_with fail
  refine hx.mono ?_
  rintro e w1 ⟨x, b, rfl, hb⟩
  have HB : Hid (Below w.heap.size w w1) := hb
  clear hb
  go_wp2
  go_ret3
  exact ⟨_, _, rfl, HB.out⟩

def wordsP (pre : List (Int × ByteArray)) : List ByteArray := (pre.map fun p => p.2).filter fun s => decide (s.size ≠ 0)
theorem wordsP_snoc (pre : List (Int × ByteArray)) (x : Int × ByteArray) : wordsP (pre ++ [x]) = wordsP pre ++ if x.2.size = 0 then [] else [x.2] := by
  unfold wordsP
  rw [List.map_append, List.filter_append]
  by_cases h : x.2.size = 0
  · have hd : decide (x.2.size ≠ 0) = false := decide_eq_false fun h' => h' h
    rw [if_pos h, List.map_cons, List.map_nil, List.filter_cons, hd]
    rfl
  · have hd : decide (x.2.size ≠ 0) = true := decide_eq_true h
    rw [if_neg h, List.map_cons, List.map_nil, List.filter_cons, hd]
    rfl
theorem wordsP_le (pre : List (Int × ByteArray)) : (wordsP pre).length ≤ pre.length := by
  unfold wordsP
  refine Nat.le_trans (List.length_filter_le _ _) ?_
  simp
theorem wordsP_all (p : ByteArray) : wordsP (numbered (partsV (mkS (cutH p.data.toList)) 32)) = wordsOf p := by
  unfold wordsP wordsOf
  congr 1
  exact numbered_snd _

set_option maxRecDepth 100000 in
set_option maxHeartbeats 2000000 in
theorem wordsOf_any (p : ByteArray) (w : World) (hs : p.size ≤ 1000000) :
    Calls Tryd.prog 29 #[.string p] w fun e w' => ∃ v, e = .returned v ∧ IsStrs w' v (wordsOf p) ∧ (∀ b, blkOf v = some b → w.heap.size ≤ b) ∧ Below w.heap.size w w' := by
  obtain ⟨i0, hi, hz0, hz1, hz2⟩ := info_parts infoStr0
  have hCs : (mkS (cutH p.data.toList)).size ≤ p.size := by
    rw [mkS_data' _]
    exact (List.takeWhile_sublist _).length_le
  have hcut := fun W => cut_any p W hs
  have HW : Hid (wordsP (numbered (partsV (mkS (cutH p.data.toList)) 32)) = wordsOf p) := wordsP_all p
  generalize mkS (cutH p.data.toList) = C at hCs hcut HW
  have hpl := partsV_length C 32
  have hnl := numbered_length (partsV C 32)
  refine (callsIn_wide (n := 6)).1 ?_
  refine callsIn_of_wp_marks Tryd.func29 rfl trivial ?_ rfl
  simp only [Tryd.ntmps29, List.size_toArray, List.length_cons, List.length_nil, Nat.reduceAdd, Nat.reduceSub, Array.replicate_succ, Array.replicate_zero, List.push_toArray, List.append_toArray, List.nil_append, List.cons_append]
  gi_wp2_with (refine ⟨trivial, ?_⟩; gi_at_call 50; refine (callsIn_wide.2 (hcut _)).mono ?_)
  rintro e w1 ⟨x1, t1, rfl, hb1⟩
  have hs1 := hb1.size
  gi_wp2_with (refine ⟨trivial, ?_⟩; gi_at_call 27; refine (callsIn_wide.2 (runs_any C 32 _ (by omega) (by decide) (by decide))).mono ?_)
  rintro e w2 ⟨v2, rfl, ⟨g, lb, rfl, hent, hseq⟩, hb2⟩
  have bO : Boxed w2 w1.heap.size 36 (.slice none 0 0) := boxed_below (Boxed.new w1 _ _) hb2
  have hB2 : Below w.heap.size w w2 := (hb1.alloc hs1 _).trans (hb2.mono (by simp; omega))
  have hsz : w1.heap.size + 1 ≤ w2.heap.size := by have := hb2.size; simp at this; omega
  gi_wp2
  refine wpIn_rangeFunc_ownF rfl (by omega) (gf := g) (lb := lb) rfl trivial hent (hseq (6 - 1) (by omega)) keepsIv_t (keepsIv_b (Nat.le_refl _)) (Below.refl _ _) (fun _ => rfl)
    (fun pre W => ((∃ v, Boxed W w1.heap.size 36 v ∧ W.ownsRow w2.heap.size 9 1 v (wordsP pre).length ((wordsP pre).map Value.string) ∧ True) ∧ w2.heap.size ≤ W.heap.size) ∧ Below w.heap.size w W)
    (fun _ _ _ => False)
    (OwnFrom.and (OwnFrom.and (Own.from (holdsRow_own w2.heap.size w1.heap.size 36 9 1 (fun pre : List (Int × ByteArray) => (wordsP pre).length) (fun pre => (wordsP pre).map Value.string) (fun _ _ => True)) _) (fun _ _ _ _ hs hg _ => Nat.le_trans hs hg.size)) (ownFrom_below (Nat.le_refl _) (by omega)))
    (fun _ => fun _ _ _ _ hs _ _ => hs)
    ⟨⟨⟨_, bO, World.ownsRow_nil _ _ _ _, trivial⟩, Nat.le_refl _⟩, hB2⟩
    (fun x => { tmps := #[.string p, undef, .slice none 0 0, .string C, .string x1, .bool t1, .pointer (some ⟨w1.heap.size, 0, none⟩), undef, .string x.2, .tuple #[.string C, .string x1, .bool t1], .string p, .tuple #[.string C, .string x1, .bool t1], .string C, .string x1, .bool t1, .string C, .func (.func g) #[] lb, .int .i64 x.1, .string x.2, undef, undef, undef, undef, undef, undef, undef], defers := [] }) ?assign ?body ?done ?stop
  case assign =>
    intro l x W K hK
    unfold encP
    gi_wp2
    exact hK
  case body =>
    rintro l pre x W ⟨⟨⟨v, hv, hrow, _⟩, hbs⟩, hB⟩ hlt
    obtain ⟨xi, xs⟩ := x
    simp only
    have hc := hv.cell
    obtain ⟨vo, vc, rfl⟩ := own_shape hrow
    have hsn := wordsP_snoc pre (xi, xs)
    have hwl := wordsP_le pre
    simp only at hsn
    by_cases hx0 : xs.size = 0
    · have hx1 := empty_size xs hx0
      have hx2 : xs.toList = [] := by simpa using hx1
      rw [if_pos hx0, List.append_nil] at hsn
      have HSn : Hid _ := hsn
      clear hsn hx0 hx1
      gi_wp2
      exact ⟨KeepsOthers.refl _, keepsIv_refl _ _ _, ⟨⟨_, hv, by rw [HSn.out]; exact hrow, trivial⟩, hbs⟩, hB⟩
    · have hx1 := nonempty_size xs hx0
      have hx2 : xs.toList.isEmpty = false := by simpa using hx1
      rw [if_neg hx0] at hsn
      have HSn : Hid _ := hsn
      clear hsn hx0
      gi_wp2_with (gi_at_builtin; refine wpListIn_append_row (w := W.alloc (.cells #[.string xs] 9)) rfl (.tmp 21) (.tmp 23) 36 rfl w2.heap.size 9 i0 (.string ByteArray.empty) 1 16 Tryd.underlying36 hi hz0 hz1 hz2 rfl (by decide) _ (wordsP pre).length _ rfl (hrow.alloc _) (.slice (some ⟨W.heap.size, 0, none⟩) 1 1) 1 [.string xs] rfl (one_cell _ _ _ _ rfl) (by simp [Value.oneCell']) (by unfold maxLen; omega) (by omega) (by simp; omega) ?_)
      intro v' w3 hown' hgrow _
      obtain ⟨g', cap', rfl⟩ := ownsRow_succ hown'
      obtain ⟨hv1, hv2, hr2, hk2, hb3, hI2, hO2⟩ := boxed_gathered (n₀ := w.heap.size) hv hrow (by omega) (by omega) hbs hown' hgrow
      have hc1 := hv1.cell
      have hf1 := hv1.frozen
      gi_wp2
      have hszz : W.heap.size ≤ (w3.setCell ⟨w1.heap.size, 0, none⟩ (.slice (some ⟨g', 0, none⟩) ((wordsP pre).length + 1) cap')).heap.size := hb3.size
      exact ⟨hk2, fun b h1 h2 => hI2 b h2 (by simp at h1; omega), ⟨⟨_, hv2, by rw [HSn.out]; simpa using hr2, trivial⟩, Nat.le_trans hbs hszz⟩, hB.trans hb3⟩
  case done =>
    rintro D ys W hD rfl ⟨⟨⟨v, hv, hrow, _⟩, _⟩, hB⟩ hK
    have hc := hv.cell
    rw [HW.out] at hrow
    obtain ⟨vo, vc, rfl⟩ := own_shape hrow
    have hrow5 := ownsRow_putObj hrow (.deferred none) hK rfl
    have hb5 : Below w.heap.size w _ := hB.trans (belowK_b (w := w2) (n₀ := w.heap.size) (by omega) _ D _ (.deferred none) (by omega) hK rfl rfl)
    gi_wp2
    refine ⟨by simp, .inl ⟨_, _, rfl, run_takeDeferred hK, ?_⟩⟩
    refine ⟨.slice vo (wordsOf p).length vc, ?_, _, rfl, isRow_own hrow5, fun b hb => ?_, hb5⟩
    · first | rfl | simp [results, Tryd.f29, go_sem]
    · have := own_blkOf hrow5 b hb
      omega
  case stop =>
    rintro D c' pp W hD hpre hF hK
    exact hF.elim

end Go.Proofs.YtkninlahlgipoaaDoor

/-
  Proved: triagelaw5.LinesWrong returns true for every int, every byte and either bool, and changes nothing that was there. No condition.
-/
import Derived.Test.YtpccjlocmbfmnaaLinesFrame
import Derived.Test.YtpccjlocmbfmnaaLinesMath
import Derived.Deep.CutRange
namespace Go.Proofs.Ytpccjlocmbfmnaa
open Go.ChangeShapes Go.WideShapes Go.ChangeAt Go.RowKit

theorem mkS_list (l : List UInt8) : (mkS l).data.toList = l := by unfold mkS; simp

/-- k lines 'a b'. -/
def abL (k : Nat) : List UInt8 := (List.replicate k ([97, 32, 98] : List UInt8)).flatMap fun d => d ++ [10]
theorem abL_succ (k : Nat) : abL (k + 1) = abL k ++ [97, 32, 98, 10] := by unfold abL; rw [List.replicate_succ']; simp
theorem abL_length (k : Nat) : (abL k).length = 4 * k := by
  induction k with
  | zero => rfl
  | succ k ih => rw [abL_succ, List.length_append, ih]; simp; omega
theorem ab_parts (k : Nat) (r : List UInt8) : partsV (mkS (abL k ++ r)) 10 = List.replicate k (mkS [97, 32, 98]) ++ (goL 10 [] r).map mkS := by
  unfold partsV
  rw [mkS_list]
  unfold abL
  rw [goL_lines 10 10 rfl _ r (fun d hd => by
    rw [List.eq_of_mem_replicate hd]
    intro b hb
    simp at hb
    rcases hb with rfl | rfl | rfl <;> decide)]
  simp
theorem ab_ok : lineOK (mkS [97, 32, 98]) = true := by decide +kernel
theorem ab_words : wordsOf (mkS [97, 32, 98]) ≠ [] := by decide +kernel

theorem linesOf_ab (i k : Nat) : (linesOf i (List.replicate k (mkS [97, 32, 98]))).length = k := by
  induction k generalizing i with
  | zero => rfl
  | succ k ih => rw [List.replicate_succ, linesOf, if_neg ab_words, List.length_append, ih]; simp; omega

theorem getD_rep_left (k j : Nat) (x : ByteArray) (b : List ByteArray) (h : j < k) : (List.replicate k x ++ b).getD j ByteArray.empty = x := by
  rw [getD_snoc_left _ _ _ _ (by simpa using h)]; simp [h]
theorem getD_rep_right (k j : Nat) (x : ByteArray) (b : List ByteArray) : (List.replicate k x ++ b).getD (k + j) ByteArray.empty = b.getD j ByteArray.empty := by
  rw [List.getD_eq_getElem?_getD, List.getElem?_append_right (by simp), List.getD_eq_getElem?_getD]
  simp

/-- The first line that is wrong. -/
theorem wrong_at (k m : Nat) (r : List UInt8) (hm : m < (goL 10 [] r).length) (h : ∀ j, j < m → lineOK (((goL 10 [] r).map mkS).getD j ByteArray.empty) = true) (hb : lineOK (((goL 10 [] r).map mkS).getD m ByteArray.empty) = false) (hs : (abL k ++ r).length ≤ 4000) :
    splitV (mkS (abL k ++ r)) = ([], ((k + m + 1 : Nat) : Int), 2) := by
  refine split_bad (by rw [mkS_data']; omega) (k + m) ?_ (fun j hj => ?_) ?_
  · rw [ab_parts]; simp; exact hm
  · rw [ab_parts]
    rcases Nat.lt_or_ge j k with h1 | h1
    · rw [getD_rep_left _ _ _ _ h1]; exact ab_ok
    · obtain ⟨i, rfl⟩ : ∃ i, j = k + i := ⟨j - k, by omega⟩
      rw [getD_rep_right]; exact h i (by omega)
  · rw [ab_parts, getD_rep_right]; exact hb
/-- None is. -/
theorem wrong_none (k : Nat) (r : List UInt8) (h : ∀ p ∈ goL 10 [] r, lineOK (mkS p) = true) (hw : ∃ p ps, goL 10 [] r = p :: ps ∧ wordsOf (mkS p) ≠ []) (hs : (abL k ++ r).length ≤ 4000) :
    ∃ L, splitV (mkS (abL k ++ r)) = (L, 0, 0) ∧ k + 1 ≤ L.length := by
  refine ⟨_, split_good (by rw [mkS_data']; omega) (fun j hj => ?_), ?_⟩
  · rw [ab_parts] at hj ⊢
    rcases Nat.lt_or_ge j k with h1 | h1
    · rw [getD_rep_left _ _ _ _ h1]; exact ab_ok
    · obtain ⟨i, rfl⟩ : ∃ i, j = k + i := ⟨j - k, by omega⟩
      rw [getD_rep_right]
      have hi : i < (goL 10 [] r).length := by simp at hj; omega
      have e : ((goL 10 [] r).map mkS).getD i ByteArray.empty = mkS (goL 10 [] r)[i] := by simp [hi]
      rw [e]; exact h _ (List.getElem_mem hi)
  · obtain ⟨p, ps, e, hp⟩ := hw
    rw [ab_parts, linesOf_append, List.length_append, linesOf_ab, e, List.map_cons, linesOf, if_neg hp]
    simp

/-- Each byte by itself. -/
theorem byte_ok (c : UInt8) (h : 32 ≤ c.toNat ∧ c.toNat ≤ 126) : goL 10 [] [120, c, 10, 122] = [[120, c], [122]] ∧ lineOK (mkS [120, c]) = true ∧ wordsOf (mkS [120, c]) ≠ [] := by
  have : ∀ n : Fin 256, 32 ≤ n.1 ∧ n.1 ≤ 126 → goL 10 [] [120, UInt8.ofNat n.1, 10, 122] = [[120, UInt8.ofNat n.1], [122]] ∧ lineOK (mkS [120, UInt8.ofNat n.1]) = true ∧ wordsOf (mkS [120, UInt8.ofNat n.1]) ≠ [] := by decide +kernel
  have h2 := this ⟨c.toNat, c.toNat_lt⟩ h
  simpa using h2
theorem byte_bad (c : UInt8) (h : ¬ (32 ≤ c.toNat ∧ c.toNat ≤ 126)) (h10 : c.toNat ≠ 10) : goL 10 [] [120, c, 10, 122] = [[120, c], [122]] ∧ lineOK (mkS [120, c]) = false := by
  have : ∀ n : Fin 256, ¬ (32 ≤ n.1 ∧ n.1 ≤ 126) → n.1 ≠ 10 → goL 10 [] [120, UInt8.ofNat n.1, 10, 122] = [[120, UInt8.ofNat n.1], [122]] ∧ lineOK (mkS [120, UInt8.ofNat n.1]) = false := by decide +kernel
  have h2 := this ⟨c.toNat, c.toNat_lt⟩ h h10
  simpa using h2
theorem z_ok : lineOK (mkS [122]) = true ∧ lineOK (mkS [120]) = true ∧ lineOK (mkS []) = true ∧ wordsOf (mkS [120]) ≠ [] := by decide +kernel

/-- What the statement asks of each text. -/
theorem wrong_short (k : Nat) (c : UInt8) (hk : k < 20) :
    ((32 ≤ c.toNat ∧ c.toNat ≤ 126 ∨ c.toNat = 10) → ∃ L, splitV (mkS (abL k ++ [120, c, 10, 122])) = (L, 0, 0) ∧ k + 1 ≤ L.length) ∧
    (¬ (32 ≤ c.toNat ∧ c.toNat ≤ 126 ∨ c.toNat = 10) → splitV (mkS (abL k ++ [120, c, 10, 122])) = ([], ((k + 1 : Nat) : Int), 2)) := by
  have hl : (abL k ++ [120, c, 10, 122]).length ≤ 4000 := by rw [List.length_append, abL_length]; simp; omega
  obtain ⟨z1, z2, z3, z4⟩ := z_ok
  refine ⟨fun h => ?_, fun h => ?_⟩
  · by_cases h10 : c.toNat = 10
    · have hc : c = 10 := UInt8.toNat_inj.1 h10
      subst hc
      have e : goL 10 [] [120, 10, 10, 122] = [[120], [], [122]] := by decide +kernel
      refine wrong_none k _ (fun p hp => ?_) ⟨_, _, e, z4⟩ hl
      rw [e] at hp
      simp at hp
      rcases hp with rfl | rfl | rfl
      · exact z2
      · exact z3
      · exact z1
    · obtain ⟨e, h1, h2⟩ := byte_ok c (by omega)
      refine wrong_none k _ (fun p hp => ?_) ⟨_, _, e, h2⟩ hl
      rw [e] at hp
      simp at hp
      rcases hp with rfl | rfl
      · exact h1
      · exact z1
  · obtain ⟨e, h1⟩ := byte_bad c (by omega) (by omega)
    have := wrong_at k 0 [120, c, 10, 122] (by rw [e]; simp) (fun j hj => by omega) (by rw [e]; exact h1) hl
    simpa using this

theorem wrong_long (k : Nat) (c : UInt8) (hk : k < 20) :
    (c.toNat = 10 → splitV (mkS (abL k ++ (120 :: c :: (List.replicate 220 121 ++ [10, 122])))) = ([], ((k + 2 : Nat) : Int), 2)) ∧
    (c.toNat ≠ 10 → splitV (mkS (abL k ++ (120 :: c :: (List.replicate 220 121 ++ [10, 122])))) = ([], ((k + 1 : Nat) : Int), 2)) := by
  have hl : (abL k ++ (120 :: c :: (List.replicate 220 121 ++ [10, 122]))).length ≤ 4000 := by
    simp only [List.length_append, abL_length, List.length_cons, List.length_replicate, List.length_nil]; omega
  have hy : Without 10 (List.replicate 220 (121 : UInt8)) := fun b hb => by rw [List.eq_of_mem_replicate hb]; decide
  have hend : goL 10 [] (List.replicate 220 121 ++ [10, 122]) = [List.replicate 220 121, [122]] := by
    rw [goL_sep 10 _ [122] [] 10 hy rfl, goL_none 10 [122] [] (fun b hb => by simp at hb; subst hb; decide)]
    rfl
  refine ⟨fun h => ?_, fun h => ?_⟩
  · have hc : c = 10 := UInt8.toNat_inj.1 h
    subst hc
    have e : goL 10 [] (120 :: 10 :: (List.replicate 220 121 ++ [10, 122])) = [[120], List.replicate 220 121, [122]] := by
      have h1 : (120 :: 10 :: (List.replicate 220 121 ++ [10, 122]) : List UInt8) = [120] ++ 10 :: (List.replicate 220 121 ++ [10, 122]) := rfl
      rw [h1, goL_sep 10 [120] _ [] 10 (fun b hb => by simp at hb; subst hb; decide) rfl, hend]
      rfl
    refine wrong_at k 1 _ (by rw [e]; simp) (fun j hj => ?_) ?_ hl
    · have : j = 0 := by omega
      subst this
      rw [e]; exact z_ok.2.1
    · rw [e]; exact lineOK_long (by show 200 < (List.replicate 220 (121 : UInt8)).length; rw [List.length_replicate]; omega)
  · have e : goL 10 [] (120 :: c :: (List.replicate 220 121 ++ [10, 122])) = [120 :: c :: List.replicate 220 121, [122]] := by
      have h1 : (120 :: c :: (List.replicate 220 121 ++ [10, 122]) : List UInt8) = (120 :: c :: List.replicate 220 121) ++ 10 :: [122] := by rw [List.cons_append, List.cons_append]
      rw [h1, goL_sep 10 _ [122] [] 10 (fun b hb => by
        rcases List.mem_cons.1 hb with rfl | hb
        · decide
        · rcases List.mem_cons.1 hb with rfl | hb
          · omega
          · exact hy b hb) rfl, goL_none 10 [122] [] (fun b hb => by simp at hb; subst hb; decide)]
      rfl
    refine wrong_at k 0 _ (by rw [e]; simp) (fun j hj => by omega) ?_ hl
    rw [e]; exact lineOK_long (by show 200 < (120 :: c :: List.replicate 220 (121 : UInt8)).length; simp only [List.length_cons, List.length_replicate]; omega)

theorem mkS_cat (a b : List UInt8) : mkS a ++ mkS b = mkS (a ++ b) := by rw [mkS_append, mkS_list]

set_option maxRecDepth 100000 in
set_option maxHeartbeats 4000000 in
theorem walk_LinesWrong (n : Int) (_wn : -9223372036854775808 ≤ n ∧ n ≤ 9223372036854775807) (a : Int) (ha : 0 ≤ a ∧ a ≤ 255) (long : Bool) (w : World) :
    Calls Try.prog 5 #[.int .i64 n, .int .u8 a, .bool long] w fun e w' => e = .returned (.bool true) ∧ Below w.heap.size w w' := by
  obtain ⟨N, hN, eN⟩ := u_mod n 20 (by omega)
  replace eN : (IntKind.u64.wrap n).tmod 20 = (N : Int) := eN
  obtain ⟨c, rfl⟩ := u8_of a ha
  have hub := c.toNat_lt
  obtain ⟨W1, W2⟩ := wrong_short N c hN
  obtain ⟨W3, W4⟩ := wrong_long N c hN
  have H1 : Hid _ := W1
  have H2 : Hid _ := W2
  have H3 : Hid _ := W3
  have H4 : Hid _ := W4
  clear W1 W2 W3 W4
  go_enter Try.func5, Try.ntmps5
  go_wp2
  go_loopw [7, 18] (fun t q wr => ∃ k : Nat, k ≤ N ∧ q = .int .i64 k ∧ t = .string (mkS (abL k)) ∧ w = wr) (fun _ q _ => N - (intOf q).toNat)
  case atStart => exact ⟨0, Nat.zero_le _, rfl, rfl, rfl⟩
  case round =>
    obtain ⟨k, hk, rfl, rfl, hw⟩ := hrel
    subst hw
    have hsz : (mkS (abL k)).size = 4 * k := by rw [mkS_size, abL_length]
    by_cases hlt : k < N
    · have HE : Hid (mkS (abL k) ++ { data := #[97, 32, 98, 10] } = mkS (abL (k + 1))) := by
        show _ = _
        rw [mkS_append, abL_succ]
      generalize mkS (abL k) = X at HE hsz ⊢
      have hs1 : ({ data := #[97, 32, 98, 10] } : ByteArray).size = 4 := rfl
      go_wp2
      go_roundw
      case rel => exact ⟨k + 1, by omega, by go_num, by rw [HE.out], by first | rfl | trivial⟩
      case measure => simp [intOf]; omega
    · obtain rfl : k = N := by omega
      have hcv := conv_at (w.alloc (.cells #[.int .u8 (c.toNat : Int)] 5)) w.heap.size c (by simp)
      have HX : Hid (({ data := #[120] } : ByteArray) ++ ⟨[c].toArray⟩ = mkS [120, c]) := by
        show _ = _
        apply ByteArray.ext; unfold mkS; simp
      clear hlt
      obtain ⟨okb, hokb⟩ : ∃ okb : Bool, okb = decide (32 ≤ c.toNat ∧ c.toNat ≤ 126 ∨ c.toNat = 10) := ⟨_, rfl⟩
      have HOkb : Hid (okb = decide (32 ≤ c.toNat ∧ c.toNat ≤ 126 ∨ c.toNat = 10)) := hokb
      clear hokb
      have hs120 : ({ data := #[120] } : ByteArray).size = 1 := rfl
      have hsc : (⟨[c].toArray⟩ : ByteArray).size = 1 := rfl
      have hxe := HX.out
      have hs2 : ({ data := #[10, 122] } : ByteArray).size = 2 := rfl
      go_upto_region 8 with fail
      go_cut [9] from 27 to 36 (fun b wx => b = .bool okb ∧ w.alloc (.cells #[.int .u8 (c.toNat : Int)] 5) = wx)
      case first =>
        have cs : ((32 : Int) ≤ (c.toNat : Int) ∧ (c.toNat : Int) ≤ 126 ∧ okb = true) ∨ ((32 : Int) ≤ (c.toNat : Int) ∧ ¬ (c.toNat : Int) ≤ 126 ∧ ((c.toNat : Int) == 10) = false ∧ okb = false) ∨ (¬ (32 : Int) ≤ (c.toNat : Int) ∧ ((c.toNat : Int) == 10) = true ∧ okb = true) ∨ (¬ (32 : Int) ≤ (c.toNat : Int) ∧ ((c.toNat : Int) == 10) = false ∧ okb = false) := by
          rw [HOkb.out]
          simp only [beq_iff_eq, beq_eq_false_iff_ne, ne_eq, decide_eq_true_eq, decide_eq_false_iff_not]
          omega
        rcases cs with ⟨c1, c2, rfl⟩ | ⟨c1, c2, c3, rfl⟩ | ⟨c1, c2, rfl⟩ | ⟨c1, c2, rfl⟩
        all_goals
          go_wp2
          go_meet
          case rel => exact ⟨rfl, rfl⟩
      case rest =>
        obtain ⟨rfl, hw⟩ := hcut
        subst hw
        have HB1 : Hid (Below w.heap.size w (w.alloc (.cells #[.int .u8 (c.toNat : Int)] 5))) := (Below.refl _ _).alloc (Nat.le_refl _) _
        generalize w.alloc (.cells #[.int .u8 (c.toNat : Int)] 5) = w1 at HB1 hcv ⊢
        clear hcv
        cases long
        · have hT : mkS (abL k) ++ mkS [120, c] ++ { data := #[10, 122] } = mkS (abL k ++ [120, c, 10, 122]) := by
            rw [mkS_cat, mkS_append, List.append_assoc]; rfl
          have hsp := fun W => split_any (mkS (abL k ++ [120, c, 10, 122])) W (by rw [mkS_size, List.length_append, abL_length]; simp; omega)
          have hx2 : (mkS [120, c]).size = 2 := rfl
          have HR : Hid ((okb = true → ∃ L, splitV (mkS (abL k ++ [120, c, 10, 122])) = (L, 0, 0) ∧ k + 1 ≤ L.length) ∧ (okb = false → splitV (mkS (abL k ++ [120, c, 10, 122])) = ([], ((k + 1 : Nat) : Int), 2))) :=
            ⟨fun h => H1.out (by rw [HOkb.out, decide_eq_true_eq] at h; exact h), fun h => H2.out (by rw [HOkb.out, decide_eq_false_iff_not] at h; exact h)⟩
          rw [← hT] at hsp HR
          clear hT
          generalize mkS (abL k) = X at hsz hsp HR ⊢
          generalize mkS [120, c] = Y at hx2 hsp HR ⊢
          cases okb
          · have e := HR.out.2 rfl
            rw [e] at hsp
            have HSp : Hid _ := hsp
            clear hsp e HR
            go_wp2_with fail
            refine (HSp.out _).mono ?_
            rintro e w3 ⟨v3, rfl, ⟨vs, hk3⟩, hb3⟩
            obtain ⟨ao, ac, rfl⟩ := hk3.2.1.shaped
            have HB3 : Hid (Below w.heap.size w w3) := HB1.out.trans (hb3.mono HB1.out.size)
            clear hb3 hk3
            go_wp2_with fail
            refine (awake_any _).mono ?_
            rintro e w8 ⟨rfl, hb8⟩
            have HB8 : Hid (Below w.heap.size w w8) := HB3.out.trans (hb8.mono HB3.out.size)
            clear hb8
            go_wp2
            go_ret
            exact ⟨rfl, HB8.out⟩
          · obtain ⟨L, e, hL⟩ := HR.out.1 rfl
            rw [e] at hsp
            have HSp : Hid _ := hsp
            have hL2 : (k : Int) + 1 ≤ (L.length : Int) := by omega
            clear hsp e HR
            go_wp2_with fail
            refine (HSp.out _).mono ?_
            rintro e w3 ⟨v3, rfl, ⟨vs, hk3⟩, hb3⟩
            obtain ⟨ao, ac, rfl⟩ := hk3.2.1.shaped
            have HB3 : Hid (Below w.heap.size w w3) := HB1.out.trans (hb3.mono HB1.out.size)
            clear hb3 hk3
            go_wp2_with fail
            refine (awake_any _).mono ?_
            rintro e w8 ⟨rfl, hb8⟩
            have HB8 : Hid (Below w.heap.size w w8) := HB3.out.trans (hb8.mono HB3.out.size)
            clear hb8
            go_wp2
            go_ret
            exact ⟨rfl, HB8.out⟩
        · have hy : (mkS [120, c]).size = 2 := rfl
          go_wp2
          go_loopw [8, 38] (fun t q wr => ∃ m : Nat, m ≤ 220 ∧ q = .int .i64 m ∧ t = .string (mkS (120 :: c :: List.replicate m 121)) ∧ w1 = wr) (fun _ q _ => 220 - (intOf q).toNat)
          case atStart => exact ⟨0, Nat.zero_le _, rfl, rfl, rfl⟩
          case round =>
            obtain ⟨m, hm, rfl, rfl, hw⟩ := hrel
            subst hw
            have hsm : (mkS (120 :: c :: List.replicate m 121)).size = m + 2 := by rw [mkS_size]; simp only [List.length_cons, List.length_replicate]
            by_cases hlt : m < 220
            · have HE : Hid (mkS (120 :: c :: List.replicate m 121) ++ { data := #[121] } = mkS (120 :: c :: List.replicate (m + 1) 121)) := by
                show _ = _
                rw [mkS_append, List.replicate_succ']; rfl
              generalize mkS (120 :: c :: List.replicate m 121) = Z at HE hsm ⊢
              have hs1 : ({ data := #[121] } : ByteArray).size = 1 := rfl
              have hlt' : (m : Int) < 220 := by omega
              go_wp2
              go_roundw
              case rel => exact ⟨m + 1, by omega, by go_num, by rw [HE.out], by first | rfl | trivial⟩
              case measure => simp [intOf]; omega
            · obtain rfl : m = 220 := by omega
              have hT : mkS (abL k) ++ mkS (120 :: c :: List.replicate 220 121) ++ { data := #[10, 122] } = mkS (abL k ++ (120 :: c :: (List.replicate 220 121 ++ [10, 122]))) := by
                rw [mkS_cat, mkS_append, List.append_assoc, List.cons_append, List.cons_append]
              have hsp := fun W => split_any (mkS (abL k ++ (120 :: c :: (List.replicate 220 121 ++ [10, 122])))) W (by
                rw [mkS_size]; simp only [List.length_append, abL_length, List.length_cons, List.length_replicate, List.length_nil]; omega)
              have HR3 : Hid (c.toNat = 10 → splitV (mkS (abL k ++ (120 :: c :: (List.replicate 220 121 ++ [10, 122])))) = ([], ((k + 2 : Nat) : Int), 2)) := H3.out
              have HR4 : Hid (c.toNat ≠ 10 → splitV (mkS (abL k ++ (120 :: c :: (List.replicate 220 121 ++ [10, 122])))) = ([], ((k + 1 : Nat) : Int), 2)) := H4.out
              rw [← hT] at hsp HR3 HR4
              clear hT hlt
              generalize mkS (abL k) = X at hsz hsp HR3 HR4 ⊢
              generalize mkS (120 :: c :: List.replicate 220 121) = Y at hsm hsp HR3 HR4 ⊢
              by_cases h10 : c.toNat = 10
              · have e := HR3.out h10
                have z : ((c.toNat : Int) == 10) = true := by rw [beq_iff_eq]; omega
                rw [e, show (((k + 2 : Nat) : Int)) = (k : Int) + 1 + 1 by omega] at hsp
                have HSp : Hid _ := hsp
                clear hsp e HR3 HR4 h10
                go_wp2_with fail
                refine (HSp.out _).mono ?_
                rintro e w3 ⟨v3, rfl, ⟨vs, hk3⟩, hb3⟩
                obtain ⟨ao, ac, rfl⟩ := hk3.2.1.shaped
                have HB3 : Hid (Below w.heap.size w w3) := HB1.out.trans (hb3.mono HB1.out.size)
                clear hb3 hk3
                go_wp2_with fail
                refine (awake_any _).mono ?_
                rintro e w8 ⟨rfl, hb8⟩
                have HB8 : Hid (Below w.heap.size w w8) := HB3.out.trans (hb8.mono HB3.out.size)
                clear hb8
                go_wp2
                go_ret
                exact ⟨rfl, HB8.out⟩
              · have e := HR4.out h10
                have z : ((c.toNat : Int) == 10) = false := by rw [beq_eq_false_iff_ne]; omega
                rw [e] at hsp
                have HSp : Hid _ := hsp
                clear hsp e HR3 HR4 h10
                go_wp2_with fail
                refine (HSp.out _).mono ?_
                rintro e w3 ⟨v3, rfl, ⟨vs, hk3⟩, hb3⟩
                obtain ⟨ao, ac, rfl⟩ := hk3.2.1.shaped
                have HB3 : Hid (Below w.heap.size w w3) := HB1.out.trans (hb3.mono HB1.out.size)
                clear hb3 hk3
                go_wp2_with fail
                refine (awake_any _).mono ?_
                rintro e w8 ⟨rfl, hb8⟩
                have HB8 : Hid (Below w.heap.size w w8) := HB3.out.trans (hb8.mono HB3.out.size)
                clear hb8
                go_wp2
                go_ret
                exact ⟨rfl, HB8.out⟩


set_option maxRecDepth 100000 in
theorem lifted_LinesWrong (os : Os) (started : os.Started) (H : Type) (enc : TypeId × Value → H) :
    ReturnsInHanded {} Try.checked os 5 .any (Rows.linesWrongSpec.pre6 enc Try.prog Try.f5 Rows.linesWrongRow.domain false) (Rows.linesWrongSpec.post enc Try.prog Try.f5 false true false false) := by
  refine returnsInHanded_of_change (C := Try.checked) own started (by kernel_rfl) Try.func5
    (ChangeSpec.witness6 (enc := enc) (C := Try.checked) false ⟨#[], #[.int .i64 0, .int .u8 0, .bool false], []⟩ 8 (by kernel_rfl) (by kernel_rfl) (by kernel_rfl) (by kernel_rfl)) ?_
  intro W base args ds gs before hval0 hW hcnd _
  have hval : ∀ (j : Nat) t v, Try.f5.params[j]? = some t → args[j]? = some v → Value.okWide Try.prog W .any base t v := hval0
  have hW' := hW
  obtain ⟨p, q, hA0, hV, rfl, hfz, hnd⟩ := hW
  have hA : DataW.TrodAll enc Try.prog W 0 (fun _ => true) true Try.f5.params.toList args.toList ds p := hA0
  rw [Try.params5] at hA hval
  obtain ⟨v0, vs0, d0, ds0, p0, q0, hargs, rfl, rfl, h0, r0⟩ := trodAll_cons hA
  obtain ⟨v1, vs1, d1, ds1, p1, q1, rfl, rfl, rfl, h1, r1⟩ := trodAll_cons r0
  obtain ⟨v2, vs2, d2, ds2, p2, q2, rfl, rfl, rfl, h2, r2⟩ := trodAll_cons r1
  obtain ⟨rfl, rfl, rfl⟩ := trodAll_nil r2
  obtain rfl : args = #[v0, v1, v2] := by cases args; simp_all
  obtain ⟨rfl, rfl⟩ := trodVars_none hV
  obtain ⟨a0, rfl, rfl, rfl, w0⟩ := open_int Try.underlying3 (hval 0 3 v0 rfl rfl) h0
  obtain ⟨a1, rfl, rfl, rfl, w1⟩ := open_int Try.underlying5 (hval 1 5 v1 rfl rfl) h1
  obtain ⟨a2, rfl, rfl, rfl⟩ := open_bool Try.underlying4 (hval 2 4 v2 rfl rfl) h2
  clear hA0 hval0
  refine (walk_LinesWrong a0 (wf_i64 w0) a1 (bounds_u8 w1) a2 W).mono fun e W' ⟨he, bel⟩ => ?_
  subst he
  exact ⟨_, rfl, _, _, _, [], _, [], hW', trodAll_mk1 (shut_bool Try.underlying4 _), (trodAll_cons_mk (shut_int Try.underlying3 w0) (trodAll_cons_mk (shut_int Try.underlying5 w1) (trodAll_cons_mk (shut_bool Try.underlying4 a2) trodAll_mk0))), rfl, bel.frame _, fun h => by cases h⟩

theorem over_LinesWrong : Rows.linesWrongRow.holds Try.pinned (OpenSpec.ofChange Rows.linesWrongSpec) :=
  OpenClaim.holds_of_wide 5 Try.f5 rfl rfl rfl rfl rfl rfl rfl ⟨rfl, rfl, rfl, rfl, rfl⟩ rfl rfl rfl rfl rfl (by kernel_rfl) Try.func5 (by kernel_rfl)
    (of_decide_eq_true (by kernel_rfl)) (by unfold Func.isWrapper; first | (rw [if_pos (by decide +kernel)]; kernel_rfl) | (rw [if_neg (by decide +kernel)]; exact ⟨rfl, rfl⟩))
    (fun os started H enc _ => lifted_LinesWrong os started H enc)

/-- The statement. -/
theorem linesWrong_holds : Rows.LinesWrongSaid := over_LinesWrong
#print axioms linesWrong_holds

end Go.Proofs.Ytpccjlocmbfmnaa

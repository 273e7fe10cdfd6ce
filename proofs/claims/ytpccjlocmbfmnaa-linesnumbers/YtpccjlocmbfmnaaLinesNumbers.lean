/-
  Proved: triagelaw5.LinesNumbers returns true for every int and changes nothing that was there. No condition.
-/
import Derived.Test.YtpccjlocmbfmnaaLinesFrame
import Derived.Test.YtpccjlocmbfmnaaLinesMath
import Derived.Test.YtpccjlocmbfmnaaDigPlain
namespace Go.Proofs.Ytpccjlocmbfmnaa
open Go.ChangeShapes Go.WideShapes Go.ChangeAt Go.RowKit

theorem num_zero (N : Nat) : numOK ({ data := #[48] } ++ mkS (digL N)) = false := by
  have hp := digL_pos N
  have hs : ({ data := #[48] } ++ mkS (digL N)).size = 1 + (digL N).length := by rw [ByteArray.size_append]; rfl
  unfold numOK
  have e : ({ data := #[48] } ++ mkS (digL N)).data.toList = 48 :: digL N := by unfold mkS; simp
  rw [e, hs]
  have : decide (1 < 1 + (digL N).length) = true := decide_eq_true (by omega)
  rw [this]
  simp
theorem num_sign (N : Nat) : numOK ({ data := #[45] } ++ mkS (digL N)) = false := by
  unfold numOK
  have e : ({ data := #[45] } ++ mkS (digL N)).data.toList = 45 :: digL N := by unfold mkS; simp
  rw [e]
  have : (45 :: digL N).all isDig = false := rfl
  rw [this]
  simp
theorem num_long (N : Nat) : numOK (mkS (digL N) ++ { data := #[48, 48, 48, 48, 48, 48, 49] }) = false := by
  have hp := digL_pos N
  apply numOK_short
  rw [ByteArray.size_append]
  have : (mkS (digL N)).size = (digL N).length := rfl
  have h7 : ({ data := #[48, 48, 48, 48, 48, 48, 49] } : ByteArray).size = 7 := rfl
  omega

theorem split_digits (N : Nat) (hN : N ≤ 1000000) : splitV (mkS (textL [(0, [mkS (digL N)])])) = ([(1, [mkS (digL N)])], 0, 0) := by
  have hl := digL_len N 7 (by omega) (by omega)
  have hp := digL_pos N
  have hw : wordsL [mkS (digL N)] = digL N := by unfold wordsL; simp [joinL, mkS_list]
  have h := split_back [[mkS (digL N)]] [] (fun ws hws => by
    rw [List.mem_singleton] at hws
    subst hws
    refine ⟨⟨by simp, fun s hs => ?_⟩, by rw [hw]; omega⟩
    rw [List.mem_singleton] at hs
    subst hs
    refine ⟨hp, fun b hb => ?_⟩
    rw [mkS_list] at hb
    have := digL_digits N b hb
    unfold isDig at this
    simp only [decide_eq_true_eq] at this
    omega) (fun b hb => by simp at hb) (by decide +kernel) (by decide +kernel) (by simp [textL, numberedL, hw]; omega)
  have e : textL (numberedL 0 [[mkS (digL N)]]) ++ [] = textL [(0, [mkS (digL N)])] := by simp [textL, numberedL]
  rw [e] at h
  exact h

set_option maxRecDepth 100000 in
set_option maxHeartbeats 1000000 in
theorem digits_any (N : Nat) (w : World) (hN : N ≤ 1000000) :
    Calls Try.prog 20 #[.int .i64 (N : Int)] w fun e w' => e = .returned (.string (mkS (digL N))) ∧ Below w.heap.size w w' := by
  have HL : Hid ((digL N).length ≤ 7) := digL_len N 7 (by omega) (by omega)
  go_enter Try.func20, Try.ntmps20
  go_wp2
  go_loopw [0, 3] (fun q t wr => ∃ (m : Nat) (acc : List UInt8), m ≤ N ∧ q = .int .i64 m ∧ t = .string (mkS acc) ∧ digL m ++ acc = digL N ∧ Below w.heap.size w wr) (fun q _ _ => (intOf q).toNat)
  case atStart => exact ⟨N, [], Nat.le_refl _, rfl, rfl, by simp, Below.refl _ _⟩
  case round =>
    obtain ⟨m, acc, hm, rfl, rfl, he, hb⟩ := hrel
    have HE : Hid (digL m ++ acc = digL N) := he
    have HB : Hid (Below w.heap.size w wr) := hb
    have hal : (mkS acc).size ≤ 7 := by
      have h1 := congrArg List.length he
      rw [List.length_append] at h1
      have h2 := HL.out
      rw [mkS_size]; omega
    clear he hb
    obtain ⟨d, hd⟩ : ∃ d, d = dig m := ⟨_, rfl⟩
    have hdn : d.toNat = 48 + m % 10 := by rw [hd]; exact dig_nat m
    have HDd : Hid (d = dig m) := hd
    have HDn : Hid (d.toNat = 48 + m % 10) := hdn
    have hcv := conv_at (wr.alloc (.cells #[.int .u8 (d.toNat : Int)] 5)) wr.heap.size d (by simp)
    rw [show (d.toNat : Int) = 48 + (m : Int) % 10 by rw [hdn]; omega] at hcv
    have HAp : Hid ((⟨[d].toArray⟩ : ByteArray) ++ mkS acc = mkS (d :: acc)) := by
      show _ = _
      apply ByteArray.ext; unfold mkS; simp
    clear hd hdn
    have hs1 : (⟨[d].toArray⟩ : ByteArray).size = 1 := rfl
    by_cases hs : m < 10
    · have HR : Hid (mkS (d :: acc) = mkS (digL N)) := by
        show _ = _
        rw [← HE.out, digL_small hs, HDd.out]; rfl
      have z : ((m : Int) / 10 == 0) = true := by rw [beq_iff_eq]; omega
      generalize mkS acc = Y at hal HAp ⊢
      generalize (⟨[d].toArray⟩ : ByteArray) = X at hcv HAp hs1
      go_wp2
      go_ret
      exact ⟨by rw [← HR.out, ← HAp.out]; rfl, HB.out.alloc HB.out.size _⟩
    · have HR : Hid (digL (m / 10) ++ d :: acc = digL N) := by
        show _ = _
        rw [← HE.out, digL_big hs, HDd.out]; simp
      have z : ((m : Int) / 10 == 0) = false := by rw [beq_eq_false_iff_ne]; omega
      generalize mkS acc = Y at hal HAp ⊢
      generalize (⟨[d].toArray⟩ : ByteArray) = X at hcv HAp hs1
      go_wp2
      go_roundw
      case rel => exact ⟨m / 10, d :: acc, by omega, by rw [show (m : Int) / 10 = ((m / 10 : Nat) : Int) by omega], by rw [HAp.out], HR.out, HB.out.alloc HB.out.size _⟩
      case measure => simp [intOf]; omega

theorem one_line_lines (w : World) (x : ByteArray) (t1 t2 : Nat) :
    IsLines ((w.alloc (.cells #[.string x] t1)).alloc (.cells #[.int .i64 0, .slice (some ⟨w.heap.size, 0, none⟩) 1 1] t2)) (.slice (some ⟨w.heap.size + 1, 0, none⟩) 1 1) [.slice (some ⟨w.heap.size, 0, none⟩) 1 1] [(0, [x])] := by
  refine ⟨rfl, one_line _ 0 _ t2 _ (by simp), fun i hi => ?_⟩
  obtain rfl : i = 0 := by simpa using hi
  exact (one_cell w (.string x) t1 _ rfl).below ((Below.refl _ _).alloc (Nat.le_refl _) _)

set_option maxRecDepth 100000 in
set_option maxHeartbeats 2000000 in
theorem walk_LinesNumbers (n : Int) (_wn : -9223372036854775808 ≤ n ∧ n ≤ 9223372036854775807) (w : World) :
    Calls Try.prog 6 #[.int .i64 n] w fun e w' => e = .returned (.bool true) ∧ Below w.heap.size w w' := by
  obtain ⟨N, hN, eN⟩ := u_mod n 1000001 (by omega)
  replace eN : (IntKind.u64.wrap n).tmod 1000001 = (N : Int) := eN
  have hdg := fun W => digits_any N W (by omega)
  have htl : (textL [(0, [mkS (digL N)])]).length ≤ 8 := by
    have := digL_len N 7 (by omega) (by omega)
    simp [textL, wordsL, joinL, mkS_list]; omega
  have hjn := fun W t1 t2 => rJoin_any [(0, [mkS (digL N)])] _ _ _ (one_line_lines W (mkS (digL N)) t1 t2) (by omega)
  have hsp := fun W => split_any (mkS (textL [(0, [mkS (digL N)])])) W (by rw [mkS_size]; omega)
  rw [split_digits N (by omega)] at hsp
  have hln := digL_len N 7 (by omega) (by omega)
  have hn1 := fun W => number_any (mkS (digL N)) W (by rw [mkS_size]; omega)
  rw [(num_digits N (by omega)).1, (num_digits N (by omega)).2] at hn1
  have hn2 := fun W => number_any ({ data := #[48] } ++ mkS (digL N)) W (by rw [ByteArray.size_append, mkS_size]; show 1 + _ ≤ _; omega)
  rw [num_zero] at hn2
  have hn3 := fun W => number_any ({ data := #[45] } ++ mkS (digL N)) W (by rw [ByteArray.size_append, mkS_size]; show 1 + _ ≤ _; omega)
  rw [num_sign] at hn3
  have hn4 := fun W => number_any (mkS (digL N) ++ { data := #[48, 48, 48, 48, 48, 48, 49] }) W (by rw [ByteArray.size_append, mkS_size]; show _ + 7 ≤ _; omega)
  rw [num_long] at hn4
  have hxs : (mkS (digL N)).size ≤ 7 := hln
  generalize mkS (textL [(0, [mkS (digL N)])]) = T at hjn hsp
  generalize mkS (digL N) = X at hdg hjn hsp hn1 hn2 hn3 hn4 hxs
  generalize numV ({ data := #[48] } ++ X) = z2 at hn2
  generalize numV ({ data := #[45] } ++ X) = z3 at hn3
  generalize numV (X ++ { data := #[48, 48, 48, 48, 48, 48, 49] }) = z4 at hn4
  clear htl hln
  have HN1 : Hid _ := hn1
  have HN2 : Hid _ := hn2
  have HN3 : Hid _ := hn3
  have HN4 : Hid _ := hn4
  have HSp : Hid _ := hsp
  have HJn : Hid _ := hjn
  clear hn1 hn2 hn3 hn4 hsp hjn
  have hs48 : ({ data := #[48] } : ByteArray).size = 1 := rfl
  have hs45 : ({ data := #[45] } : ByteArray).size = 1 := rfl
  have hs7 : ({ data := #[48, 48, 48, 48, 48, 48, 49] } : ByteArray).size = 7 := rfl
  go_enter Try.func6, Try.ntmps6
  go_wp2_with fail
  refine (hdg _).mono ?_
  rintro e w1 ⟨rfl, hb1⟩
  have HB1 : Hid (Below w.heap.size w w1) := hb1
  clear hb1 hdg
  go_wp2_with fail
  refine (HJn.out _ _ _).mono ?_
  rintro e w2 ⟨rfl, hb2⟩
  have HB2 : Hid (Below w.heap.size w w2) := ((HB1.out.alloc HB1.out.size _).alloc (by have := HB1.out.size; simp; omega) _).trans (hb2.mono (by have := HB1.out.size; simp; omega))
  clear hb2
  go_wp2_with fail
  refine (HSp.out _).mono ?_
  rintro e w3 ⟨v3, rfl, ⟨vs, hk3⟩, hb3⟩
  obtain ⟨ao, ac, rfl⟩ := hk3.2.1.shaped
  have HB3 : Hid (Below w.heap.size w w3) := HB2.out.trans (hb3.mono HB2.out.size)
  obtain ⟨b1, o1, rfl, hbl1, g1, g2⟩ := hk3.at 0 (by simp)
  have hW := hk3.2.2 0 (by simp)
  generalize vs.getD 0 nilW = p1 at g2 hW
  obtain ⟨wo, wc, rfl⟩ := IsRow.shaped hW
  obtain ⟨b2, o2, rfl, hbl2, g3⟩ := strsAt hW 0 (by simp)
  have G : Hid (∀ W, Below w3.heap.size w3 W → W.cell? ⟨b1, o1 + 1, none⟩ = some (.slice (some ⟨b2, o2, none⟩) 1 wc) ∧ W.cell? ⟨b2, o2, none⟩ = some (.string X)) := fun W h => by
    refine ⟨(h.cell (p := ⟨b1, o1 + 1, none⟩) hbl1).trans (by simpa using g2), (h.cell (p := ⟨b2, o2, none⟩) hbl2).trans (by simpa using g3)⟩
  clear hb3 hk3 hW g1 g2 g3
  obtain ⟨y1, y2⟩ := G.out w3 (Below.refl _ _)
  go_wp2_with fail
  refine (HN1.out _).mono ?_
  rintro e w4 ⟨rfl, hb4⟩
  have HB4 : Hid (Below w3.heap.size w3 w4) := hb4
  clear hb4 y1 y2
  obtain ⟨y1, y2⟩ := G.out w4 HB4.out
  go_wp2_with fail
  refine (HN2.out _).mono ?_
  rintro e w5 ⟨rfl, hb5⟩
  have HB5 : Hid (Below w3.heap.size w3 w5) := HB4.out.trans (hb5.mono HB4.out.size)
  clear hb5 y1 y2
  obtain ⟨y1, y2⟩ := G.out w5 HB5.out
  go_wp2_with fail
  refine (HN3.out _).mono ?_
  rintro e w6 ⟨rfl, hb6⟩
  have HB6 : Hid (Below w3.heap.size w3 w6) := HB5.out.trans (hb6.mono HB5.out.size)
  clear hb6 y1 y2
  obtain ⟨y1, y2⟩ := G.out w6 HB6.out
  go_wp2_with fail
  refine (HN4.out _).mono ?_
  rintro e w7 ⟨rfl, hb7⟩
  have HB7 : Hid (Below w3.heap.size w3 w7) := HB6.out.trans (hb7.mono HB6.out.size)
  clear hb7 y1 y2
  go_wp2_with fail
  refine (awake_any _).mono ?_
  rintro e w8 ⟨rfl, hb8⟩
  have HB8 : Hid (Below w.heap.size w w8) := (HB3.out.trans (HB7.out.mono HB3.out.size)).trans (hb8.mono (Nat.le_trans HB3.out.size HB7.out.size))
  clear hb8
  go_wp2
  go_ret
  exact ⟨rfl, HB8.out⟩


set_option maxRecDepth 100000 in
theorem lifted_LinesNumbers (os : Os) (started : os.Started) (H : Type) (enc : TypeId × Value → H) :
    ReturnsInHanded {} Try.checked os 6 .any (Rows.linesNumbersSpec.pre6 enc Try.prog Try.f6 Rows.linesNumbersRow.domain false) (Rows.linesNumbersSpec.post enc Try.prog Try.f6 false true false false) := by
  refine returnsInHanded_of_change (C := Try.checked) own started (by kernel_rfl) Try.func6
    (ChangeSpec.witness6 (enc := enc) (C := Try.checked) false ⟨#[], #[.int .i64 0], []⟩ 8 (by kernel_rfl) (by kernel_rfl) (by kernel_rfl) (by kernel_rfl)) ?_
  intro W base args ds gs before hval0 hW hcnd _
  have hval : ∀ (j : Nat) t v, Try.f6.params[j]? = some t → args[j]? = some v → Value.okWide Try.prog W .any base t v := hval0
  have hW' := hW
  obtain ⟨p, q, hA0, hV, rfl, hfz, hnd⟩ := hW
  have hA : DataW.TrodAll enc Try.prog W 0 (fun _ => true) true Try.f6.params.toList args.toList ds p := hA0
  rw [Try.params6] at hA hval
  obtain ⟨v0, vs0, d0, ds0, p0, q0, hargs, rfl, rfl, h0, r0⟩ := trodAll_cons hA
  obtain ⟨rfl, rfl, rfl⟩ := trodAll_nil r0
  obtain rfl : args = #[v0] := by cases args; simp_all
  obtain ⟨rfl, rfl⟩ := trodVars_none hV
  obtain ⟨a0, rfl, rfl, rfl, w0⟩ := open_int Try.underlying3 (hval 0 3 v0 rfl rfl) h0
  clear hA0 hval0
  refine (walk_LinesNumbers a0 (wf_i64 w0) W).mono fun e W' ⟨he, bel⟩ => ?_
  subst he
  exact ⟨_, rfl, _, _, _, [], _, [], hW', trodAll_mk1 (shut_bool Try.underlying4 _), (trodAll_cons_mk (shut_int Try.underlying3 w0) trodAll_mk0), rfl, bel.frame _, fun h => by cases h⟩

theorem over_LinesNumbers : Rows.linesNumbersRow.holds Try.pinned (OpenSpec.ofChange Rows.linesNumbersSpec) :=
  OpenClaim.holds_of_wide 6 Try.f6 rfl rfl rfl rfl rfl rfl rfl ⟨rfl, rfl, rfl, rfl, rfl⟩ rfl rfl rfl rfl rfl (by kernel_rfl) Try.func6 (by kernel_rfl)
    (of_decide_eq_true (by kernel_rfl)) (by unfold Func.isWrapper; first | (rw [if_pos (by decide +kernel)]; kernel_rfl) | (rw [if_neg (by decide +kernel)]; exact ⟨rfl, rfl⟩))
    (fun os started H enc _ => lifted_LinesNumbers os started H enc)

/-- The statement. -/
theorem linesNumbers_holds : Rows.LinesNumbersSaid := over_LinesNumbers
#print axioms linesNumbers_holds

end Go.Proofs.Ytpccjlocmbfmnaa

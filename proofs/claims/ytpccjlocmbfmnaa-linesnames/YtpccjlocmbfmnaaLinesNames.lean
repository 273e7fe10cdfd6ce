/-
  Proved: triagelaw5.LinesNames returns true for every int and every byte and changes nothing that was there. No condition.
-/
import Derived.Test.YtpccjlocmbfmnaaLinesFrame
import Derived.Deep.CutRange
namespace Go.Proofs.Ytpccjlocmbfmnaa
open Go.ChangeShapes Go.WideShapes Go.ChangeAt Go.RowKit

theorem name_as (k : Nat) (hk : k < 16) : nameOK (mkS (List.replicate k 97)) = (decide ((1 : Int) ≤ (k : Int)) && decide ((k : Int) ≤ 12)) := by
  have : ∀ j : Fin 16, nameOK (mkS (List.replicate j.1 97)) = (decide ((1 : Int) ≤ (j.1 : Int)) && decide ((j.1 : Int) ≤ 12)) := by decide +kernel
  exact this ⟨k, hk⟩
theorem name_x (c : UInt8) : nameOK ({ data := #[120] } ++ ⟨[c].toArray⟩) = nameB c := by
  have : ∀ n : Fin 256, nameOK ({ data := #[120] } ++ ⟨[UInt8.ofNat n.1].toArray⟩) = nameB (UInt8.ofNat n.1) := by decide +kernel
  have h := this ⟨c.toNat, c.toNat_lt⟩
  simpa using h
theorem name_c (c : UInt8) : nameOK ⟨[c].toArray⟩ = (nameB c && ((c.toNat : Int) != 45)) := by
  have : ∀ n : Fin 256, nameOK ⟨[UInt8.ofNat n.1].toArray⟩ = (nameB (UInt8.ofNat n.1) && (((UInt8.ofNat n.1).toNat : Int) != 45)) := by decide +kernel
  have h := this ⟨c.toNat, c.toNat_lt⟩
  simpa using h
theorem name_minus2 : nameOK { data := #[45, 45] } = true := by decide +kernel

theorem name_cases (c : UInt8) :
    (((97 : Int) ≤ (c.toNat : Int) ∧ (c.toNat : Int) ≤ 122) ∨ (¬ (97 : Int) ≤ (c.toNat : Int) ∧ (48 : Int) ≤ (c.toNat : Int) ∧ (c.toNat : Int) ≤ 57) ∨ (¬ (97 : Int) ≤ (c.toNat : Int) ∧ ¬ (48 : Int) ≤ (c.toNat : Int) ∧ ((c.toNat : Int) == 45) = true) ∨ (¬ (97 : Int) ≤ (c.toNat : Int) ∧ ¬ (48 : Int) ≤ (c.toNat : Int) ∧ ((c.toNat : Int) == 45) = false ∧ ((c.toNat : Int) == 46) = true)) ∧ nameB c = true ∨
    (((97 : Int) ≤ (c.toNat : Int) ∧ ¬ (c.toNat : Int) ≤ 122 ∧ (48 : Int) ≤ (c.toNat : Int) ∧ ¬ (c.toNat : Int) ≤ 57 ∧ ((c.toNat : Int) == 45) = false ∧ ((c.toNat : Int) == 46) = false) ∨ (¬ (97 : Int) ≤ (c.toNat : Int) ∧ (48 : Int) ≤ (c.toNat : Int) ∧ ¬ (c.toNat : Int) ≤ 57 ∧ ((c.toNat : Int) == 45) = false ∧ ((c.toNat : Int) == 46) = false) ∨ (¬ (97 : Int) ≤ (c.toNat : Int) ∧ ¬ (48 : Int) ≤ (c.toNat : Int) ∧ ((c.toNat : Int) == 45) = false ∧ ((c.toNat : Int) == 46) = false)) ∧ nameB c = false := by
  unfold nameB
  simp only [beq_iff_eq, beq_eq_false_iff_ne, ne_eq, decide_eq_true_eq, decide_eq_false_iff_not]
  omega

set_option maxRecDepth 100000 in
set_option maxHeartbeats 2000000 in
theorem walk_LinesNames (n : Int) (_wn : -9223372036854775808 ≤ n ∧ n ≤ 9223372036854775807) (a : Int) (ha : 0 ≤ a ∧ a ≤ 255) (w : World) :
    Calls Try.prog 7 #[.int .i64 n, .int .u8 a] w fun e w' => e = .returned (.bool true) ∧ Below w.heap.size w w' := by
  obtain ⟨N, hN, eN⟩ := u_mod n 16 (by omega)
  replace eN : (IntKind.u64.wrap n).tmod 16 = (N : Int) := eN
  obtain ⟨c, rfl⟩ := u8_of a ha
  have hub := c.toNat_lt
  have HA : Hid (nameOK (mkS (List.replicate N 97)) = (decide ((1 : Int) ≤ (N : Int)) && decide ((N : Int) ≤ 12))) := name_as N hN
  have HX : Hid (nameOK ({ data := #[120] } ++ ⟨[c].toArray⟩) = nameB c) := name_x c
  have HC : Hid (nameOK ⟨[c].toArray⟩ = (nameB c && ((c.toNat : Int) != 45))) := name_c c
  go_enter Try.func7, Try.ntmps7
  go_wp2
  go_loopw [5, 12] (fun t q wr => ∃ k : Nat, k ≤ N ∧ q = .int .i64 k ∧ t = .string (mkS (List.replicate k 97)) ∧ w = wr) (fun _ q _ => N - (intOf q).toNat)
  case atStart => exact ⟨0, Nat.zero_le _, rfl, rfl, rfl⟩
  case round =>
    obtain ⟨k, hk, rfl, rfl, hw⟩ := hrel
    subst hw
    by_cases hlt : k < N
    · have HE : Hid (mkS (List.replicate k 97) ++ { data := #[97] } = mkS (List.replicate (k + 1) 97)) := by
        show _ = _
        rw [mkS_append, List.replicate_succ']
      have hsz : (mkS (List.replicate k 97)).size = k := by rw [mkS_size, List.length_replicate]
      generalize mkS (List.replicate k 97) = X at HE hsz ⊢
      have hs1 : ({ data := #[97] } : ByteArray).size = 1 := rfl
      go_wp2
      go_roundw
      case rel => exact ⟨k + 1, by omega, by go_num, by rw [HE.out], by first | rfl | trivial⟩
      case measure => simp [intOf]; omega
    · obtain rfl : k = N := by omega
      have hs1 := fun W => name_any (mkS (List.replicate k 97)) W (by rw [mkS_size, List.length_replicate]; omega)
      rw [HA.out] at hs1
      generalize mkS (List.replicate k 97) = X at hs1 ⊢
      have hx1 := fun W => name_any ({ data := #[120] } ++ ⟨[c].toArray⟩) W (by rw [ByteArray.size_append]; show 1 + 1 ≤ _; omega)
      rw [HX.out] at hx1
      have hc1 := fun W => name_any ⟨[c].toArray⟩ W (by show 1 ≤ _; omega)
      rw [HC.out] at hc1
      have hm1 := fun W => name_any { data := #[45, 45] } W (by decide)
      have hm2 := fun W => rWord_any { data := #[45, 45] } W (by decide)
      rw [name_minus2] at hm1 hm2
      have HNC := name_cases c
      generalize nameB c = nb at hx1 hc1 HNC
      have HS1 : Hid _ := hs1
      have HX1 : Hid _ := hx1
      have HC1 : Hid _ := hc1
      have HM1 : Hid _ := hm1
      have HM2 : Hid _ := hm2
      clear hs1 hx1 hc1 hm1 hm2
      go_upto_region 7 with fail
      go_cut [6] from 17 to 38 (fun b wx => b = .bool nb ∧ w = wx)
      case first =>
        rcases HNC with ⟨hcs, rfl⟩ | ⟨hcs, rfl⟩
        · rcases hcs with ⟨c1, c2⟩ | ⟨c1, c2, c3⟩ | ⟨c1, c2, c3⟩ | ⟨c1, c2, c3, c4⟩
          all_goals
            go_wp2
            go_meet
            case rel => exact ⟨rfl, rfl⟩
        · rcases hcs with ⟨c1, c2, c3, c4, c5, c6⟩ | ⟨c1, c2, c3, c4, c5⟩ | ⟨c1, c2, c3, c4⟩
          all_goals
            go_wp2
            go_meet
            case rel => exact ⟨rfl, rfl⟩
      case rest =>
        obtain ⟨rfl, hw⟩ := hcut
        subst hw
        clear HNC
        have key : (1 : Int) ≤ (k : Int) ∨ ¬ (1 : Int) ≤ (k : Int) := by omega
        rcases key with z1 | z1
        all_goals
          cases nb
          all_goals
            go_wp2_with fail
            refine (HS1.out _).mono ?_
            rintro e w1 ⟨rfl, hb1⟩
            have HB1 : Hid (Below w.heap.size w w1) := hb1
            clear hb1
            have hcv := conv_at (w1.alloc (.cells #[.int .u8 (c.toNat : Int)] 5)) w1.heap.size c (by simp)
            go_wp2_with fail
            refine (HX1.out _).mono ?_
            rintro e w2 ⟨rfl, hb2⟩
            have HB2 : Hid (Below w.heap.size w w2) := (HB1.out.alloc HB1.out.size _).trans (hb2.mono (by have := HB1.out.size; simp; omega))
            clear hb2 hcv
            have hcv := conv_at (w2.alloc (.cells #[.int .u8 (c.toNat : Int)] 5)) w2.heap.size c (by simp)
            go_wp2_with fail
            refine (HC1.out _).mono ?_
            rintro e w3 ⟨rfl, hb3⟩
            have HB3 : Hid (Below w.heap.size w w3) := (HB2.out.alloc HB2.out.size _).trans (hb3.mono (by have := HB2.out.size; simp; omega))
            clear hb3 hcv
            go_wp2_with fail
            refine (HM2.out _).mono ?_
            rintro e w4 ⟨rfl, hw4⟩
            subst w4
            go_wp2_with fail
            refine (HM1.out _).mono ?_
            rintro e w5 ⟨rfl, hb5⟩
            have HB5 : Hid (Below w.heap.size w w5) := HB3.out.trans (hb5.mono HB3.out.size)
            clear hb5
            go_wp2_with fail
            refine (awake_any _).mono ?_
            rintro e w6 ⟨rfl, hb6⟩
            have HB6 : Hid (Below w.heap.size w w6) := HB5.out.trans (hb6.mono HB5.out.size)
            clear hb6
            go_wp2
            go_ret
            exact ⟨rfl, HB6.out⟩


set_option maxRecDepth 100000 in
theorem lifted_LinesNames (os : Os) (started : os.Started) (H : Type) (enc : TypeId × Value → H) :
    ReturnsInHanded {} Try.checked os 7 .any (Rows.linesNamesSpec.pre6 enc Try.prog Try.f7 Rows.linesNamesRow.domain false) (Rows.linesNamesSpec.post enc Try.prog Try.f7 false true false false) := by
  refine returnsInHanded_of_change (C := Try.checked) own started (by kernel_rfl) Try.func7
    (ChangeSpec.witness6 (enc := enc) (C := Try.checked) false ⟨#[], #[.int .i64 0, .int .u8 0], []⟩ 8 (by kernel_rfl) (by kernel_rfl) (by kernel_rfl) (by kernel_rfl)) ?_
  intro W base args ds gs before hval0 hW hcnd _
  have hval : ∀ (j : Nat) t v, Try.f7.params[j]? = some t → args[j]? = some v → Value.okWide Try.prog W .any base t v := hval0
  have hW' := hW
  obtain ⟨p, q, hA0, hV, rfl, hfz, hnd⟩ := hW
  have hA : DataW.TrodAll enc Try.prog W 0 (fun _ => true) true Try.f7.params.toList args.toList ds p := hA0
  rw [Try.params7] at hA hval
  obtain ⟨v0, vs0, d0, ds0, p0, q0, hargs, rfl, rfl, h0, r0⟩ := trodAll_cons hA
  obtain ⟨v1, vs1, d1, ds1, p1, q1, rfl, rfl, rfl, h1, r1⟩ := trodAll_cons r0
  obtain ⟨rfl, rfl, rfl⟩ := trodAll_nil r1
  obtain rfl : args = #[v0, v1] := by cases args; simp_all
  obtain ⟨rfl, rfl⟩ := trodVars_none hV
  obtain ⟨a0, rfl, rfl, rfl, w0⟩ := open_int Try.underlying3 (hval 0 3 v0 rfl rfl) h0
  obtain ⟨a1, rfl, rfl, rfl, w1⟩ := open_int Try.underlying5 (hval 1 5 v1 rfl rfl) h1
  clear hA0 hval0
  refine (walk_LinesNames a0 (wf_i64 w0) a1 (bounds_u8 w1) W).mono fun e W' ⟨he, bel⟩ => ?_
  subst he
  exact ⟨_, rfl, _, _, _, [], _, [], hW', trodAll_mk1 (shut_bool Try.underlying4 _), (trodAll_cons_mk (shut_int Try.underlying3 w0) (trodAll_cons_mk (shut_int Try.underlying5 w1) trodAll_mk0)), rfl, bel.frame _, fun h => by cases h⟩

theorem over_LinesNames : Rows.linesNamesRow.holds Try.pinned (OpenSpec.ofChange Rows.linesNamesSpec) :=
  OpenClaim.holds_of_wide 7 Try.f7 rfl rfl rfl rfl rfl rfl rfl ⟨rfl, rfl, rfl, rfl, rfl⟩ rfl rfl rfl rfl rfl (by kernel_rfl) Try.func7 (by kernel_rfl)
    (of_decide_eq_true (by kernel_rfl)) (by unfold Func.isWrapper; first | (rw [if_pos (by decide +kernel)]; kernel_rfl) | (rw [if_neg (by decide +kernel)]; exact ⟨rfl, rfl⟩))
    (fun os started H enc _ => lifted_LinesNames os started H enc)

/-- The statement. -/
theorem linesNames_holds : Rows.LinesNamesSaid := over_LinesNames
#print axioms linesNames_holds

end Go.Proofs.Ytpccjlocmbfmnaa

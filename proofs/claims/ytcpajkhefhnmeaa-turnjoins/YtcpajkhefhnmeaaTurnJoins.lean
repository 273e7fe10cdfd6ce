/-
  Proved: triagelaw4.TurnJoins returns true for every text and every byte and changes nothing that was there. No condition.
-/
import Derived.Test.YtcpajkhefhnmeaaTurnFrame
import Derived.Test.YtcpajkhefhnmeaaByteStr
import Derived.Laws.Bits64
namespace Go.Proofs.Ytcpajkhefhnmeaa
open Go.ChangeShapes Go.WideShapes Go.ChangeAt Go.RowKit
open Go.ChangeMaps (open_string shut_string)

theorem goL_count (c : UInt8) (cur l : List UInt8) : (goL (c.toNat : Int) cur l).length = 1 + l.countP (fun b => decide ((b.toNat : Int) = (c.toNat : Int))) := by
  induction l generalizing cur with
  | nil => simp [goL]
  | cons b r ih =>
    unfold goL
    split
    · rename_i h
      rw [List.length_cons, ih, List.countP_cons]
      simp only [h, decide_true, if_true]
      omega
    · rename_i h
      rw [ih, List.countP_cons]
      simp only [h, decide_false]
      simp
def hits (s : ByteArray) (c : UInt8) (k : Nat) : Nat := (s.data.toList.take k).countP fun b => decide ((b.toNat : Int) = (c.toNat : Int))
theorem hits_succ (s : ByteArray) (c : UInt8) (k : Nat) (hk : k < s.size) : hits s c (k + 1) = hits s c k + if ((s[k]).toNat : Int) = (c.toNat : Int) then 1 else 0 := by
  unfold hits
  have hl : k < s.data.toList.length := hk
  rw [List.take_succ_eq_append_getElem hl, List.countP_append, List.countP_cons, List.countP_nil]
  have e : s.data.toList[k] = s[k] := rfl
  rw [e]
  simp
theorem hits_le (s : ByteArray) (c : UInt8) (k : Nat) : hits s c k ≤ k := by
  unfold hits
  refine Nat.le_trans List.countP_le_length ?_
  simp
  omega

/-- The first k parts, joined. -/
def joined (s : ByteArray) (c : UInt8) (k : Nat) : ByteArray := mkS (joinL c ((goL (c.toNat : Int) [] s.data.toList).take k))
theorem joined_zero (s : ByteArray) (c : UInt8) : joined s c 0 = ByteArray.empty := rfl
theorem joined_all (s : ByteArray) (c : UInt8) (k : Nat) (hk : (partsV s (c.toNat : Int)).length ≤ k) : joined s c k = s := by
  unfold joined
  rw [List.take_of_length_le (by unfold partsV at hk; simpa using hk), joinL_goL]
  unfold mkS
  simp
theorem joined_first (s : ByteArray) (c : UInt8) (h : 0 < (partsV s (c.toNat : Int)).length) : joined s c 1 = joined s c 0 ++ (partsV s (c.toNat : Int)).getD 0 ByteArray.empty := by
  unfold joined partsV at *
  generalize goL (c.toNat : Int) [] s.data.toList = G at *
  cases G with
  | nil => simp at h
  | cons p r => apply ByteArray.ext; simp [joinL, mkS]
theorem joined_next (s : ByteArray) (c : UInt8) (k : Nat) (h0 : 0 < k) (h : k < (partsV s (c.toNat : Int)).length) : joined s c (k + 1) = joined s c k ++ mkS [c] ++ (partsV s (c.toNat : Int)).getD k ByteArray.empty := by
  unfold joined partsV at *
  generalize goL (c.toNat : Int) [] s.data.toList = G at *
  have hk : k < G.length := by simpa using h
  rw [List.take_succ_eq_append_getElem hk, joinL_snoc, if_neg (by intro e; have := congrArg List.length e; rw [List.length_take, List.length_nil] at this; omega)]
  apply ByteArray.ext
  simp [mkS, hk]

theorem joined_size (s : ByteArray) (c : UInt8) (k : Nat) : (joined s c k).size ≤ s.size := by
  have h := joinL_take_le c (goL (c.toNat : Int) [] s.data.toList) k
  rw [joinL_goL] at h
  exact h

set_option maxRecDepth 100000 in
set_option maxHeartbeats 2000000 in
theorem walk_TurnJoins (s : ByteArray) (hs : s.size ≤ maxLen) (a : Int) (ha : 0 ≤ a ∧ a ≤ 255) (w : World) :
    Calls Try.prog 5 #[.string s, .int .u8 a] w fun e w' => e = .returned (.bool true) ∧ Below w.heap.size w w' := by
  unfold maxLen at hs
  by_cases hbig : (1000 : Int) < (s.size : Int)
  · go_enter Try.func5, Try.ntmps5
    go_wp2_with fail
    refine (awake_any _).mono ?_
    rintro e w9 ⟨rfl, hb9⟩
    have HB : Hid (Below w.heap.size w w9) := hb9
    clear hb9
    go_wp2
    go_ret
    exact ⟨rfl, HB.out⟩
  · obtain ⟨c, rfl⟩ : ∃ c : UInt8, a = (c.toNat : Int) := ⟨UInt8.ofNat a.toNat, by rw [UInt8.toNat_ofNat_of_lt' (by simp [UInt8.size]; omega)]; omega⟩
    have hpl := partsV_length s (c.toNat : Int)
    have HCn : Hid ((partsV s (c.toNat : Int)).length = 1 + hits s c s.size) := by
      show _ = _
      unfold partsV hits
      rw [List.length_map, goL_count, List.take_of_length_le (show s.data.toList.length ≤ s.size from Nat.le_refl _)]
    have HJ : Hid (∀ k, (partsV s (c.toNat : Int)).length ≤ k → joined s c k = s) := joined_all s c
    have HJs : Hid (∀ k, (joined s c k).size ≤ s.size) := joined_size s c
    have HJ1 : Hid (0 < (partsV s (c.toNat : Int)).length → joined s c 1 = joined s c 0 ++ (partsV s (c.toNat : Int)).getD 0 ByteArray.empty) := joined_first s c
    have HJn : Hid (∀ k, 0 < k → k < (partsV s (c.toNat : Int)).length → joined s c (k + 1) = joined s c k ++ mkS [c] ++ (partsV s (c.toNat : Int)).getD k ByteArray.empty) := joined_next s c
    have hpar := fun W => parts_any s (c.toNat : Int) W (by omega) (by omega) (by omega)
    generalize partsV s (c.toNat : Int) = P at hpl HCn HJ HJ1 HJn hpar
    go_enter Try.func5, Try.ntmps5
    go_wp2_with fail
    refine (hpar _).mono ?_
    rintro e w1 ⟨v1, rfl, hk1, hb1⟩
    obtain ⟨ao, ac, rfl⟩ := hk1.shape
    have HK1 : Hid (IsRow 1 w1 (.slice ao P.length ac) P.length (P.map Value.string)) := hk1
    have HB1 : Hid (Below w.heap.size w w1) := hb1
    clear hk1 hb1 hpar
    go_wp2
    go_loopw [6, 20] (fun n i wr => ∃ k : Nat, k ≤ s.size ∧ i = .int .i64 k ∧ n = .int .i64 (1 + hits s c k : Nat) ∧ wr = w1) (fun _ i _ => s.size - (intOf i).toNat)
    case atStart => exact ⟨0, Nat.zero_le _, rfl, rfl, rfl⟩
    case round =>
      obtain ⟨k, hk, rfl, rfl, rfl⟩ := hrel
      have hhl := hits_le s c k
      by_cases hlt : k < s.size
      · have hsu := hits_succ s c k hlt
        by_cases hc : ((s[k]).toNat : Int) = (c.toNat : Int)
        · rw [if_pos hc] at hsu
          have HSu : Hid (hits s c (k + 1) = hits s c k + 1) := hsu
          have hcb : (((s[k]).toNat : Int) == (c.toNat : Int)) = true := by simpa using hc
          clear hc hsu
          go_wp2
          go_roundw
          case rel => exact ⟨k + 1, by omega, by go_num, by rw [HSu.out]; go_num, by first | rfl | trivial⟩
          case measure => simp [intOf]; omega
        · rw [if_neg hc] at hsu
          have HSu : Hid (hits s c (k + 1) = hits s c k) := hsu
          have hcb : (((s[k]).toNat : Int) == (c.toNat : Int)) = false := by simpa using hc
          clear hc hsu
          go_wp2
          go_roundw
          case rel => exact ⟨k + 1, by omega, by go_num, by rw [HSu.out], by first | rfl | trivial⟩
          case measure => simp [intOf]; omega
      · obtain rfl : k = s.size := by omega
        have hcn : ((1 + hits s c s.size : Nat) : Int) = (P.length : Int) := by rw [HCn.out]
        rw [hcn]
        clear hcn hhl hlt
        generalize wr = w2 at *
        go_wp2
        go_loopw [7, 33] (fun t i wr => ∃ k : Nat, k ≤ P.length ∧ i = .int .i64 k ∧ t = .string (joined s c k) ∧ Below w2.heap.size w2 wr) (fun _ i _ => P.length - (intOf i).toNat)
        case atStart => exact ⟨0, Nat.zero_le _, rfl, rfl, Below.refl _ _⟩
        case round =>
          obtain ⟨k, hk, rfl, rfl, hb⟩ := hrel
          have HBr : Hid (Below w2.heap.size w2 wr) := hb
          by_cases hlt : k < P.length
          · obtain ⟨b1, o1, rfl, hl1, g1⟩ := (HK1.out.below hb).strAt k hlt
            clear hb
            by_cases h0 : k = 0
            · subst h0
              have HN : Hid (joined s c 1 = joined s c 0 ++ P.getD 0 ByteArray.empty) := HJ1.out hlt
              have z1 := HJs.out 1
              rw [HN.out, ByteArray.size_append] at z1
              generalize P.getD 0 ByteArray.empty = x at g1 HN z1
              simp only [Nat.add_zero] at g1
              go_wp2
              go_roundw
              case rel => exact ⟨1, by omega, by go_num, by rw [HN.out], HBr.out⟩
              case measure => simp [intOf]; omega
            · have HN : Hid (joined s c (k + 1) = joined s c k ++ mkS [c] ++ P.getD k ByteArray.empty) := HJn.out k (by omega) hlt
              have z1 := HJs.out (k + 1)
              rw [HN.out, ByteArray.size_append, ByteArray.size_append] at z1
              generalize P.getD k ByteArray.empty = x at g1 HN z1
              have hcv := conv_at (wr.alloc (.cells #[.int .u8 (c.toNat : Int)] 5)) wr.heap.size c (by simp)
              have hk0 : (0 : Int) < (k : Int) := by omega
              have g1' : (wr.alloc (.cells #[.int .u8 (c.toNat : Int)] 5)).cell? ⟨b1, o1 + k, none⟩ = some (.string x) := (((Below.refl _ wr).alloc (Nat.le_refl _) _).cell (p := ⟨b1, o1 + k, none⟩) hl1).trans g1
              go_wp2
              go_roundw
              case rel => exact ⟨k + 1, by omega, by go_num, by rw [HN.out]; rfl, HBr.out.alloc HBr.out.size _⟩
              case measure => simp [intOf]; omega
          · obtain rfl : k = P.length := by omega
            have HE := HJ.out P.length (Nat.le_refl _)
            have HB3 : Hid (Below w.heap.size w wr) := HB1.out.trans (hb.mono HB1.out.size)
            rw [HE]
            clear hb HBr
            go_wp2_with fail
            refine (awake_any _).mono ?_
            rintro e w9 ⟨rfl, hb9⟩
            have HB10 : Hid (Below w.heap.size w w9) := HB3.out.trans (hb9.mono HB3.out.size)
            clear hb9
            go_wp2
            go_ret
            exact ⟨rfl, HB10.out⟩


set_option maxRecDepth 100000 in
theorem lifted_TurnJoins (os : Os) (started : os.Started) (H : Type) (enc : TypeId × Value → H) :
    ReturnsInHanded {} Try.checked os 5 .any (Rows.turnJoinsSpec.pre6 enc Try.prog Try.f5 Rows.turnJoinsRow.domain false) (Rows.turnJoinsSpec.post enc Try.prog Try.f5 false true false false) := by
  refine returnsInHanded_of_change (C := Try.checked) own started (by kernel_rfl) Try.func5
    (ChangeSpec.witness6 (enc := enc) (C := Try.checked) false ⟨#[], #[.string ByteArray.empty, .int .u8 0], []⟩ 8 (by kernel_rfl) (by kernel_rfl) (by kernel_rfl) (by kernel_rfl)) ?_
  intro W base args ds gs before hval0 hW hcnd _
  have hval : ∀ (j : Nat) t v, Try.f5.params[j]? = some t → args[j]? = some v → Value.okWide Try.prog W .any base t v := hval0
  have hW' := hW
  obtain ⟨p, q, hA0, hV, rfl, hfz, hnd⟩ := hW
  have hA : DataW.TrodAll enc Try.prog W 0 (fun _ => true) true Try.f5.params.toList args.toList ds p := hA0
  rw [Try.params5] at hA hval
  obtain ⟨v0, vs0, d0, ds0, p0, q0, hargs, rfl, rfl, h0, r0⟩ := trodAll_cons hA
  obtain ⟨v1, vs1, d1, ds1, p1, q1, rfl, rfl, rfl, h1, r1⟩ := trodAll_cons r0
  obtain ⟨rfl, rfl, rfl⟩ := trodAll_nil r1
  obtain rfl : args = #[v0, v1] := by cases args; simp_all
  obtain ⟨rfl, rfl⟩ := trodVars_none hV
  obtain ⟨a0, rfl, rfl, rfl, w0⟩ := open_string Try.underlying9 (hval 0 9 v0 rfl rfl) h0
  obtain ⟨a1, rfl, rfl, rfl, w1⟩ := open_int Try.underlying5 (hval 1 5 v1 rfl rfl) h1
  clear hA0 hval0
  refine (walk_TurnJoins a0 w0 a1 (bounds_u8 w1) W).mono fun e W' ⟨he, bel⟩ => ?_
  subst he
  exact ⟨_, rfl, _, _, _, [], _, [], hW', trodAll_mk1 (shut_bool Try.underlying4 _), (trodAll_cons_mk (shut_string Try.underlying9 w0) (trodAll_cons_mk (shut_int Try.underlying5 w1) trodAll_mk0)), rfl, bel.frame _, fun h => by cases h⟩

theorem over_TurnJoins : Rows.turnJoinsRow.holds Try.pinned (OpenSpec.ofChange Rows.turnJoinsSpec) :=
  OpenClaim.holds_of_wide 5 Try.f5 rfl rfl rfl rfl rfl rfl rfl ⟨rfl, rfl, rfl, rfl, rfl⟩ rfl rfl rfl rfl rfl (by kernel_rfl) Try.func5 (by kernel_rfl)
    (of_decide_eq_true (by kernel_rfl)) (by unfold Func.isWrapper; first | (rw [if_pos (by decide +kernel)]; kernel_rfl) | (rw [if_neg (by decide +kernel)]; exact ⟨rfl, rfl⟩))
    (fun os started H enc _ => lifted_TurnJoins os started H enc)

/-- The statement. -/
theorem turnJoins_holds : Rows.TurnJoinsSaid := over_TurnJoins
#print axioms turnJoins_holds

end Go.Proofs.Ytcpajkhefhnmeaa

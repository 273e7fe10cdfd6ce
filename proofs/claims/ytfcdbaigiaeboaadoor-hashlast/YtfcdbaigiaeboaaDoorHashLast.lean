/-
  HashLast, for every text and any two bytes: texts that are alike but for their last byte have unlike numbers just if the bytes are unlike. No condition.
-/
import Derived.Test.YtfcdbaigiaeboaaDoorHash2
import Derived.Test.YtfcdbaigiaeboaaDoorCardFrame
import Derived.Test.YtfcdbaigiaeboaaDoorRel
namespace Go.Proofs.YtfcdbaigiaeboaaDoor
open Go.ChangeShapes Go.WideShapes Go.ChangeAt Go.RowKit
open Go.ChangeMaps (open_string shut_string)

theorem text_snoc (s : ByteArray) (c : UInt8) (T : Nat) (hT : textV (s.data.toList ++ [c]) = T) (hs : s.size ≤ 1000) (w : World) :
    Calls Tryd.prog 8 #[.string (s ++ ⟨[c].toArray⟩)] w fun e w' => e = .returned (.int .u64 (T : Nat)) ∧ w' = w := by
  have h := text_any (s ++ ⟨[c].toArray⟩) w (by rw [ByteArray.size_append, size_bytes]; show s.size + 1 ≤ _; omega)
  rw [show (s ++ (⟨[c].toArray⟩ : ByteArray)).data.toList = s.data.toList ++ [c] by simp, hT] at h
  exact h

/-- 'string([]byte{c})', wherever the row lies. -/
theorem conv_at (w : World) (g : Nat) (c : UInt8) (h : w.cell? ⟨g, 0, none⟩ = some (.int .u8 (c.toNat : Int))) :
    (convert 28 9 (.slice (some ⟨g, 0, none⟩) 1 1)).run Tryd.prog w = .ok (.string ⟨[c].toArray⟩) w := by
  refine run_convert_bytes_back (P := Tryd.prog) _ 28 9 5 ⟨g, 0, none⟩ 1 [c] Tryd.underlying28 Tryd.underlying5 Tryd.underlying9 (fun j hj => ?_)
  obtain rfl : j = 0 := by simpa using hj
  simpa [Addr.add] using h

theorem tab_new {w w' : World} (h : Lib.TabIs Tryd.prog w "internal/strconv.uint64pow10" .u64 Lib.pow10Tab) (hb : Below w.heap.size w w') : Lib.TabIs Tryd.prog w' "internal/strconv.uint64pow10" .u64 Lib.pow10Tab :=
  Go.Joins.tab_stays gTab h hb (Nat.le_refl _)

/-- What each operation of the last statement yields, in the text's order. -/
def lastV (s : ByteArray) (c d : UInt8) (A B : Nat) (q : Bool) : Nat → Value → World → Prop
  | 0, v, _ => v = .string s
  | 1, v, _ => v = .int .u8 (c.toNat : Int)
  | 2, v, w => ∃ g, v = .slice (some ⟨g, 0, none⟩) 1 1 ∧ g < w.heap.size ∧ w.cell? ⟨g, 0, none⟩ = some (.int .u8 (c.toNat : Int))
  | 3, v, _ => v = .string ⟨[c].toArray⟩
  | 4, v, _ => v = .string (s ++ ⟨[c].toArray⟩)
  | 5, v, _ => v = .int .u64 (A : Int)
  | 6, v, _ => v = .string s
  | 7, v, _ => v = .int .u8 (d.toNat : Int)
  | 8, v, w => ∃ g, v = .slice (some ⟨g, 0, none⟩) 1 1 ∧ g < w.heap.size ∧ w.cell? ⟨g, 0, none⟩ = some (.int .u8 (d.toNat : Int))
  | 9, v, _ => v = .string ⟨[d].toArray⟩
  | 10, v, _ => v = .string (s ++ ⟨[d].toArray⟩)
  | 11, v, _ => v = .int .u64 (B : Int)
  | 12, v, _ => v = .bool q
  | 13, v, _ => v = .int .u8 (c.toNat : Int)
  | 14, v, _ => v = .int .u8 (d.toNat : Int)
  | 15, v, _ => v = .bool q
  | _, v, _ => v = .bool true

theorem lastV_stays {s : ByteArray} {c d : UInt8} {A B : Nat} {q : Bool} (i : Nat) (v : Value) (w w' : World) (h : lastV s c d A B q i v w) (hb : Below w.heap.size w w') : lastV s c d A B q i v w' := by
  unfold lastV at h ⊢
  split at h <;> try exact h
  all_goals
    obtain ⟨g, h1, h2, h3⟩ := h
    exact ⟨g, h1, Nat.lt_of_lt_of_le h2 hb.size, (hb.cell (p := ⟨g, 0, none⟩) h2).trans h3⟩

set_option maxHeartbeats 4000000 in
theorem walk_HashLast (s : ByteArray) (hs : s.size ≤ maxLen) (a : Int) (ha : 0 ≤ a ∧ a ≤ 255) (b : Int) (hb : 0 ≤ b ∧ b ≤ 255) (w : World)
    (htab : Lib.TabIs Tryd.prog w "internal/strconv.uint64pow10" .u64 Lib.pow10Tab) :
    Calls Tryd.prog 4 #[.string s, .int .u8 a, .int .u8 b] w fun e w' => e = .returned (.bool true) ∧ Below w.heap.size w w' := by
  unfold maxLen at hs
  have Ht : Hid (Lib.TabIs Tryd.prog w "internal/strconv.uint64pow10" .u64 Lib.pow10Tab) := htab
  clear htab
  by_cases hl : 500 < s.size
  · go_enter Tryd.func4, Tryd.ntmps4
    go_wp2_with fail
    refine (awake_any _ Ht.out).mono ?_
    rintro e w1 ⟨rfl, hb1⟩
    have HB : Hid (Below w.heap.size w w1) := hb1
    clear hb1
    go_wp2
    go_ret
    exact ⟨rfl, HB.out⟩
  · obtain ⟨c, rfl⟩ : ∃ c : UInt8, a = (c.toNat : Int) := ⟨UInt8.ofNat a.toNat, by rw [UInt8.toNat_ofNat_of_lt' (by simp [UInt8.size]; omega)]; omega⟩
    obtain ⟨d, rfl⟩ : ∃ d : UInt8, b = (d.toNat : Int) := ⟨UInt8.ofNat b.toNat, by rw [UInt8.toNat_ofNat_of_lt' (by simp [UInt8.size]; omega)]; omega⟩
    obtain ⟨A, hA⟩ : ∃ A, textV (s.data.toList ++ [c]) = A := ⟨_, rfl⟩
    obtain ⟨B, hB⟩ : ∃ B, textV (s.data.toList ++ [d]) = B := ⟨_, rfl⟩
    have HA : Hid (textV (s.data.toList ++ [c]) = A) := hA
    have HB : Hid (textV (s.data.toList ++ [d]) = B) := hB
    obtain ⟨q, h1, h2⟩ : ∃ q : Bool, ((A : Int) == (B : Int)) = q ∧ (((c.toNat : Int)) == ((d.toNat : Int))) = q := by
      refine ⟨_, rfl, ?_⟩
      have h := textV_last s.data.toList c d
      rw [hA, hB] at h
      rw [Bool.eq_iff_iff, beq_iff_eq, beq_iff_eq, Int.ofNat_inj, Int.ofNat_inj, h, UInt8.toNat_inj]
    clear hA hB
    go_enter Tryd.func4, Tryd.ntmps4
    go_wp2
    refine wp_region_new (lastV s c d A B q) (by kernel_rfl) (by kernel_rfl) lastV_stays ?_ ?_
    · simp only [stepsAll]
      refine ⟨fun a w1 hF hE hd => ?_, fun a w1 hF hE hd => ?_, fun a w1 hF hE hd => ?_, fun a w1 hF hE hd => ?_, fun a w1 hF hE hd => ?_, fun a w1 hF hE hd => ?_, fun a w1 hF hE hd => ?_, fun a w1 hF hE hd => ?_, fun a w1 hF hE hd => ?_, fun a w1 hF hE hd => ?_, fun a w1 hF hE hd => ?_, fun a w1 hF hE hd => ?_, fun a w1 hF hE hd => ?_, fun a w1 hF hE hd => ?_, fun a w1 hF hE hd => ?_, fun a w1 hF hE hd => ?_, fun a w1 hF hE hd => ?_, fun a w1 hF hE hd => ?_, fun a w1 hF hE hd => ?_, fun a w1 hF hE hd => ?_, fun a w1 hF hE hd => ?_, trivial⟩
      · have t0 : a.tmps.getD 0 undef = .string s := hF.at 0 (by kernel_rfl)
        rw [Array.getD_eq_getD_getElem?] at t0
        refine ⟨rfl, ?_⟩
        go_simp
        exact ⟨Below.refl _ _, rfl⟩
      · have t1 : a.tmps.getD 1 undef = .int .u8 (c.toNat : Int) := hF.at 1 (by kernel_rfl)
        rw [Array.getD_eq_getD_getElem?] at t1
        refine ⟨rfl, ?_⟩
        go_simp
        exact ⟨Below.refl _ _, rfl⟩
      · have t12 : a.tmps.getD 12 undef = .int .u8 (c.toNat : Int) := hd { on := 1, ground := .data } (by simp) rfl
        rw [Array.getD_eq_getD_getElem?] at t12
        refine ⟨rfl, ?_⟩
        go_simp
        exact ⟨(Below.refl _ _).alloc (Nat.le_refl _) _, w1.heap.size, rfl, by simp, by simp⟩
      · obtain ⟨g, hg, hlt, hc⟩ : ∃ g, a.tmps.getD 13 undef = .slice (some ⟨g, 0, none⟩) 1 1 ∧ g < w1.heap.size ∧ w1.cell? ⟨g, 0, none⟩ = some (.int .u8 (c.toNat : Int)) := hd { on := 2, ground := .data } (by simp) rfl
        rw [Array.getD_eq_getD_getElem?] at hg
        have hcv := conv_at w1 g c hc
        refine ⟨rfl, ?_⟩
        go_simp
        exact ⟨Below.refl _ _, rfl⟩
      · have t11 : a.tmps.getD 11 undef = .string s := hd { on := 0, ground := .data } (by simp) rfl
        rw [Array.getD_eq_getD_getElem?] at t11
        have t14 : a.tmps.getD 14 undef = .string ⟨[c].toArray⟩ := hd { on := 3, ground := .data } (by simp) rfl
        rw [Array.getD_eq_getD_getElem?] at t14
        refine ⟨rfl, ?_⟩
        go_simp
        rw [if_neg (by omega)]
        exact ⟨Below.refl _ _, rfl⟩
      · have t15 : a.tmps.getD 15 undef = .string (s ++ ⟨[c].toArray⟩) := hd { on := 4, ground := .data } (by simp) rfl
        rw [Array.getD_eq_getD_getElem?] at t15
        refine ⟨rfl, ?_⟩
        go_simp
        exact (text_snoc s c A HA.out (by omega) w1).mono fun e w2 h => ⟨_, h.1, by rw [h.2]; exact ⟨Below.refl _ _, rfl⟩⟩
      · have t0 : a.tmps.getD 0 undef = .string s := hF.at 0 (by kernel_rfl)
        rw [Array.getD_eq_getD_getElem?] at t0
        refine ⟨rfl, ?_⟩
        go_simp
        exact ⟨Below.refl _ _, rfl⟩
      · have t2 : a.tmps.getD 2 undef = .int .u8 (d.toNat : Int) := hF.at 2 (by kernel_rfl)
        rw [Array.getD_eq_getD_getElem?] at t2
        refine ⟨rfl, ?_⟩
        go_simp
        exact ⟨Below.refl _ _, rfl⟩
      · have t18 : a.tmps.getD 18 undef = .int .u8 (d.toNat : Int) := hd { on := 7, ground := .data } (by simp) rfl
        rw [Array.getD_eq_getD_getElem?] at t18
        refine ⟨rfl, ?_⟩
        go_simp
        exact ⟨(Below.refl _ _).alloc (Nat.le_refl _) _, w1.heap.size, rfl, by simp, by simp⟩
      · obtain ⟨g, hg, hlt, hc⟩ : ∃ g, a.tmps.getD 19 undef = .slice (some ⟨g, 0, none⟩) 1 1 ∧ g < w1.heap.size ∧ w1.cell? ⟨g, 0, none⟩ = some (.int .u8 (d.toNat : Int)) := hd { on := 8, ground := .data } (by simp) rfl
        rw [Array.getD_eq_getD_getElem?] at hg
        have hcv := conv_at w1 g d hc
        refine ⟨rfl, ?_⟩
        go_simp
        exact ⟨Below.refl _ _, rfl⟩
      · have t17 : a.tmps.getD 17 undef = .string s := hd { on := 6, ground := .data } (by simp) rfl
        rw [Array.getD_eq_getD_getElem?] at t17
        have t20 : a.tmps.getD 20 undef = .string ⟨[d].toArray⟩ := hd { on := 9, ground := .data } (by simp) rfl
        rw [Array.getD_eq_getD_getElem?] at t20
        refine ⟨rfl, ?_⟩
        go_simp
        rw [if_neg (by omega)]
        exact ⟨Below.refl _ _, rfl⟩
      · have t21 : a.tmps.getD 21 undef = .string (s ++ ⟨[d].toArray⟩) := hd { on := 10, ground := .data } (by simp) rfl
        rw [Array.getD_eq_getD_getElem?] at t21
        refine ⟨rfl, ?_⟩
        go_simp
        exact (text_snoc s d B HB.out (by omega) w1).mono fun e w2 h => ⟨_, h.1, by rw [h.2]; exact ⟨Below.refl _ _, rfl⟩⟩
      · have t16 : a.tmps.getD 16 undef = .int .u64 (A : Int) := hd { on := 5, ground := .data } (by simp) rfl
        rw [Array.getD_eq_getD_getElem?] at t16
        have t22 : a.tmps.getD 22 undef = .int .u64 (B : Int) := hd { on := 11, ground := .data } (by simp) rfl
        rw [Array.getD_eq_getD_getElem?] at t22
        refine ⟨rfl, ?_⟩
        go_simp
        exact ⟨Below.refl _ _, rfl⟩
      · have t1 : a.tmps.getD 1 undef = .int .u8 (c.toNat : Int) := hF.at 1 (by kernel_rfl)
        rw [Array.getD_eq_getD_getElem?] at t1
        refine ⟨rfl, ?_⟩
        go_simp
        exact ⟨Below.refl _ _, rfl⟩
      · have t2 : a.tmps.getD 2 undef = .int .u8 (d.toNat : Int) := hF.at 2 (by kernel_rfl)
        rw [Array.getD_eq_getD_getElem?] at t2
        refine ⟨rfl, ?_⟩
        go_simp
        exact ⟨Below.refl _ _, rfl⟩
      · have t24 : a.tmps.getD 24 undef = .int .u8 (c.toNat : Int) := hd { on := 13, ground := .data } (by simp) rfl
        rw [Array.getD_eq_getD_getElem?] at t24
        have t25 : a.tmps.getD 25 undef = .int .u8 (d.toNat : Int) := hd { on := 14, ground := .data } (by simp) rfl
        rw [Array.getD_eq_getD_getElem?] at t25
        refine ⟨rfl, ?_⟩
        go_simp
        exact ⟨Below.refl _ _, rfl⟩
      · have t23 : a.tmps.getD 23 undef = .bool q := hd { on := 12, ground := .data } (by simp) rfl
        rw [Array.getD_eq_getD_getElem?] at t23
        have t26 : a.tmps.getD 26 undef = .bool q := hd { on := 15, ground := .data } (by simp) rfl
        rw [Array.getD_eq_getD_getElem?] at t26
        refine ⟨rfl, ?_⟩
        go_simp
        exact ⟨Below.refl _ _, rfl⟩
      · have t27 : a.tmps.getD 27 undef = .bool true := hd { on := 16, ground := .data } (by simp) rfl
        rw [Array.getD_eq_getD_getElem?] at t27
        refine ⟨rfl, ?_⟩
        go_simp
        exact ⟨Below.refl _ _, rfl⟩
      · have t28 : a.eval (.tmp 28) = .bool true := hd { on := 17, ground := .guard } (by simp) rfl
        refine ⟨by simp only [Region.wanted]; rw [yielded_of (d := 28) (by rfl) t28]; rfl, ?_⟩
        go_simp
        exact (awake_any w1 (tab_new Ht.out hE)).mono fun e w2 h => ⟨_, h.1, h.2, rfl⟩
      · have t28 : a.tmps.getD 28 undef = .bool true := hd { on := 17, ground := .data } (by simp) rfl
        rw [Array.getD_eq_getD_getElem?] at t28
        have t29 : a.tmps.getD 29 undef = .bool true := hd { on := 18, ground := .data } (by simp) rfl
        rw [Array.getD_eq_getD_getElem?] at t29
        refine ⟨rfl, ?_⟩
        go_simp
        exact ⟨Below.refl _ _, rfl⟩
      · have t30 : a.tmps.getD 30 undef = .bool true := hd { on := 19, ground := .data } (by simp) rfl
        rw [Array.getD_eq_getD_getElem?] at t30
        refine ⟨rfl, ?_⟩
        go_simp
        exact ⟨Below.refl _ _, rfl⟩
    · intro a w1 hF hE hV
      have t6 : a.eval (.tmp 6) = .bool true := hV 20 (by decide)
      have hdf : a.defers = [] := hF.2.1
      clear hV hF
      obtain ⟨tm, df⟩ := a
      simp only at hdf
      subst hdf
      refine ‹∀ (a : Act) (w : World), Code.wp _ Code.ret _ a w → _› _ _ ?_
      go_wp2
      go_ret
      exact ⟨by rw [show Array.getD tm 6 undef = _ from t6], hE⟩

theorem reads_HashLast (os : Os) {H : Type} (enc : TypeId × Value → H) : ∃ places, DataW.whole enc Tryd.prog ((laidWorld os).forCall (fun _ _ => 0) ⟨#[], #[.string ByteArray.empty, .int .u8 0, .int .u8 0], []⟩).memory Tryd.f4.params.toList Rows.hashLastSpec.vars false (#[.string ByteArray.empty, .int .u8 0, .int .u8 0] : Array Value).toList 8 = some ([.lit (.string []), .lit (.int .u8 0), .lit (.int .u8 0)], [], places) :=
  ⟨[], by kernel_rfl⟩

set_option maxRecDepth 100000 in
theorem lifted_HashLast (os : Os) (started : os.Started) (H : Type) (enc : TypeId × Value → H) (F : Stop.Interp) :
    ReturnsInHanded {} Tryd.checked os 4 .any ((OpenSpec.ofChange Rows.hashLastSpec).preRow enc Tryd.prog Tryd.f4 Rows.hashLastRow.domain false Rows.hashLastRow.laid) (((OpenSpec.ofChange Rows.hashLastSpec).at F).post enc Tryd.prog Tryd.f4 false true false false) := by
  obtain ⟨places, hx⟩ := reads_HashLast os enc
  refine returnsInHanded_of_row (C := Tryd.checked) (s := OpenSpec.ofChange Rows.hashLastSpec) own started (by kernel_rfl) Tryd.func4
    (witness_row_at (enc := enc) (C := Tryd.checked) false (laidWorld os) #[.string ByteArray.empty, .int .u8 0, .int .u8 0] rfl (by kernel_rfl) (by kernel_rfl) (by kernel_rfl)
      (OpenSpec.preRow_of_cond 8 hx (by kernel_rfl) (fun k hk => by cases hk) (by kernel_rfl) (laid_met os _))) ?_
  intro W base args ds gs before hval0 hW _ _ hsz0 hL _ _
  have htab := table hL
  have hval : ∀ (j : Nat) t v, Tryd.f4.params[j]? = some t → args[j]? = some v → Value.okWide Tryd.prog W .any base t v := hval0
  have hW' := hW
  obtain ⟨p, q, hA0, hV, rfl, hfz, hnd⟩ := hW
  have hA : DataW.TrodAll enc Tryd.prog W 0 (fun _ => true) true Tryd.f4.params.toList args.toList ds p := hA0
  rw [Tryd.params4] at hA hval
  obtain ⟨v0, vs0, d0, ds0, p0, q0, hargs, rfl, rfl, h0, r0⟩ := trodAll_cons hA
  obtain ⟨v1, vs1, d1, ds1, p1, q1, rfl, rfl, rfl, h1, r1⟩ := trodAll_cons r0
  obtain ⟨v2, vs2, d2, ds2, p2, q2, rfl, rfl, rfl, h2, r2⟩ := trodAll_cons r1
  obtain ⟨rfl, rfl, rfl⟩ := trodAll_nil r2
  obtain rfl : args = #[v0, v1, v2] := by cases args; simp_all
  obtain ⟨rfl, rfl⟩ := trodVars_none hV
  obtain ⟨a0, rfl, rfl, rfl, w0⟩ := open_string Tryd.underlying9 (hval 0 9 v0 rfl rfl) h0
  obtain ⟨a1, rfl, rfl, rfl, w1⟩ := open_int Tryd.underlying5 (hval 1 5 v1 rfl rfl) h1
  obtain ⟨a2, rfl, rfl, rfl, w2⟩ := open_int Tryd.underlying5 (hval 2 5 v2 rfl rfl) h2
  clear hA0 hval0
  refine (walk_HashLast a0 w0 a1 (bounds_u8 w1) a2 (bounds_u8 w2) W htab).mono fun e W' ⟨he, bel⟩ => ?_
  subst he
  exact ⟨_, rfl, _, _, _, [], _, [], hW', trodAll_mk1 (shut_bool Tryd.underlying4 _), (trodAll_cons_mk (shut_string Tryd.underlying9 w0) (trodAll_cons_mk (shut_int Tryd.underlying5 w1) (trodAll_cons_mk (shut_int Tryd.underlying5 w2) trodAll_mk0))), rfl, bel.frame _, fun h => by cases h⟩

theorem said_HashLast : Rows.HashLastSaid :=
  OpenClaim.holds_of_cond 4 Tryd.f4 rfl rfl rfl rfl rfl rfl rfl ⟨rfl, rfl, rfl, rfl, rfl⟩ rfl rfl rfl rfl rfl (by kernel_rfl) Tryd.func4 (by kernel_rfl)
    (of_decide_eq_true (by kernel_rfl)) (by unfold Func.isWrapper; first | (rw [if_pos (by decide +kernel)]; kernel_rfl) | (rw [if_neg (by decide +kernel)]; exact ⟨rfl, rfl⟩))
    (fun os started H enc _ F => by rw [OpenClaim.pre_eq_preRow]; exact lifted_HashLast os started H enc F)

theorem plain_HashLast (f : FuncId) (fn : Func) (hf : Tryd.pinned.checked.prog.funcNamed Rows.hashLastRow.func = some f) (hfn : Tryd.pinned.checked.prog.funcs[f]? = some fn) :
    false = Tryd.pinned.checked.prog.looks [] ∧ ∀ (j : Nat) t, fn.params[j]? = some t → Tryd.pinned.checked.prog.wantsStandIn t = false := by
  obtain rfl : f = 4 := Option.some.inj ((show Tryd.prog.funcNamed Rows.hashLastRow.func = some 4 by kernel_rfl).symm.trans hf) |>.symm
  obtain rfl : fn = Tryd.f4 := (Option.some.inj (Tryd.func4.symm.trans hfn)).symm
  refine ⟨by kernel_rfl, fun j t ht => ?_⟩
  rw [Tryd.params4] at ht
  have hm := Array.mem_of_getElem? ht
  simp only [List.mem_toArray, List.mem_cons, List.not_mem_nil, or_false] at hm
  rcases hm with rfl | rfl | rfl
  · exact (show Tryd.prog.wantsStandIn 9 = false by kernel_rfl)
  · exact (show Tryd.prog.wantsStandIn 5 = false by kernel_rfl)
  · exact (show Tryd.prog.wantsStandIn 5 = false by kernel_rfl)

/-- The statement. -/
theorem hashLast_holds : Rows.HashLastCardSaid :=
  Claim7.holds_tied_plain_at .later [] _ _ _ _ said_HashLast (fun _ h => by cases h) (by kernel_rfl) (fun _ h => by cases h) hashLast_row_tie rfl ⟨rfl, rfl⟩ (by kernel_rfl) rfl plain_HashLast (by kernel_rfl)
#print axioms hashLast_holds

end Go.Proofs.YtfcdbaigiaeboaaDoor

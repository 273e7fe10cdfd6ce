/-
  EjectCap, for every configuration and script: never more are out than Cap, if each goes where there is Room. No condition on the call.
-/
import Derived.Test.YtomhmndpjkfppaaDoorEjectAwake
import Derived.Test.YtomhmndpjkfppaaDoorRefMayC
import Derived.Test.YtomhmndpjkfppaaDoorNumsOpen
import Derived.Test.YtomhmndpjkfppaaDoorUMod
namespace Go.Proofs.YtomhmndpjkfppaaDoor
open Go.ChangeShapes Go.WideShapes Go.ChangeAt Go.RowKit
open Go.ChangeMaps (open_string shut_string)

/-- What the statement reckons itself is the cap. -/
theorem cap_nums {c : Cfg} {m : Int} (hm : 0 ≤ m ∧ m ≤ 1000) (hp : 0 ≤ c.f14 ∧ c.f14 ≤ 100) : ∃ P R : Int, IntKind.i64.wrap (m * c.f14) = P ∧ P.tdiv 100 = R ∧ IntKind.i64.wrap R = R ∧ ((c.one = true ∧ 0 < m ∧ (if R < 1 then 1 else R) = capE c m) ∨ ((c.one = false ∨ ¬ 0 < m) ∧ R = capE c m)) := by
  have h0 : 0 ≤ m * c.f14 := Int.mul_nonneg hm.1 hp.1
  have h1 : m * c.f14 ≤ 1000 * 100 := Int.mul_le_mul hm.2 hp.2 hp.1 (by omega)
  have e := (capE_bd (c := c) (m := m) ⟨hm.1, by omega⟩ hp).2.2
  refine ⟨m * c.f14, m * c.f14 / 100, wrap_in (by omega) (by omega), Int.tdiv_eq_ediv_of_nonneg h0, wrap_in (by omega) (by omega), ?_⟩
  by_cases h : c.one = true ∧ 0 < m
  · rw [if_pos h] at e
    exact .inl ⟨h.1, h.2, e.symm⟩
  · rw [if_neg h] at e
    refine .inr ⟨?_, e.symm⟩
    by_cases h2 : c.one = true
    · exact .inr fun h3 => h ⟨h2, h3⟩
    · exact .inl (Bool.eq_false_iff.2 h2)

set_option maxRecDepth 100000 in
set_option maxHeartbeats 16000000 in
theorem walk_EjectCap (c : Cfg) (hz : c.zone.size ≤ 9223372036854775807) (l : List Int) (v : Value) (w : World) (htab : TabC w) (hr : IsInts w v l ∧ roomy v ∧ l.length ≤ maxLen) :
    Calls Tryd.prog 3 #[.agg c.arr, v] w fun e w' => e = .returned (.bool true) ∧ Below w.heap.size w w' := by
  have hr := hr.1
  have HMayC : Hid (∀ W : World, Calls Tryd.prog 7 #[.agg c.arr] W fun e w' => e = .returned (.bool (mayC c)) ∧ Below W.heap.size W w') := fun W => rMay_any c W hz
  obtain ⟨ao, cap, rfl⟩ := hr.shape
  have HL : Hid (IsInts w (.slice ao l.length cap) l) := hr
  have HT : Hid (TabC w) := htab
  have HI : Hid ((Tryd.prog.info? 23).map (·.size) = some c.arr.size) := arr_inf c
  have hmax := hr.2.1
  clear htab hr
  by_cases h1 : mayC c = true
  rotate_left
  · have h1 := Bool.eq_false_iff.2 h1
    rw [h1] at HMayC
    clear h1 HL hz
    generalize c.arr = cs at *
    go_enter Tryd.func3, Tryd.ntmps3
    go_upto_region 1 with fail
    generalize hW0 : w.alloc _ = W0
    have HC0 : Hid (HasBox W0 w.heap.size 23 cs) := by show HasBox _ _ _ _; rw [← hW0]; exact hasBox_new w _ _
    have HB0 : Hid (Below w.heap.size w W0) := by show Below _ _ _; rw [← hW0]; exact (Below.refl _ _).alloc (Nat.le_refl _) _
    clear hW0
    go_wp2_with (first | (refine wpList_load_bx rfl 23 (.tmp 2) rfl w.heap.size rfl 23 _ _ HC0.out Tryd.underlying23 rfl HI.out ?_) | fail)
    refine (HMayC.out _).mono ?_
    rintro e w1 ⟨rfl, hb⟩
    have HC1 : Hid (HasBox w1 w.heap.size 23 cs) := HC0.out.below hb
    have HB1 : Hid (Below w.heap.size w w1) := HB0.out.trans (hb.mono HB0.out.size)
    clear hb HB0 HC0 HMayC
    go_wp2_with fail
    refine (awake14_any _ (HT.out.below HB1.out)).mono ?_
    rintro e w2 ⟨rfl, hb⟩
    have HB2 : Hid (Below w.heap.size w w2) := HB1.out.trans (hb.mono HB1.out.size)
    clear hb
    go_wp2
    go_ret
    exact ⟨rfl, HB2.out⟩
  rw [h1] at HMayC
  by_cases h3 : 200 < l.length
  · have h3' : (200 : Int) < (l.length : Int) := by omega
    clear h1 h3 HL hz
    generalize c.arr = cs at *
    go_enter Tryd.func3, Tryd.ntmps3
    go_upto_region 1 with fail
    generalize hW0 : w.alloc _ = W0
    have HC0 : Hid (HasBox W0 w.heap.size 23 cs) := by show HasBox _ _ _ _; rw [← hW0]; exact hasBox_new w _ _
    have HB0 : Hid (Below w.heap.size w W0) := by show Below _ _ _; rw [← hW0]; exact (Below.refl _ _).alloc (Nat.le_refl _) _
    clear hW0
    go_wp2_with (first | (refine wpList_load_bx rfl 23 (.tmp 2) rfl w.heap.size rfl 23 _ _ HC0.out Tryd.underlying23 rfl HI.out ?_) | fail)
    refine (HMayC.out _).mono ?_
    rintro e w1 ⟨rfl, hb⟩
    have HC1 : Hid (HasBox w1 w.heap.size 23 cs) := HC0.out.below hb
    have HB1 : Hid (Below w.heap.size w w1) := HB0.out.trans (hb.mono HB0.out.size)
    clear hb HB0 HC0 HMayC
    go_wp2_with fail
    refine (awake14_any _ (HT.out.below HB1.out)).mono ?_
    rintro e w2 ⟨rfl, hb⟩
    have HB2 : Hid (Below w.heap.size w w2) := HB1.out.trans (hb.mono HB1.out.size)
    clear hb
    go_wp2
    go_ret
    exact ⟨rfl, HB2.out⟩
  have h3' : ¬ (200 : Int) < (l.length : Int) := by omega
  have HLen : Hid (l.length ≤ 200) := by show _ ≤ _; omega
  have b14 := may_num14 h1
  have HCap : Hid (∀ m : Int, 0 ≤ m ∧ m ≤ 1000 → ∀ W : World, TabC W → Calls Tryd.prog 9 #[.agg c.arr, .int .i64 m] W fun e w' => e = .returned (.int .i64 (capE c m)) ∧ Below W.heap.size W w') := fun m hm W h => by
    have := eCap_any c m W h hz (by omega)
    rwa [known_self h1] at this
  have HRoom : Hid (∀ m o : Int, 0 ≤ m ∧ m ≤ 1000 → 0 ≤ o ∧ o ≤ capE c m → ∀ W : World, TabC W → Calls Tryd.prog 10 #[.agg c.arr, .int .i64 m, .int .i64 o] W fun e w' => e = .returned (.int .i64 (capE c m - o)) ∧ Below W.heap.size W w') := fun m o hm ho W h => by
    have h5 := capE_bd (c := c) (m := m) ⟨hm.1, by omega⟩ b14
    have := eRoom_any c m o W h hz (by omega) (by omega)
    rwa [known_self h1, roomE_in ho.1 ho.2] at this
  have HNum : Hid (∀ m : Int, 0 ≤ m ∧ m ≤ 1000 → ∃ P R : Int, IntKind.i64.wrap (m * c.f14) = P ∧ P.tdiv 100 = R ∧ IntKind.i64.wrap R = R ∧ ((c.one = true ∧ 0 < m ∧ (if R < 1 then 1 else R) = capE c m) ∨ ((c.one = false ∨ ¬ 0 < m) ∧ R = capE c m))) := fun m hm => cap_nums hm b14
  have HBd : Hid (∀ m : Int, 0 ≤ m ∧ m ≤ 1000 → 0 ≤ capE c m ∧ capE c m ≤ m) := fun m hm => by
    have := capE_bd (c := c) (m := m) ⟨hm.1, by omega⟩ b14
    exact ⟨this.1, this.2.1⟩
  have HUp : Hid (∀ m : Int, 0 ≤ m ∧ m + 1 ≤ 1000 → capE c m ≤ capE c (m + 1)) := fun m hm => capE_up ⟨hm.1, by omega⟩ b14
  have HZ14 : Hid (c.arr[14]? = some (.int .i64 c.f14)) := rfl
  have HZ15 : Hid (c.arr[15]? = some (.bool c.one)) := rfl
  clear h1 h3 hz b14
  generalize c.arr = cs at *
  go_enter Tryd.func3, Tryd.ntmps3
  go_upto_region 1 with fail
  generalize hW0 : w.alloc _ = W0
  have HC0 : Hid (HasBox W0 w.heap.size 23 cs) := by show HasBox _ _ _ _; rw [← hW0]; exact hasBox_new w _ _
  have HB0 : Hid (Below w.heap.size w W0) := by show Below _ _ _; rw [← hW0]; exact (Below.refl _ _).alloc (Nat.le_refl _) _
  clear hW0
  go_wp2_with (first | (refine wpList_load_bx rfl 23 (.tmp 2) rfl w.heap.size rfl 23 _ _ HC0.out Tryd.underlying23 rfl HI.out ?_) | fail)
  refine (HMayC.out _).mono ?_
  rintro e w1 ⟨rfl, hb⟩
  have HC1 : Hid (HasBox w1 w.heap.size 23 cs) := HC0.out.below hb
  have HB1 : Hid (Below w.heap.size w w1) := HB0.out.trans (hb.mono HB0.out.size)
  clear hb HB0 HC0 HMayC
  go_wp2
  clear h3' hmax
  go_loopw [5, 6, 21] (fun a b i wr => ∃ (k : Nat) (M O : Int), k ≤ l.length ∧ i = .int .i64 k ∧ a = .int .i64 M ∧ b = .int .i64 O ∧ (0 ≤ M ∧ M ≤ k) ∧ (0 ≤ O ∧ O ≤ capE c M) ∧ HasBox wr w.heap.size 23 cs ∧ Below w.heap.size w wr) (fun _ _ i _ => l.length - (intOf i).toNat)
  case atStart => exact ⟨0, 0, 0, Nat.zero_le _, rfl, rfl, rfl, by omega, by have := HBd.out 0 (by omega); omega, HC1.out, HB1.out⟩
  case round =>
    obtain ⟨k, M, O, hk, rfl, rfl, rfl, hM, hO, hc, hb⟩ := hrel
    have HC : Hid (HasBox wr w.heap.size 23 cs) := hc
    have HB : Hid (Below w.heap.size w wr) := hb
    have HM : Hid (0 ≤ M ∧ M ≤ k) := hM
    have HO : Hid (0 ≤ O ∧ O ≤ capE c M) := hO
    clear hc hb hM hO HC1 HB1
    by_cases hlt : k < l.length
    · obtain ⟨b, off, rfl, hbl, g⟩ := (HL.out.below HB.out).hit k hlt
      generalize l.getD k 0 = x at *
      have hlen := HLen.out
      have hm1 := HM.out
      have hbd := HBd.out M (by omega)
      have ho1 := HO.out
      obtain ⟨F, f1, f0⟩ := u_modl x 4 (by omega)
      have f2 : (IntKind.u64.wrap x).tmod 4 = (F : Int) := f0
      clear f0
      have hF : F = 0 ∨ F = 1 ∨ F = 2 ∨ F = 3 := by omega
      clear f1
      rcases hF with rfl | rfl | rfl | rfl
      · have f3 : (IntKind.u64.wrap x).tmod 4 = 0 := f2
        clear f2
        obtain ⟨M2, hM2⟩ : ∃ m, M + 1 = m := ⟨_, rfl⟩
        have s1 : IntKind.i64.wrap (M + 1) = M2 := by rw [hM2]; exact wrap_in (by omega) (by omega)
        have HM2 : Hid (0 ≤ M2 ∧ M2 ≤ (k : Int) + 1) := by show _ ∧ _; omega
        obtain ⟨O2, hO2⟩ : ∃ o : Int, o = O := ⟨_, rfl⟩
        subst hO2
        have HO2 : Hid (0 ≤ O2 ∧ O2 ≤ capE c M2) := by show _ ∧ _; have := HUp.out M (by omega); rw [hM2] at this; omega
        clear hM2 hbd ho1 hm1 HM HO
        have HCapM : Hid _ := HCap.out M2 (by have := HM2.out; omega)
        have HRoomM : Hid _ := HRoom.out M2 O2 (by have := HM2.out; omega) HO2.out
        obtain ⟨P, R, q1, q2, q6, q3⟩ := HNum.out M2 (by have := HM2.out; omega)
        have hbd2 := HBd.out M2 (by have := HM2.out; omega)
        generalize hCm : capE c M2 = C at *
        have HCm : Hid (capE c M2 = C) := hCm
        have hm2 := HM2.out
        have ho2 := HO2.out
        have q4 : IntKind.i64.wrap (C - O2) = C - O2 := wrap_in (by omega) (by omega)
        have q5 : decide (C < O2) = false := decide_eq_false (by omega)
        clear hCm hbd2 hm2 ho2
        have p1 : wr.cell? ⟨w.heap.size, 14, none⟩ = some (.int .i64 c.f14) := (HC.out.cell 14).trans HZ14.out
        have p2 : wr.cell? ⟨w.heap.size, 15, none⟩ = some (.bool c.one) := (HC.out.cell 15).trans HZ15.out
        rcases q3 with ⟨r1, r2, r3⟩ | ⟨r1, r3⟩
        · rw [r1] at p2
          go_wp2_with (first | (refine wpList_load_bx rfl 23 (.tmp 2) rfl w.heap.size rfl 23 _ _ HC.out Tryd.underlying23 rfl HI.out ?_) | fail)
          refine (HCapM.out _ (HT.out.below HB.out)).mono ?_
          rintro e z1 ⟨rfl, hb⟩
          have HCz : Hid (HasBox z1 w.heap.size 23 cs) := HC.out.below hb
          have HBz : Hid (Below w.heap.size w z1) := HB.out.trans (hb.mono HB.out.size)
          clear hb p1 p2
          go_wp2_with (first | (refine wpList_load_bx rfl 23 (.tmp 2) rfl w.heap.size rfl 23 _ _ HCz.out Tryd.underlying23 rfl HI.out ?_) | fail)
          refine (HRoomM.out _ (HT.out.below HBz.out)).mono ?_
          rintro e z2 ⟨rfl, hb⟩
          have HCy : Hid (HasBox z2 w.heap.size 23 cs) := HCz.out.below hb
          have HBy : Hid (Below w.heap.size w z2) := HBz.out.trans (hb.mono HBz.out.size)
          clear hb
          go_wp2
          go_roundw
          case rel => exact ⟨k + 1, M2, O2, by omega, by go_num, rfl, rfl, HM2.out, by rw [HCm.out]; exact HO2.out, HCy.out, HBy.out⟩
          case measure => simp [intOf]; omega
        · subst r3
          rcases r1 with r1 | r1
          · rw [r1] at p2
            go_wp2_with (first | (refine wpList_load_bx rfl 23 (.tmp 2) rfl w.heap.size rfl 23 _ _ HC.out Tryd.underlying23 rfl HI.out ?_) | fail)
            refine (HCapM.out _ (HT.out.below HB.out)).mono ?_
            rintro e z1 ⟨rfl, hb⟩
            have HCz : Hid (HasBox z1 w.heap.size 23 cs) := HC.out.below hb
            have HBz : Hid (Below w.heap.size w z1) := HB.out.trans (hb.mono HB.out.size)
            clear hb p1 p2
            go_wp2_with (first | (refine wpList_load_bx rfl 23 (.tmp 2) rfl w.heap.size rfl 23 _ _ HCz.out Tryd.underlying23 rfl HI.out ?_) | fail)
            refine (HRoomM.out _ (HT.out.below HBz.out)).mono ?_
            rintro e z2 ⟨rfl, hb⟩
            have HCy : Hid (HasBox z2 w.heap.size 23 cs) := HCz.out.below hb
            have HBy : Hid (Below w.heap.size w z2) := HBz.out.trans (hb.mono HBz.out.size)
            clear hb
            go_wp2
            go_roundw
            case rel => exact ⟨k + 1, M2, O2, by omega, by go_num, rfl, rfl, HM2.out, by rw [HCm.out]; exact HO2.out, HCy.out, HBy.out⟩
            case measure => simp [intOf]; omega
          · generalize c.one = on at p2
            cases on
            · go_wp2_with (first | (refine wpList_load_bx rfl 23 (.tmp 2) rfl w.heap.size rfl 23 _ _ HC.out Tryd.underlying23 rfl HI.out ?_) | fail)
              refine (HCapM.out _ (HT.out.below HB.out)).mono ?_
              rintro e z1 ⟨rfl, hb⟩
              have HCz : Hid (HasBox z1 w.heap.size 23 cs) := HC.out.below hb
              have HBz : Hid (Below w.heap.size w z1) := HB.out.trans (hb.mono HB.out.size)
              clear hb p1 p2
              go_wp2_with (first | (refine wpList_load_bx rfl 23 (.tmp 2) rfl w.heap.size rfl 23 _ _ HCz.out Tryd.underlying23 rfl HI.out ?_) | fail)
              refine (HRoomM.out _ (HT.out.below HBz.out)).mono ?_
              rintro e z2 ⟨rfl, hb⟩
              have HCy : Hid (HasBox z2 w.heap.size 23 cs) := HCz.out.below hb
              have HBy : Hid (Below w.heap.size w z2) := HBz.out.trans (hb.mono HBz.out.size)
              clear hb
              go_wp2
              go_roundw
              case rel => exact ⟨k + 1, M2, O2, by omega, by go_num, rfl, rfl, HM2.out, by rw [HCm.out]; exact HO2.out, HCy.out, HBy.out⟩
              case measure => simp [intOf]; omega
            · go_wp2_with (first | (refine wpList_load_bx rfl 23 (.tmp 2) rfl w.heap.size rfl 23 _ _ HC.out Tryd.underlying23 rfl HI.out ?_) | fail)
              refine (HCapM.out _ (HT.out.below HB.out)).mono ?_
              rintro e z1 ⟨rfl, hb⟩
              have HCz : Hid (HasBox z1 w.heap.size 23 cs) := HC.out.below hb
              have HBz : Hid (Below w.heap.size w z1) := HB.out.trans (hb.mono HB.out.size)
              clear hb p1 p2
              go_wp2_with (first | (refine wpList_load_bx rfl 23 (.tmp 2) rfl w.heap.size rfl 23 _ _ HCz.out Tryd.underlying23 rfl HI.out ?_) | fail)
              refine (HRoomM.out _ (HT.out.below HBz.out)).mono ?_
              rintro e z2 ⟨rfl, hb⟩
              have HCy : Hid (HasBox z2 w.heap.size 23 cs) := HCz.out.below hb
              have HBy : Hid (Below w.heap.size w z2) := HBz.out.trans (hb.mono HBz.out.size)
              clear hb
              go_wp2
              go_roundw
              case rel => exact ⟨k + 1, M2, O2, by omega, by go_num, rfl, rfl, HM2.out, by rw [HCm.out]; exact HO2.out, HCy.out, HBy.out⟩
              case measure => simp [intOf]; omega
      · have f3 : (IntKind.u64.wrap x).tmod 4 = 1 := f2
        clear f2
        by_cases hm0 : 0 < M
        · obtain ⟨M2, hM2⟩ : ∃ m, M - 1 = m := ⟨_, rfl⟩
          have s1 : IntKind.i64.wrap (M - 1) = M2 := by rw [hM2]; exact wrap_in (by omega) (by omega)
          obtain ⟨O1, hO1⟩ : ∃ o, (if M2 < O then M2 else O) = o := ⟨_, rfl⟩
          have hO1b : 0 ≤ O1 ∧ O1 ≤ 1000 := by rw [← hO1]; split <;> omega
          obtain ⟨y, hy⟩ : ∃ y, O1 - capE c M2 = y := ⟨_, rfl⟩
          obtain ⟨d, hd⟩ : ∃ d, (if 0 < y then y else 0) = d := ⟨_, rfl⟩
          obtain ⟨O2, hO2⟩ : ∃ o, O1 - d = o := ⟨_, rfl⟩
          have hbd2 := HBd.out M2 (by omega)
          have HO2 : Hid (0 ≤ O2 ∧ O2 ≤ capE c M2) := by show _ ∧ _; rw [← hO2, ← hd, ← hy]; split <;> omega
          have HCap1 : Hid _ := HCap.out M2 (by omega)
          have HM2 : Hid (0 ≤ M2 ∧ M2 ≤ (k : Int) + 1) := by show _ ∧ _; omega
          have s3 : IntKind.i64.wrap (O1 - capE c M2) = y := by rw [hy]; exact wrap_in (by omega) (by omega)
          have s4 : IntKind.i64.wrap (O1 - d) = O2 := by rw [hO2]; have := HO2.out; exact wrap_in (by omega) (by omega)
          clear hO2 hbd2 hy
          clear hM2 hbd ho1 hm1 HM HO hO1b
          go_wp2_with (first | (refine wpList_load_bx rfl 23 (.tmp 2) rfl w.heap.size rfl 23 _ _ HC.out Tryd.underlying23 rfl HI.out ?_) | fail)
          refine (HCap1.out _ (HT.out.below HB.out)).mono ?_
          rintro e z0 ⟨rfl, hb⟩
          have HC0 : Hid (HasBox z0 w.heap.size 23 cs) := HC.out.below hb
          have HB0 : Hid (Below w.heap.size w z0) := HB.out.trans (hb.mono HB.out.size)
          clear hb g hbl HC HB HCap1
          have HCapM : Hid _ := HCap.out M2 (by have := HM2.out; omega)
          have HRoomM : Hid _ := HRoom.out M2 O2 (by have := HM2.out; omega) HO2.out
          obtain ⟨P, R, q1, q2, q6, q3⟩ := HNum.out M2 (by have := HM2.out; omega)
          have hbd2 := HBd.out M2 (by have := HM2.out; omega)
          generalize hCm : capE c M2 = C at *
          have HCm : Hid (capE c M2 = C) := hCm
          have hm2 := HM2.out
          have ho2 := HO2.out
          have q4 : IntKind.i64.wrap (C - O2) = C - O2 := wrap_in (by omega) (by omega)
          have q5 : decide (C < O2) = false := decide_eq_false (by omega)
          clear hCm hbd2 hm2 ho2
          have p1 : z0.cell? ⟨w.heap.size, 14, none⟩ = some (.int .i64 c.f14) := (HC0.out.cell 14).trans HZ14.out
          have p2 : z0.cell? ⟨w.heap.size, 15, none⟩ = some (.bool c.one) := (HC0.out.cell 15).trans HZ15.out
          rcases q3 with ⟨r1, r2, r3⟩ | ⟨r1, r3⟩
          · rw [r1] at p2
            go_wp2_with (first | (refine wpList_load_bx rfl 23 (.tmp 2) rfl w.heap.size rfl 23 _ _ HC0.out Tryd.underlying23 rfl HI.out ?_) | fail)
            refine (HCapM.out _ (HT.out.below HB0.out)).mono ?_
            rintro e z1 ⟨rfl, hb⟩
            have HCz : Hid (HasBox z1 w.heap.size 23 cs) := HC0.out.below hb
            have HBz : Hid (Below w.heap.size w z1) := HB0.out.trans (hb.mono HB0.out.size)
            clear hb p1 p2
            go_wp2_with (first | (refine wpList_load_bx rfl 23 (.tmp 2) rfl w.heap.size rfl 23 _ _ HCz.out Tryd.underlying23 rfl HI.out ?_) | fail)
            refine (HRoomM.out _ (HT.out.below HBz.out)).mono ?_
            rintro e z2 ⟨rfl, hb⟩
            have HCy : Hid (HasBox z2 w.heap.size 23 cs) := HCz.out.below hb
            have HBy : Hid (Below w.heap.size w z2) := HBz.out.trans (hb.mono HBz.out.size)
            clear hb
            go_wp2
            go_roundw
            case rel => exact ⟨k + 1, M2, O2, by omega, by go_num, rfl, rfl, HM2.out, by rw [HCm.out]; exact HO2.out, HCy.out, HBy.out⟩
            case measure => simp [intOf]; omega
          · subst r3
            rcases r1 with r1 | r1
            · rw [r1] at p2
              go_wp2_with (first | (refine wpList_load_bx rfl 23 (.tmp 2) rfl w.heap.size rfl 23 _ _ HC0.out Tryd.underlying23 rfl HI.out ?_) | fail)
              refine (HCapM.out _ (HT.out.below HB0.out)).mono ?_
              rintro e z1 ⟨rfl, hb⟩
              have HCz : Hid (HasBox z1 w.heap.size 23 cs) := HC0.out.below hb
              have HBz : Hid (Below w.heap.size w z1) := HB0.out.trans (hb.mono HB0.out.size)
              clear hb p1 p2
              go_wp2_with (first | (refine wpList_load_bx rfl 23 (.tmp 2) rfl w.heap.size rfl 23 _ _ HCz.out Tryd.underlying23 rfl HI.out ?_) | fail)
              refine (HRoomM.out _ (HT.out.below HBz.out)).mono ?_
              rintro e z2 ⟨rfl, hb⟩
              have HCy : Hid (HasBox z2 w.heap.size 23 cs) := HCz.out.below hb
              have HBy : Hid (Below w.heap.size w z2) := HBz.out.trans (hb.mono HBz.out.size)
              clear hb
              go_wp2
              go_roundw
              case rel => exact ⟨k + 1, M2, O2, by omega, by go_num, rfl, rfl, HM2.out, by rw [HCm.out]; exact HO2.out, HCy.out, HBy.out⟩
              case measure => simp [intOf]; omega
            · generalize c.one = on at p2
              cases on
              · go_wp2_with (first | (refine wpList_load_bx rfl 23 (.tmp 2) rfl w.heap.size rfl 23 _ _ HC0.out Tryd.underlying23 rfl HI.out ?_) | fail)
                refine (HCapM.out _ (HT.out.below HB0.out)).mono ?_
                rintro e z1 ⟨rfl, hb⟩
                have HCz : Hid (HasBox z1 w.heap.size 23 cs) := HC0.out.below hb
                have HBz : Hid (Below w.heap.size w z1) := HB0.out.trans (hb.mono HB0.out.size)
                clear hb p1 p2
                go_wp2_with (first | (refine wpList_load_bx rfl 23 (.tmp 2) rfl w.heap.size rfl 23 _ _ HCz.out Tryd.underlying23 rfl HI.out ?_) | fail)
                refine (HRoomM.out _ (HT.out.below HBz.out)).mono ?_
                rintro e z2 ⟨rfl, hb⟩
                have HCy : Hid (HasBox z2 w.heap.size 23 cs) := HCz.out.below hb
                have HBy : Hid (Below w.heap.size w z2) := HBz.out.trans (hb.mono HBz.out.size)
                clear hb
                go_wp2
                go_roundw
                case rel => exact ⟨k + 1, M2, O2, by omega, by go_num, rfl, rfl, HM2.out, by rw [HCm.out]; exact HO2.out, HCy.out, HBy.out⟩
                case measure => simp [intOf]; omega
              · go_wp2_with (first | (refine wpList_load_bx rfl 23 (.tmp 2) rfl w.heap.size rfl 23 _ _ HC0.out Tryd.underlying23 rfl HI.out ?_) | fail)
                refine (HCapM.out _ (HT.out.below HB0.out)).mono ?_
                rintro e z1 ⟨rfl, hb⟩
                have HCz : Hid (HasBox z1 w.heap.size 23 cs) := HC0.out.below hb
                have HBz : Hid (Below w.heap.size w z1) := HB0.out.trans (hb.mono HB0.out.size)
                clear hb p1 p2
                go_wp2_with (first | (refine wpList_load_bx rfl 23 (.tmp 2) rfl w.heap.size rfl 23 _ _ HCz.out Tryd.underlying23 rfl HI.out ?_) | fail)
                refine (HRoomM.out _ (HT.out.below HBz.out)).mono ?_
                rintro e z2 ⟨rfl, hb⟩
                have HCy : Hid (HasBox z2 w.heap.size 23 cs) := HCz.out.below hb
                have HBy : Hid (Below w.heap.size w z2) := HBz.out.trans (hb.mono HBz.out.size)
                clear hb
                go_wp2
                go_roundw
                case rel => exact ⟨k + 1, M2, O2, by omega, by go_num, rfl, rfl, HM2.out, by rw [HCm.out]; exact HO2.out, HCy.out, HBy.out⟩
                case measure => simp [intOf]; omega
        · obtain ⟨M2, hM2⟩ : ∃ m : Int, m = M := ⟨_, rfl⟩
          subst hM2
          obtain ⟨O1, hO1⟩ : ∃ o : Int, o = O := ⟨_, rfl⟩
          subst hO1
          obtain ⟨y, hy⟩ : ∃ y, O1 - capE c M2 = y := ⟨_, rfl⟩
          obtain ⟨d, hd⟩ : ∃ d, (if 0 < y then y else 0) = d := ⟨_, rfl⟩
          obtain ⟨O2, hO2⟩ : ∃ o, O1 - d = o := ⟨_, rfl⟩
          have hbd2 := HBd.out M2 (by omega)
          have HO2 : Hid (0 ≤ O2 ∧ O2 ≤ capE c M2) := by show _ ∧ _; rw [← hO2, ← hd, ← hy]; split <;> omega
          have HCap1 : Hid _ := HCap.out M2 (by omega)
          have HM2 : Hid (0 ≤ M2 ∧ M2 ≤ (k : Int) + 1) := by show _ ∧ _; omega
          have s3 : IntKind.i64.wrap (O1 - capE c M2) = y := by rw [hy]; exact wrap_in (by omega) (by omega)
          have s4 : IntKind.i64.wrap (O1 - d) = O2 := by rw [hO2]; have := HO2.out; exact wrap_in (by omega) (by omega)
          clear hO2 hbd2 hy
          clear hbd ho1 hm1 HM HO
          go_wp2_with (first | (refine wpList_load_bx rfl 23 (.tmp 2) rfl w.heap.size rfl 23 _ _ HC.out Tryd.underlying23 rfl HI.out ?_) | fail)
          refine (HCap1.out _ (HT.out.below HB.out)).mono ?_
          rintro e z0 ⟨rfl, hb⟩
          have HC0 : Hid (HasBox z0 w.heap.size 23 cs) := HC.out.below hb
          have HB0 : Hid (Below w.heap.size w z0) := HB.out.trans (hb.mono HB.out.size)
          clear hb g hbl HC HB HCap1
          have HCapM : Hid _ := HCap.out M2 (by have := HM2.out; omega)
          have HRoomM : Hid _ := HRoom.out M2 O2 (by have := HM2.out; omega) HO2.out
          obtain ⟨P, R, q1, q2, q6, q3⟩ := HNum.out M2 (by have := HM2.out; omega)
          have hbd2 := HBd.out M2 (by have := HM2.out; omega)
          generalize hCm : capE c M2 = C at *
          have HCm : Hid (capE c M2 = C) := hCm
          have hm2 := HM2.out
          have ho2 := HO2.out
          have q4 : IntKind.i64.wrap (C - O2) = C - O2 := wrap_in (by omega) (by omega)
          have q5 : decide (C < O2) = false := decide_eq_false (by omega)
          clear hCm hbd2 hm2 ho2
          have p1 : z0.cell? ⟨w.heap.size, 14, none⟩ = some (.int .i64 c.f14) := (HC0.out.cell 14).trans HZ14.out
          have p2 : z0.cell? ⟨w.heap.size, 15, none⟩ = some (.bool c.one) := (HC0.out.cell 15).trans HZ15.out
          rcases q3 with ⟨r1, r2, r3⟩ | ⟨r1, r3⟩
          · exact absurd r2 (by omega)
          · subst r3
            rcases r1 with r1 | r1
            · rw [r1] at p2
              go_wp2_with (first | (refine wpList_load_bx rfl 23 (.tmp 2) rfl w.heap.size rfl 23 _ _ HC0.out Tryd.underlying23 rfl HI.out ?_) | fail)
              refine (HCapM.out _ (HT.out.below HB0.out)).mono ?_
              rintro e z1 ⟨rfl, hb⟩
              have HCz : Hid (HasBox z1 w.heap.size 23 cs) := HC0.out.below hb
              have HBz : Hid (Below w.heap.size w z1) := HB0.out.trans (hb.mono HB0.out.size)
              clear hb p1 p2
              go_wp2_with (first | (refine wpList_load_bx rfl 23 (.tmp 2) rfl w.heap.size rfl 23 _ _ HCz.out Tryd.underlying23 rfl HI.out ?_) | fail)
              refine (HRoomM.out _ (HT.out.below HBz.out)).mono ?_
              rintro e z2 ⟨rfl, hb⟩
              have HCy : Hid (HasBox z2 w.heap.size 23 cs) := HCz.out.below hb
              have HBy : Hid (Below w.heap.size w z2) := HBz.out.trans (hb.mono HBz.out.size)
              clear hb
              go_wp2
              go_roundw
              case rel => exact ⟨k + 1, M2, O2, by omega, by go_num, rfl, rfl, HM2.out, by rw [HCm.out]; exact HO2.out, HCy.out, HBy.out⟩
              case measure => simp [intOf]; omega
            · generalize c.one = on at p2
              cases on
              · go_wp2_with (first | (refine wpList_load_bx rfl 23 (.tmp 2) rfl w.heap.size rfl 23 _ _ HC0.out Tryd.underlying23 rfl HI.out ?_) | fail)
                refine (HCapM.out _ (HT.out.below HB0.out)).mono ?_
                rintro e z1 ⟨rfl, hb⟩
                have HCz : Hid (HasBox z1 w.heap.size 23 cs) := HC0.out.below hb
                have HBz : Hid (Below w.heap.size w z1) := HB0.out.trans (hb.mono HB0.out.size)
                clear hb p1 p2
                go_wp2_with (first | (refine wpList_load_bx rfl 23 (.tmp 2) rfl w.heap.size rfl 23 _ _ HCz.out Tryd.underlying23 rfl HI.out ?_) | fail)
                refine (HRoomM.out _ (HT.out.below HBz.out)).mono ?_
                rintro e z2 ⟨rfl, hb⟩
                have HCy : Hid (HasBox z2 w.heap.size 23 cs) := HCz.out.below hb
                have HBy : Hid (Below w.heap.size w z2) := HBz.out.trans (hb.mono HBz.out.size)
                clear hb
                go_wp2
                go_roundw
                case rel => exact ⟨k + 1, M2, O2, by omega, by go_num, rfl, rfl, HM2.out, by rw [HCm.out]; exact HO2.out, HCy.out, HBy.out⟩
                case measure => simp [intOf]; omega
              · go_wp2_with (first | (refine wpList_load_bx rfl 23 (.tmp 2) rfl w.heap.size rfl 23 _ _ HC0.out Tryd.underlying23 rfl HI.out ?_) | fail)
                refine (HCapM.out _ (HT.out.below HB0.out)).mono ?_
                rintro e z1 ⟨rfl, hb⟩
                have HCz : Hid (HasBox z1 w.heap.size 23 cs) := HC0.out.below hb
                have HBz : Hid (Below w.heap.size w z1) := HB0.out.trans (hb.mono HB0.out.size)
                clear hb p1 p2
                go_wp2_with (first | (refine wpList_load_bx rfl 23 (.tmp 2) rfl w.heap.size rfl 23 _ _ HCz.out Tryd.underlying23 rfl HI.out ?_) | fail)
                refine (HRoomM.out _ (HT.out.below HBz.out)).mono ?_
                rintro e z2 ⟨rfl, hb⟩
                have HCy : Hid (HasBox z2 w.heap.size 23 cs) := HCz.out.below hb
                have HBy : Hid (Below w.heap.size w z2) := HBz.out.trans (hb.mono HBz.out.size)
                clear hb
                go_wp2
                go_roundw
                case rel => exact ⟨k + 1, M2, O2, by omega, by go_num, rfl, rfl, HM2.out, by rw [HCm.out]; exact HO2.out, HCy.out, HBy.out⟩
                case measure => simp [intOf]; omega
      · have f3 : (IntKind.u64.wrap x).tmod 4 = 2 := f2
        clear f2
        obtain ⟨y, hy⟩ : ∃ y, capE c M - O = y := ⟨_, rfl⟩
        have HRoom1 : Hid _ := HRoom.out M O (by omega) HO.out
        rw [hy] at HRoom1
        by_cases hr0 : 0 < y
        · have s6 : O < M := by omega
          obtain ⟨M2, hM2⟩ : ∃ m : Int, m = M := ⟨_, rfl⟩
          subst hM2
          obtain ⟨O2, hO2⟩ : ∃ o : Int, O + 1 = o := ⟨_, rfl⟩
          have s7 : IntKind.i64.wrap (O + 1) = O2 := by rw [hO2]; exact wrap_in (by omega) (by omega)
          have HM2 : Hid (0 ≤ M2 ∧ M2 ≤ (k : Int) + 1) := by show _ ∧ _; omega
          have HO2 : Hid (0 ≤ O2 ∧ O2 ≤ capE c M2) := by show _ ∧ _; omega
          clear hO2 hbd ho1 hm1 HM HO hy
          go_wp2_with (first | (refine wpList_load_bx rfl 23 (.tmp 2) rfl w.heap.size rfl 23 _ _ HC.out Tryd.underlying23 rfl HI.out ?_) | fail)
          refine (HRoom1.out _ (HT.out.below HB.out)).mono ?_
          rintro e z0 ⟨rfl, hb⟩
          have HC0 : Hid (HasBox z0 w.heap.size 23 cs) := HC.out.below hb
          have HB0 : Hid (Below w.heap.size w z0) := HB.out.trans (hb.mono HB.out.size)
          clear hb g hbl HC HB HRoom1
          have HCapM : Hid _ := HCap.out M2 (by have := HM2.out; omega)
          have HRoomM : Hid _ := HRoom.out M2 O2 (by have := HM2.out; omega) HO2.out
          obtain ⟨P, R, q1, q2, q6, q3⟩ := HNum.out M2 (by have := HM2.out; omega)
          have hbd2 := HBd.out M2 (by have := HM2.out; omega)
          generalize hCm : capE c M2 = C at *
          have HCm : Hid (capE c M2 = C) := hCm
          have hm2 := HM2.out
          have ho2 := HO2.out
          have q4 : IntKind.i64.wrap (C - O2) = C - O2 := wrap_in (by omega) (by omega)
          have q5 : decide (C < O2) = false := decide_eq_false (by omega)
          clear hCm hbd2 hm2 ho2
          have p1 : z0.cell? ⟨w.heap.size, 14, none⟩ = some (.int .i64 c.f14) := (HC0.out.cell 14).trans HZ14.out
          have p2 : z0.cell? ⟨w.heap.size, 15, none⟩ = some (.bool c.one) := (HC0.out.cell 15).trans HZ15.out
          rcases q3 with ⟨r1, r2, r3⟩ | ⟨r1, r3⟩
          · rw [r1] at p2
            go_wp2_with (first | (refine wpList_load_bx rfl 23 (.tmp 2) rfl w.heap.size rfl 23 _ _ HC0.out Tryd.underlying23 rfl HI.out ?_) | fail)
            refine (HCapM.out _ (HT.out.below HB0.out)).mono ?_
            rintro e z1 ⟨rfl, hb⟩
            have HCz : Hid (HasBox z1 w.heap.size 23 cs) := HC0.out.below hb
            have HBz : Hid (Below w.heap.size w z1) := HB0.out.trans (hb.mono HB0.out.size)
            clear hb p1 p2
            go_wp2_with (first | (refine wpList_load_bx rfl 23 (.tmp 2) rfl w.heap.size rfl 23 _ _ HCz.out Tryd.underlying23 rfl HI.out ?_) | fail)
            refine (HRoomM.out _ (HT.out.below HBz.out)).mono ?_
            rintro e z2 ⟨rfl, hb⟩
            have HCy : Hid (HasBox z2 w.heap.size 23 cs) := HCz.out.below hb
            have HBy : Hid (Below w.heap.size w z2) := HBz.out.trans (hb.mono HBz.out.size)
            clear hb
            go_wp2
            go_roundw
            case rel => exact ⟨k + 1, M2, O2, by omega, by go_num, rfl, rfl, HM2.out, by rw [HCm.out]; exact HO2.out, HCy.out, HBy.out⟩
            case measure => simp [intOf]; omega
          · subst r3
            rcases r1 with r1 | r1
            · rw [r1] at p2
              go_wp2_with (first | (refine wpList_load_bx rfl 23 (.tmp 2) rfl w.heap.size rfl 23 _ _ HC0.out Tryd.underlying23 rfl HI.out ?_) | fail)
              refine (HCapM.out _ (HT.out.below HB0.out)).mono ?_
              rintro e z1 ⟨rfl, hb⟩
              have HCz : Hid (HasBox z1 w.heap.size 23 cs) := HC0.out.below hb
              have HBz : Hid (Below w.heap.size w z1) := HB0.out.trans (hb.mono HB0.out.size)
              clear hb p1 p2
              go_wp2_with (first | (refine wpList_load_bx rfl 23 (.tmp 2) rfl w.heap.size rfl 23 _ _ HCz.out Tryd.underlying23 rfl HI.out ?_) | fail)
              refine (HRoomM.out _ (HT.out.below HBz.out)).mono ?_
              rintro e z2 ⟨rfl, hb⟩
              have HCy : Hid (HasBox z2 w.heap.size 23 cs) := HCz.out.below hb
              have HBy : Hid (Below w.heap.size w z2) := HBz.out.trans (hb.mono HBz.out.size)
              clear hb
              go_wp2
              go_roundw
              case rel => exact ⟨k + 1, M2, O2, by omega, by go_num, rfl, rfl, HM2.out, by rw [HCm.out]; exact HO2.out, HCy.out, HBy.out⟩
              case measure => simp [intOf]; omega
            · generalize c.one = on at p2
              cases on
              · go_wp2_with (first | (refine wpList_load_bx rfl 23 (.tmp 2) rfl w.heap.size rfl 23 _ _ HC0.out Tryd.underlying23 rfl HI.out ?_) | fail)
                refine (HCapM.out _ (HT.out.below HB0.out)).mono ?_
                rintro e z1 ⟨rfl, hb⟩
                have HCz : Hid (HasBox z1 w.heap.size 23 cs) := HC0.out.below hb
                have HBz : Hid (Below w.heap.size w z1) := HB0.out.trans (hb.mono HB0.out.size)
                clear hb p1 p2
                go_wp2_with (first | (refine wpList_load_bx rfl 23 (.tmp 2) rfl w.heap.size rfl 23 _ _ HCz.out Tryd.underlying23 rfl HI.out ?_) | fail)
                refine (HRoomM.out _ (HT.out.below HBz.out)).mono ?_
                rintro e z2 ⟨rfl, hb⟩
                have HCy : Hid (HasBox z2 w.heap.size 23 cs) := HCz.out.below hb
                have HBy : Hid (Below w.heap.size w z2) := HBz.out.trans (hb.mono HBz.out.size)
                clear hb
                go_wp2
                go_roundw
                case rel => exact ⟨k + 1, M2, O2, by omega, by go_num, rfl, rfl, HM2.out, by rw [HCm.out]; exact HO2.out, HCy.out, HBy.out⟩
                case measure => simp [intOf]; omega
              · go_wp2_with (first | (refine wpList_load_bx rfl 23 (.tmp 2) rfl w.heap.size rfl 23 _ _ HC0.out Tryd.underlying23 rfl HI.out ?_) | fail)
                refine (HCapM.out _ (HT.out.below HB0.out)).mono ?_
                rintro e z1 ⟨rfl, hb⟩
                have HCz : Hid (HasBox z1 w.heap.size 23 cs) := HC0.out.below hb
                have HBz : Hid (Below w.heap.size w z1) := HB0.out.trans (hb.mono HB0.out.size)
                clear hb p1 p2
                go_wp2_with (first | (refine wpList_load_bx rfl 23 (.tmp 2) rfl w.heap.size rfl 23 _ _ HCz.out Tryd.underlying23 rfl HI.out ?_) | fail)
                refine (HRoomM.out _ (HT.out.below HBz.out)).mono ?_
                rintro e z2 ⟨rfl, hb⟩
                have HCy : Hid (HasBox z2 w.heap.size 23 cs) := HCz.out.below hb
                have HBy : Hid (Below w.heap.size w z2) := HBz.out.trans (hb.mono HBz.out.size)
                clear hb
                go_wp2
                go_roundw
                case rel => exact ⟨k + 1, M2, O2, by omega, by go_num, rfl, rfl, HM2.out, by rw [HCm.out]; exact HO2.out, HCy.out, HBy.out⟩
                case measure => simp [intOf]; omega
        · obtain ⟨M2, hM2⟩ : ∃ m : Int, m = M := ⟨_, rfl⟩
          subst hM2
          obtain ⟨O2, hO2⟩ : ∃ o : Int, o = O := ⟨_, rfl⟩
          subst hO2
          have HM2 : Hid (0 ≤ M2 ∧ M2 ≤ (k : Int) + 1) := by show _ ∧ _; omega
          have HO2 : Hid (0 ≤ O2 ∧ O2 ≤ capE c M2) := HO.out
          clear hbd ho1 hm1 HM HO hy
          go_wp2_with (first | (refine wpList_load_bx rfl 23 (.tmp 2) rfl w.heap.size rfl 23 _ _ HC.out Tryd.underlying23 rfl HI.out ?_) | fail)
          refine (HRoom1.out _ (HT.out.below HB.out)).mono ?_
          rintro e z0 ⟨rfl, hb⟩
          have HC0 : Hid (HasBox z0 w.heap.size 23 cs) := HC.out.below hb
          have HB0 : Hid (Below w.heap.size w z0) := HB.out.trans (hb.mono HB.out.size)
          clear hb g hbl HC HB HRoom1
          have HCapM : Hid _ := HCap.out M2 (by have := HM2.out; omega)
          have HRoomM : Hid _ := HRoom.out M2 O2 (by have := HM2.out; omega) HO2.out
          obtain ⟨P, R, q1, q2, q6, q3⟩ := HNum.out M2 (by have := HM2.out; omega)
          have hbd2 := HBd.out M2 (by have := HM2.out; omega)
          generalize hCm : capE c M2 = C at *
          have HCm : Hid (capE c M2 = C) := hCm
          have hm2 := HM2.out
          have ho2 := HO2.out
          have q4 : IntKind.i64.wrap (C - O2) = C - O2 := wrap_in (by omega) (by omega)
          have q5 : decide (C < O2) = false := decide_eq_false (by omega)
          clear hCm hbd2 hm2 ho2
          have p1 : z0.cell? ⟨w.heap.size, 14, none⟩ = some (.int .i64 c.f14) := (HC0.out.cell 14).trans HZ14.out
          have p2 : z0.cell? ⟨w.heap.size, 15, none⟩ = some (.bool c.one) := (HC0.out.cell 15).trans HZ15.out
          rcases q3 with ⟨r1, r2, r3⟩ | ⟨r1, r3⟩
          · rw [r1] at p2
            go_wp2_with (first | (refine wpList_load_bx rfl 23 (.tmp 2) rfl w.heap.size rfl 23 _ _ HC0.out Tryd.underlying23 rfl HI.out ?_) | fail)
            refine (HCapM.out _ (HT.out.below HB0.out)).mono ?_
            rintro e z1 ⟨rfl, hb⟩
            have HCz : Hid (HasBox z1 w.heap.size 23 cs) := HC0.out.below hb
            have HBz : Hid (Below w.heap.size w z1) := HB0.out.trans (hb.mono HB0.out.size)
            clear hb p1 p2
            go_wp2_with (first | (refine wpList_load_bx rfl 23 (.tmp 2) rfl w.heap.size rfl 23 _ _ HCz.out Tryd.underlying23 rfl HI.out ?_) | fail)
            refine (HRoomM.out _ (HT.out.below HBz.out)).mono ?_
            rintro e z2 ⟨rfl, hb⟩
            have HCy : Hid (HasBox z2 w.heap.size 23 cs) := HCz.out.below hb
            have HBy : Hid (Below w.heap.size w z2) := HBz.out.trans (hb.mono HBz.out.size)
            clear hb
            go_wp2
            go_roundw
            case rel => exact ⟨k + 1, M2, O2, by omega, by go_num, rfl, rfl, HM2.out, by rw [HCm.out]; exact HO2.out, HCy.out, HBy.out⟩
            case measure => simp [intOf]; omega
          · subst r3
            rcases r1 with r1 | r1
            · rw [r1] at p2
              go_wp2_with (first | (refine wpList_load_bx rfl 23 (.tmp 2) rfl w.heap.size rfl 23 _ _ HC0.out Tryd.underlying23 rfl HI.out ?_) | fail)
              refine (HCapM.out _ (HT.out.below HB0.out)).mono ?_
              rintro e z1 ⟨rfl, hb⟩
              have HCz : Hid (HasBox z1 w.heap.size 23 cs) := HC0.out.below hb
              have HBz : Hid (Below w.heap.size w z1) := HB0.out.trans (hb.mono HB0.out.size)
              clear hb p1 p2
              go_wp2_with (first | (refine wpList_load_bx rfl 23 (.tmp 2) rfl w.heap.size rfl 23 _ _ HCz.out Tryd.underlying23 rfl HI.out ?_) | fail)
              refine (HRoomM.out _ (HT.out.below HBz.out)).mono ?_
              rintro e z2 ⟨rfl, hb⟩
              have HCy : Hid (HasBox z2 w.heap.size 23 cs) := HCz.out.below hb
              have HBy : Hid (Below w.heap.size w z2) := HBz.out.trans (hb.mono HBz.out.size)
              clear hb
              go_wp2
              go_roundw
              case rel => exact ⟨k + 1, M2, O2, by omega, by go_num, rfl, rfl, HM2.out, by rw [HCm.out]; exact HO2.out, HCy.out, HBy.out⟩
              case measure => simp [intOf]; omega
            · generalize c.one = on at p2
              cases on
              · go_wp2_with (first | (refine wpList_load_bx rfl 23 (.tmp 2) rfl w.heap.size rfl 23 _ _ HC0.out Tryd.underlying23 rfl HI.out ?_) | fail)
                refine (HCapM.out _ (HT.out.below HB0.out)).mono ?_
                rintro e z1 ⟨rfl, hb⟩
                have HCz : Hid (HasBox z1 w.heap.size 23 cs) := HC0.out.below hb
                have HBz : Hid (Below w.heap.size w z1) := HB0.out.trans (hb.mono HB0.out.size)
                clear hb p1 p2
                go_wp2_with (first | (refine wpList_load_bx rfl 23 (.tmp 2) rfl w.heap.size rfl 23 _ _ HCz.out Tryd.underlying23 rfl HI.out ?_) | fail)
                refine (HRoomM.out _ (HT.out.below HBz.out)).mono ?_
                rintro e z2 ⟨rfl, hb⟩
                have HCy : Hid (HasBox z2 w.heap.size 23 cs) := HCz.out.below hb
                have HBy : Hid (Below w.heap.size w z2) := HBz.out.trans (hb.mono HBz.out.size)
                clear hb
                go_wp2
                go_roundw
                case rel => exact ⟨k + 1, M2, O2, by omega, by go_num, rfl, rfl, HM2.out, by rw [HCm.out]; exact HO2.out, HCy.out, HBy.out⟩
                case measure => simp [intOf]; omega
              · go_wp2_with (first | (refine wpList_load_bx rfl 23 (.tmp 2) rfl w.heap.size rfl 23 _ _ HC0.out Tryd.underlying23 rfl HI.out ?_) | fail)
                refine (HCapM.out _ (HT.out.below HB0.out)).mono ?_
                rintro e z1 ⟨rfl, hb⟩
                have HCz : Hid (HasBox z1 w.heap.size 23 cs) := HC0.out.below hb
                have HBz : Hid (Below w.heap.size w z1) := HB0.out.trans (hb.mono HB0.out.size)
                clear hb p1 p2
                go_wp2_with (first | (refine wpList_load_bx rfl 23 (.tmp 2) rfl w.heap.size rfl 23 _ _ HCz.out Tryd.underlying23 rfl HI.out ?_) | fail)
                refine (HRoomM.out _ (HT.out.below HBz.out)).mono ?_
                rintro e z2 ⟨rfl, hb⟩
                have HCy : Hid (HasBox z2 w.heap.size 23 cs) := HCz.out.below hb
                have HBy : Hid (Below w.heap.size w z2) := HBz.out.trans (hb.mono HBz.out.size)
                clear hb
                go_wp2
                go_roundw
                case rel => exact ⟨k + 1, M2, O2, by omega, by go_num, rfl, rfl, HM2.out, by rw [HCm.out]; exact HO2.out, HCy.out, HBy.out⟩
                case measure => simp [intOf]; omega
      · have f3 : (IntKind.u64.wrap x).tmod 4 = 3 := f2
        clear f2
        obtain ⟨M2, hM2⟩ : ∃ m : Int, m = M := ⟨_, rfl⟩
        subst hM2
        obtain ⟨y, hy⟩ : ∃ y, O - 1 = y := ⟨_, rfl⟩
        obtain ⟨O2, hO2⟩ : ∃ o, (if 0 < y then y else 0) = o := ⟨_, rfl⟩
        have s1 : IntKind.i64.wrap (O - 1) = y := by rw [hy]; exact wrap_in (by omega) (by omega)
        have HM2 : Hid (0 ≤ M2 ∧ M2 ≤ (k : Int) + 1) := by show _ ∧ _; omega
        have HO2 : Hid (0 ≤ O2 ∧ O2 ≤ capE c M2) := by show _ ∧ _; rw [← hO2, ← hy]; split <;> omega
        clear hbd ho1 hm1 HM HO hy
        have HCapM : Hid _ := HCap.out M2 (by have := HM2.out; omega)
        have HRoomM : Hid _ := HRoom.out M2 O2 (by have := HM2.out; omega) HO2.out
        obtain ⟨P, R, q1, q2, q6, q3⟩ := HNum.out M2 (by have := HM2.out; omega)
        have hbd2 := HBd.out M2 (by have := HM2.out; omega)
        generalize hCm : capE c M2 = C at *
        have HCm : Hid (capE c M2 = C) := hCm
        have hm2 := HM2.out
        have ho2 := HO2.out
        have q4 : IntKind.i64.wrap (C - O2) = C - O2 := wrap_in (by omega) (by omega)
        have q5 : decide (C < O2) = false := decide_eq_false (by omega)
        clear hCm hbd2 hm2 ho2
        have p1 : wr.cell? ⟨w.heap.size, 14, none⟩ = some (.int .i64 c.f14) := (HC.out.cell 14).trans HZ14.out
        have p2 : wr.cell? ⟨w.heap.size, 15, none⟩ = some (.bool c.one) := (HC.out.cell 15).trans HZ15.out
        rcases q3 with ⟨r1, r2, r3⟩ | ⟨r1, r3⟩
        · rw [r1] at p2
          go_wp2_with (first | (refine wpList_load_bx rfl 23 (.tmp 2) rfl w.heap.size rfl 23 _ _ HC.out Tryd.underlying23 rfl HI.out ?_) | fail)
          refine (HCapM.out _ (HT.out.below HB.out)).mono ?_
          rintro e z1 ⟨rfl, hb⟩
          have HCz : Hid (HasBox z1 w.heap.size 23 cs) := HC.out.below hb
          have HBz : Hid (Below w.heap.size w z1) := HB.out.trans (hb.mono HB.out.size)
          clear hb p1 p2
          go_wp2_with (first | (refine wpList_load_bx rfl 23 (.tmp 2) rfl w.heap.size rfl 23 _ _ HCz.out Tryd.underlying23 rfl HI.out ?_) | fail)
          refine (HRoomM.out _ (HT.out.below HBz.out)).mono ?_
          rintro e z2 ⟨rfl, hb⟩
          have HCy : Hid (HasBox z2 w.heap.size 23 cs) := HCz.out.below hb
          have HBy : Hid (Below w.heap.size w z2) := HBz.out.trans (hb.mono HBz.out.size)
          clear hb
          go_wp2
          go_roundw
          case rel => exact ⟨k + 1, M2, O2, by omega, by go_num, rfl, rfl, HM2.out, by rw [HCm.out]; exact HO2.out, HCy.out, HBy.out⟩
          case measure => simp [intOf]; omega
        · subst r3
          rcases r1 with r1 | r1
          · rw [r1] at p2
            go_wp2_with (first | (refine wpList_load_bx rfl 23 (.tmp 2) rfl w.heap.size rfl 23 _ _ HC.out Tryd.underlying23 rfl HI.out ?_) | fail)
            refine (HCapM.out _ (HT.out.below HB.out)).mono ?_
            rintro e z1 ⟨rfl, hb⟩
            have HCz : Hid (HasBox z1 w.heap.size 23 cs) := HC.out.below hb
            have HBz : Hid (Below w.heap.size w z1) := HB.out.trans (hb.mono HB.out.size)
            clear hb p1 p2
            go_wp2_with (first | (refine wpList_load_bx rfl 23 (.tmp 2) rfl w.heap.size rfl 23 _ _ HCz.out Tryd.underlying23 rfl HI.out ?_) | fail)
            refine (HRoomM.out _ (HT.out.below HBz.out)).mono ?_
            rintro e z2 ⟨rfl, hb⟩
            have HCy : Hid (HasBox z2 w.heap.size 23 cs) := HCz.out.below hb
            have HBy : Hid (Below w.heap.size w z2) := HBz.out.trans (hb.mono HBz.out.size)
            clear hb
            go_wp2
            go_roundw
            case rel => exact ⟨k + 1, M2, O2, by omega, by go_num, rfl, rfl, HM2.out, by rw [HCm.out]; exact HO2.out, HCy.out, HBy.out⟩
            case measure => simp [intOf]; omega
          · generalize c.one = on at p2
            cases on
            · go_wp2_with (first | (refine wpList_load_bx rfl 23 (.tmp 2) rfl w.heap.size rfl 23 _ _ HC.out Tryd.underlying23 rfl HI.out ?_) | fail)
              refine (HCapM.out _ (HT.out.below HB.out)).mono ?_
              rintro e z1 ⟨rfl, hb⟩
              have HCz : Hid (HasBox z1 w.heap.size 23 cs) := HC.out.below hb
              have HBz : Hid (Below w.heap.size w z1) := HB.out.trans (hb.mono HB.out.size)
              clear hb p1 p2
              go_wp2_with (first | (refine wpList_load_bx rfl 23 (.tmp 2) rfl w.heap.size rfl 23 _ _ HCz.out Tryd.underlying23 rfl HI.out ?_) | fail)
              refine (HRoomM.out _ (HT.out.below HBz.out)).mono ?_
              rintro e z2 ⟨rfl, hb⟩
              have HCy : Hid (HasBox z2 w.heap.size 23 cs) := HCz.out.below hb
              have HBy : Hid (Below w.heap.size w z2) := HBz.out.trans (hb.mono HBz.out.size)
              clear hb
              go_wp2
              go_roundw
              case rel => exact ⟨k + 1, M2, O2, by omega, by go_num, rfl, rfl, HM2.out, by rw [HCm.out]; exact HO2.out, HCy.out, HBy.out⟩
              case measure => simp [intOf]; omega
            · go_wp2_with (first | (refine wpList_load_bx rfl 23 (.tmp 2) rfl w.heap.size rfl 23 _ _ HC.out Tryd.underlying23 rfl HI.out ?_) | fail)
              refine (HCapM.out _ (HT.out.below HB.out)).mono ?_
              rintro e z1 ⟨rfl, hb⟩
              have HCz : Hid (HasBox z1 w.heap.size 23 cs) := HC.out.below hb
              have HBz : Hid (Below w.heap.size w z1) := HB.out.trans (hb.mono HB.out.size)
              clear hb p1 p2
              go_wp2_with (first | (refine wpList_load_bx rfl 23 (.tmp 2) rfl w.heap.size rfl 23 _ _ HCz.out Tryd.underlying23 rfl HI.out ?_) | fail)
              refine (HRoomM.out _ (HT.out.below HBz.out)).mono ?_
              rintro e z2 ⟨rfl, hb⟩
              have HCy : Hid (HasBox z2 w.heap.size 23 cs) := HCz.out.below hb
              have HBy : Hid (Below w.heap.size w z2) := HBz.out.trans (hb.mono HBz.out.size)
              clear hb
              go_wp2
              go_roundw
              case rel => exact ⟨k + 1, M2, O2, by omega, by go_num, rfl, rfl, HM2.out, by rw [HCm.out]; exact HO2.out, HCy.out, HBy.out⟩
              case measure => simp [intOf]; omega
    · go_wp2_with fail
      refine (awake14_any _ (HT.out.below HB.out)).mono ?_
      rintro e w7 ⟨rfl, hb⟩
      have HB7 : Hid (Below w.heap.size w w7) := HB.out.trans (hb.mono HB.out.size)
      clear hb
      go_wp2
      go_ret
      exact ⟨rfl, HB7.out⟩

theorem reads_EjectCap (os : Os) {H : Type} (enc : TypeId × Value → H) : ∃ places, DataW.whole enc Tryd.prog ((laidWorld os).forCall (fun _ _ => 0) ⟨#[], #[.agg #[.int .i64 0, .int .i64 0, .int .i64 0, .int .i64 0, .int .i64 0, .int .i64 0, .int .i64 0, .int .i64 0, .int .i64 0, .int .i64 0, .int .i64 0, .int .i64 0, .int .i64 0, .int .i64 0, .int .i64 0, .bool false, .int .i64 0, .int .i64 0, .int .i64 0, .int .i64 0, .int .i64 0, .string ByteArray.empty, .bool false], .slice none 0 0], []⟩).memory Tryd.f3.params.toList Rows.ejectCapSpec.vars false (#[.agg #[.int .i64 0, .int .i64 0, .int .i64 0, .int .i64 0, .int .i64 0, .int .i64 0, .int .i64 0, .int .i64 0, .int .i64 0, .int .i64 0, .int .i64 0, .int .i64 0, .int .i64 0, .int .i64 0, .int .i64 0, .bool false, .int .i64 0, .int .i64 0, .int .i64 0, .int .i64 0, .int .i64 0, .string ByteArray.empty, .bool false], .slice none 0 0] : Array Value).toList 8 = some ([.agg [.lit (.int .i64 0), .lit (.int .i64 0), .lit (.int .i64 0), .lit (.int .i64 0), .lit (.int .i64 0), .lit (.int .i64 0), .lit (.int .i64 0), .lit (.int .i64 0), .lit (.int .i64 0), .lit (.int .i64 0), .lit (.int .i64 0), .lit (.int .i64 0), .lit (.int .i64 0), .lit (.int .i64 0), .lit (.int .i64 0), .lit (.bool false), .lit (.int .i64 0), .lit (.int .i64 0), .lit (.int .i64 0), .lit (.int .i64 0), .lit (.int .i64 0), .lit (.string []), .lit (.bool false)], .nil], [], places) :=
  ⟨[], by kernel_rfl⟩

set_option maxRecDepth 100000 in
theorem lifted_EjectCap (os : Os) (started : os.Started) (H : Type) (enc : TypeId × Value → H) (F : Stop.Interp) :
    ReturnsInHanded {} Tryd.checked os 3 .any ((OpenSpec.ofChange Rows.ejectCapSpec).preRow enc Tryd.prog Tryd.f3 Rows.ejectCapRow.domain false Rows.ejectCapRow.laid) (((OpenSpec.ofChange Rows.ejectCapSpec).at F).post enc Tryd.prog Tryd.f3 false true false false) := by
  obtain ⟨places, hx⟩ := reads_EjectCap os enc
  refine returnsInHanded_of_row (C := Tryd.checked) (s := OpenSpec.ofChange Rows.ejectCapSpec) own started (by kernel_rfl) Tryd.func3
    (witness_row_at (enc := enc) (C := Tryd.checked) false (laidWorld os) #[.agg #[.int .i64 0, .int .i64 0, .int .i64 0, .int .i64 0, .int .i64 0, .int .i64 0, .int .i64 0, .int .i64 0, .int .i64 0, .int .i64 0, .int .i64 0, .int .i64 0, .int .i64 0, .int .i64 0, .int .i64 0, .bool false, .int .i64 0, .int .i64 0, .int .i64 0, .int .i64 0, .int .i64 0, .string ByteArray.empty, .bool false], .slice none 0 0] rfl (by kernel_rfl) (by kernel_rfl) (by kernel_rfl)
      (OpenSpec.preRow_of_cond 8 hx (by kernel_rfl) (fun k hk => by cases hk) (by kernel_rfl) (laid_met os _))) ?_
  intro W base args ds gs before hval0 hW _ _ hsz0 hL _ _
  have htab := table hL
  have hval : ∀ (j : Nat) t v, Tryd.f3.params[j]? = some t → args[j]? = some v → Value.okWide Tryd.prog W .any base t v := hval0
  have hW' := hW
  obtain ⟨p, q, hA0, hV, rfl, hfz, hnd⟩ := hW
  have hA : DataW.TrodAll enc Tryd.prog W 0 (fun _ => true) true Tryd.f3.params.toList args.toList ds p := hA0
  rw [Tryd.params3] at hA hval
  obtain ⟨v0, vs0, d0, ds0, p0, q0, hargs, rfl, rfl, h0, r0⟩ := trodAll_cons hA
  obtain ⟨v1, vs1, d1, ds1, p1, q1, rfl, rfl, rfl, h1, r1⟩ := trodAll_cons r0
  obtain ⟨rfl, rfl, rfl⟩ := trodAll_nil r1
  obtain rfl : args = #[v0, v1] := by cases args; simp_all
  obtain ⟨rfl, rfl⟩ := trodVars_none hV
  have k0 := h0
  have lt0 : ∀ x ∈ p0, x.block < W.heap.size := by obtain ⟨m, hm⟩ := k0; exact DataW.trod_lt m _ _ _ hm
  obtain ⟨z0, rfl, w0⟩ := open_cfg (hval 0 23 v0 rfl rfl) h0
  have k1 := h1
  have lt1 : ∀ x ∈ p1, x.block < W.heap.size := by obtain ⟨m, hm⟩ := k1; exact DataW.trod_lt m _ _ _ hm
  obtain ⟨z1, w1⟩ := open_nums (hval 1 24 v1 rfl rfl) h1
  clear hA0 hval0
  refine (walk_EjectCap z0 w0 z1 v1 W htab w1).mono fun e W' ⟨he, bel⟩ => ?_
  subst he
  exact ⟨_, rfl, _, _, _, [], _, [], hW', trodAll_mk1 (shut_bool Tryd.underlying4 _), (trodAll_cons_mk (Below.trod laidOut (by kernel_rfl) (of_decide_eq_true (by kernel_rfl)) k0 bel lt0) (trodAll_cons_mk (Below.trod laidOut (by kernel_rfl) (of_decide_eq_true (by kernel_rfl)) k1 bel lt1) trodAll_mk0)), rfl, bel.frame _, fun h => by cases h⟩

theorem said_EjectCap : Rows.EjectCapSaid :=
  OpenClaim.holds_of_cond 3 Tryd.f3 rfl rfl rfl rfl rfl rfl rfl ⟨rfl, rfl, rfl, rfl, rfl⟩ rfl rfl rfl rfl rfl (by kernel_rfl) Tryd.func3 (by kernel_rfl)
    (of_decide_eq_true (by kernel_rfl)) (by unfold Func.isWrapper; first | (rw [if_pos (by decide +kernel)]; kernel_rfl) | (rw [if_neg (by decide +kernel)]; exact ⟨rfl, rfl⟩))
    (fun os started H enc _ F => by rw [OpenClaim.pre_eq_preRow]; exact lifted_EjectCap os started H enc F)

theorem plain_EjectCap (f : FuncId) (fn : Func) (hf : Tryd.pinned.checked.prog.funcNamed Rows.ejectCapRow.func = some f) (hfn : Tryd.pinned.checked.prog.funcs[f]? = some fn) :
    false = Tryd.pinned.checked.prog.looks [] ∧ ∀ (j : Nat) t, fn.params[j]? = some t → Tryd.pinned.checked.prog.wantsStandIn t = false := by
  obtain rfl : f = 3 := Option.some.inj ((show Tryd.prog.funcNamed Rows.ejectCapRow.func = some 3 by kernel_rfl).symm.trans hf) |>.symm
  obtain rfl : fn = Tryd.f3 := (Option.some.inj (Tryd.func3.symm.trans hfn)).symm
  refine ⟨by kernel_rfl, fun j t ht => ?_⟩
  rw [Tryd.params3] at ht
  have hm := Array.mem_of_getElem? ht
  simp only [List.mem_toArray, List.mem_cons, List.not_mem_nil, or_false] at hm
  rcases hm with rfl | rfl
  · exact (show Tryd.prog.wantsStandIn 23 = false by kernel_rfl)
  · exact (show Tryd.prog.wantsStandIn 24 = false by kernel_rfl)

/-- The statement. -/
theorem ejectCap_holds : Rows.EjectCapCardSaid :=
  Claim7.holds_tied_plain_at .later [] _ _ _ _ said_EjectCap (fun _ h => by cases h) (by kernel_rfl) (fun _ h => by cases h) ejectCap_row_tie rfl ⟨rfl, rfl⟩ (by kernel_rfl) rfl plain_EjectCap (by kernel_rfl)
#print axioms ejectCap_holds

end Go.Proofs.YtomhmndpjkfppaaDoor

/-
  StreakOnce, for every configuration and numbers: answers that are ok never say yes; Errors failures in a row do, once, and one that is ok between begins anew. No condition on the call.
-/
import Derived.Test.YtjjehjbejldgmaaDoorStreak2
import Derived.Test.YtjjehjbejldgmaaDoorRefMayC
import Derived.Test.YtjjehjbejldgmaaDoorBoolChain
namespace Go.Proofs.YtjjehjbejldgmaaDoor
open Go.ChangeShapes Go.WideShapes Go.ChangeAt Go.RowKit
open Go.ChangeMaps (open_string shut_string)

theorem u_mod300 (f : Int) : ∃ F : Nat, F < 300 ∧ (IntKind.u64.wrap f).tmod 300 = (F : Int) := by
  rw [IntKind.wrap_u64, Int.tmod_eq_emod_of_nonneg (by omega)]
  have h1 := Int.emod_nonneg (f % 18446744073709551616) (show (300 : Int) ≠ 0 by omega)
  have h2 := Int.emod_lt_of_pos (f % 18446744073709551616) (show (0 : Int) < 300 by omega)
  exact ⟨((f % 18446744073709551616) % 300).toNat, by omega, by omega⟩

set_option maxRecDepth 100000 in
set_option maxHeartbeats 16000000 in
theorem walk_StreakOnce (c : Cfg) (hz : c.zone.size ≤ 9223372036854775807) (n : Int) (_ : -9223372036854775808 ≤ n ∧ n ≤ 9223372036854775807) (k : Int) (_ : -9223372036854775808 ≤ k ∧ k ≤ 9223372036854775807) (w : World) (htab : TabC w) :
    Calls Tryd.prog 4 #[.agg c.arr, .int .i64 n, .int .i64 k] w fun e w' => e = .returned (.bool true) ∧ Below w.heap.size w w' := by
  have HT : Hid (TabC w) := htab
  clear htab
  have HI : Hid ((Tryd.prog.info? 23).map (·.size) = some c.arr.size) := arr_inf c
  have HMay : Hid (∀ W : World, Calls Tryd.prog 10 #[.agg c.arr] W fun e w' => e = .returned (.bool (mayC c)) ∧ Below W.heap.size W w') := fun W => rMay_any c W hz
  by_cases hm : mayC c = true
  · rw [hm] at HMay
    obtain ⟨N, hN, eN⟩ := u_mod300 n
    obtain ⟨K, hK, eK⟩ := u_mod300 k
    have HNb : Hid (N < 300) := hN
    have HKb : Hid (K < 300) := hK
    have HAll : ∀ (l : List Bool) (P Q : Int), l.length ≤ 1000000 → runS c.f7 0 l = (P, Q) → ∀ (v : Value) (W : World), TabC W → IsBools W v l → Calls Tryd.prog 9 #[.agg c.arr, .int .i64 0, v] W fun e w' => e = .returned (.tuple #[.int .i64 P, .int .i64 Q]) ∧ Below W.heap.size W w' := fun l P Q hl he v W h hb => by
      have := all_any c 0 l v hl W h hz hb
      rw [known_self hm, show capS 0 = 0 from rfl, he] at this
      exact this
    have HA2 : Hid (∀ (v : Value) (W : World), TabC W → IsBools W v (List.replicate K true) → Calls Tryd.prog 9 #[.agg c.arr, .int .i64 0, v] W fun e w' => e = .returned (.tuple #[.int .i64 0, .int .i64 0]) ∧ Below W.heap.size W w') := HAll _ 0 0 (by simp; omega) (runS_oks _ K)
    obtain ⟨e0, e1⟩ := may_num7 hm
    have HE : Hid (0 ≤ c.f7 ∧ c.f7 ≤ 100) := ⟨e0, e1⟩
    -- what comes of failures alone
    obtain ⟨R, Q, hRQ, hway⟩ : ∃ R Q : Int, runS c.f7 0 (List.replicate N false) = (R, Q) ∧ ((c.f7 = 0 ∧ R = N ∧ Q = 0) ∨ (1 ≤ c.f7 ∧ R = (N : Int).tmod c.f7 ∧ Q = (N : Int).tdiv c.f7 ∧ (0 ≤ R ∧ R ≤ 300) ∧ (0 ≤ Q ∧ Q ≤ 300) ∧ runS c.f7 0 ((List.replicate N false ++ [true]) ++ List.replicate N false) = (R, 2 * Q))) := by
      by_cases h : c.f7 = 0
      · exact ⟨(N : Int), 0, by rw [h]; exact runS_none N (by unfold topS; omega), .inl ⟨h, rfl, rfl⟩⟩
      · have h1 : 1 ≤ c.f7 := by omega
        have h9 : c.f7 ≤ topS := by unfold topS; omega
        refine ⟨(N : Int) % c.f7, (N : Int) / c.f7, runS_fails h1 h9 N, .inr ⟨h1, (Int.tmod_eq_emod_of_nonneg (by omega)).symm, (Int.tdiv_eq_ediv_of_nonneg (by omega)).symm, ⟨Int.emod_nonneg _ h, ?_⟩, ⟨Int.ediv_nonneg (by omega) (by omega), ?_⟩, runS_two h1 h9 N⟩⟩
        · have := Int.emod_lt_of_pos (N : Int) (show 0 < c.f7 by omega); omega
        · have := Int.ediv_le_self c.f7 (show (0 : Int) ≤ (N : Int) by omega); omega
    have HA1 : Hid (∀ (v : Value) (W : World), TabC W → IsBools W v (List.replicate N false) → Calls Tryd.prog 9 #[.agg c.arr, .int .i64 0, v] W fun e w' => e = .returned (.tuple #[.int .i64 R, .int .i64 Q]) ∧ Below W.heap.size W w') := HAll _ R Q (by simp; omega) hRQ
    have HA3' : Hid (1 ≤ c.f7 → ∀ (v : Value) (W : World), TabC W → IsBools W v ((List.replicate N false ++ [true]) ++ List.replicate N false) → Calls Tryd.prog 9 #[.agg c.arr, .int .i64 0, v] W fun e w' => e = .returned (.tuple #[.int .i64 R, .int .i64 (2 * Q)]) ∧ Below W.heap.size W w') := fun h => by
      rcases hway with ⟨h', _⟩ | ⟨_, _, _, _, _, h'⟩
      · omega
      · exact HAll _ R (2 * Q) (by simp; omega) h'
    have HW : Hid ((c.f7 = 0 ∧ R = N ∧ Q = 0) ∨ (1 ≤ c.f7 ∧ R = (N : Int).tmod c.f7 ∧ Q = (N : Int).tdiv c.f7 ∧ (0 ≤ R ∧ R ≤ 300) ∧ (0 ≤ Q ∧ Q ≤ 300))) := by
      rcases hway with h | ⟨a, b, c, d, e, _⟩
      · exact .inl h
      · exact .inr ⟨a, b, c, d, e⟩
    have HC7 : Hid (c.arr[7]? = some (.int .i64 c.f7)) := rfl
    clear HAll hRQ hway e0 e1 hm hz
    generalize c.f7 = E at HA3' HW HC7 HE
    generalize c.arr = cs at HI HMay HA1 HA2 HA3' HC7 ⊢
    have hN5 : IntKind.i64.wrap (N : Int) = (N : Int) := wrap_in (by omega) (by omega)
    have hK5 : IntKind.i64.wrap (K : Int) = (K : Int) := wrap_in (by omega) (by omega)
    have hmN := run_make_row' (P := Tryd.prog) 24 4 (.bool false) 1 Tryd.underlying24 infoBool rfl .i64 .i64 N (by omega) (by omega)
    have hmK := run_make_row' (P := Tryd.prog) 24 4 (.bool false) 1 Tryd.underlying24 infoBool rfl .i64 .i64 K (by omega) (by omega)
    clear hN hK
    go_enter Tryd.func4, Tryd.ntmps4
    go_upto_region 1 with fail
    generalize hW0 : w.alloc _ = W0
    have HC : Hid (CellsAt W0 w.heap.size cs) := by show CellsAt _ _ _; rw [← hW0]; exact heap_alloc_new w _
    have HB : Hid (Below w.heap.size w W0) := by show Below _ _ _; rw [← hW0]; exact (Below.refl _ _).alloc (Nat.le_refl _) _
    clear hW0
    go_wp2_with (first | (refine wpList_load_bx rfl 23 (.tmp 3) rfl w.heap.size rfl 23 _ _ HC.out Tryd.underlying23 rfl HI.out ?_) | fail)
    refine (HMay.out _).mono ?_
    rintro e w1 ⟨rfl, hb⟩
    have HC1 : Hid (CellsAt w1 w.heap.size cs) := HC.out.below hb
    have HB1 : Hid (Below w.heap.size w w1) := HB.out.trans (hb.mono HB.out.size)
    clear hb HC HB HMay
    go_upto_region 5 with fail
    generalize hWa : w1.alloc _ = Wa
    have HFa : Hid (HasBox Wa w1.heap.size 4 ((List.replicate N false).map Value.bool).toArray) := by show HasBox _ _ _ _; rw [← hWa, made_bools, List.map_replicate]; exact hasBox_new w1 _ _
    have HCa : Hid (CellsAt Wa w.heap.size cs) := by show CellsAt _ _ _; rw [← hWa]; exact HasBox.alloc HC1.out _
    have HBa : Hid (Below w.heap.size w Wa) := by show Below _ _ _; rw [← hWa]; exact HB1.out.alloc HB1.out.size _
    have HLt : Hid (w.heap.size < w1.heap.size) := HasBox.lt HC1.out
    clear hWa HC1 HB1
    generalize w1.heap.size = bf at HFa HLt ⊢
    go_upto_region 6 with fail
    generalize hWb : Wa.alloc _ = Wb
    have HOb : Hid (HasBox Wb Wa.heap.size 4 ((setB 0 K).map Value.bool).toArray) := by show HasBox _ _ _ _; rw [← hWb, made_bools, setB_start, List.map_replicate]; exact hasBox_new Wa _ _
    have HFb : Hid (HasBox Wb bf 4 ((List.replicate N false).map Value.bool).toArray) := by show HasBox _ _ _ _; rw [← hWb]; exact HasBox.alloc HFa.out _
    have HCb : Hid (CellsAt Wb w.heap.size cs) := by show CellsAt _ _ _; rw [← hWb]; exact HasBox.alloc HCa.out _
    have HBb : Hid (Below w.heap.size w Wb) := by show Below _ _ _; rw [← hWb]; exact HBa.out.alloc HBa.out.size _
    have HLo : Hid (bf < Wa.heap.size) := HFa.out.lt
    clear hWb HFa HCa HBa eN eK hN5 hK5 hmN hmK
    generalize Wa.heap.size = bo at HOb HLo ⊢
    go_wp2
    go_loopw [34] (fun i wr => ∃ j : Nat, j ≤ K ∧ i = .int .i64 j ∧ HasBox wr bo 4 ((setB j K).map Value.bool).toArray ∧ HasBox wr bf 4 ((List.replicate N false).map Value.bool).toArray ∧ CellsAt wr w.heap.size cs ∧ Below w.heap.size w wr) (fun i _ => K - (intOf i).toNat)
    case atStart => exact ⟨0, Nat.zero_le _, rfl, HOb.out, HFb.out, HCb.out, HBb.out⟩
    case round =>
      obtain ⟨j, hj, rfl, ho, hf, hc, hb⟩ := hrel
      have HO : Hid (HasBox wr bo 4 ((setB j K).map Value.bool).toArray) := ho
      have HF : Hid (HasBox wr bf 4 ((List.replicate N false).map Value.bool).toArray) := hf
      have HC : Hid (CellsAt wr w.heap.size cs) := hc
      have HB : Hid (Below w.heap.size w wr) := hb
      clear ho hf hc hb HOb HFb HCb HBb
      by_cases hlt : j < K
      · have gj : wr.cell? ⟨bo, j, none⟩ = some (.bool false) := (HO.out.cell j).trans (setB_at hlt)
        have fj : wr.frozen? ⟨bo, j, none⟩ = false := HO.out.frozen j
        have hkb := HKb.out
        go_wp2
        have HO2 : Hid (HasBox (wr.setCell ⟨bo, j, none⟩ (.bool true)) bo 4 ((setB (j + 1) K).map Value.bool).toArray) := by show HasBox _ _ _ _; rw [← setB_set hlt]; exact HO.out.set _ _
        have HF2 : Hid (HasBox (wr.setCell ⟨bo, j, none⟩ (.bool true)) bf 4 ((List.replicate N false).map Value.bool).toArray) := HF.out.setOther _ (by have := HLo.out; show bf ≠ bo; omega) _
        have HC2 : Hid (CellsAt (wr.setCell ⟨bo, j, none⟩ (.bool true)) w.heap.size cs) := HasBox.setOther HC.out _ (by have := HLo.out; have := HLt.out; show w.heap.size ≠ bo; omega) _
        have HB2 : Hid (Below w.heap.size w (wr.setCell ⟨bo, j, none⟩ (.bool true))) := HB.out.setCell (by have := HLo.out; have := HLt.out; show w.heap.size ≤ bo; omega) _
        go_roundw
        case rel => exact ⟨j + 1, by omega, by go_num, HO2.out, HF2.out, HC2.out, HB2.out⟩
        case measure => simp [intOf]; omega
      · obtain rfl : j = K := by omega
        rw [setB_end] at HO
        have HBo : Hid (IsBools wr (.slice (some ⟨bo, 0, none⟩) j j) (List.replicate j true)) := by show IsBools _ _ _; have := bools_box HO.out (by have := HKb.out; simp; omega); rwa [List.length_replicate] at this
        have HBf : Hid (IsBools wr (.slice (some ⟨bf, 0, none⟩) N N) (List.replicate N false)) := by show IsBools _ _ _; have := bools_box HF.out (by have := HNb.out; simp; omega); rwa [List.length_replicate] at this
        clear HO HF hj
        go_wp2_with (first | (refine wpList_load_bx rfl 23 (.tmp 3) rfl w.heap.size rfl 23 _ _ HC.out Tryd.underlying23 rfl HI.out ?_) | fail)
        refine (HA1.out _ _ (HT.out.below HB.out) HBf.out).mono ?_
        rintro e w2 ⟨rfl, hb⟩
        have HC2 : Hid (CellsAt w2 w.heap.size cs) := HC.out.below hb
        have HB2 : Hid (Below w.heap.size w w2) := HB.out.trans (hb.mono HB.out.size)
        have HBo2 : Hid (IsBools w2 (.slice (some ⟨bo, 0, none⟩) j j) (List.replicate j true)) := HBo.out.below hb
        have HBf2 : Hid (IsBools w2 (.slice (some ⟨bf, 0, none⟩) N N) (List.replicate N false)) := HBf.out.below hb
        clear hb HC HB HBo HBf HA1
        go_wp2_with (first | (refine wpList_load_bx rfl 23 (.tmp 3) rfl w.heap.size rfl 23 _ _ HC2.out Tryd.underlying23 rfl HI.out ?_) | fail)
        refine (HA2.out _ _ (HT.out.below HB2.out) HBo2.out).mono ?_
        rintro e w3 ⟨rfl, hb⟩
        have HC3 : Hid (CellsAt w3 w.heap.size cs) := HC2.out.below hb
        have HB3 : Hid (Below w.heap.size w w3) := HB2.out.trans (hb.mono HB2.out.size)
        have HF3 : Hid (IsBools w3 (.slice (some ⟨bf, 0, none⟩) N N) (List.replicate N false)) := HBf2.out.below hb
        clear hb HC2 HB2 HBo2 HBf2 HA2
        have g7 : w3.cell? ⟨w.heap.size, 7, none⟩ = some (.int .i64 E) := (HasBox.cell HC3.out 7).trans HC7.out
        rcases HW.out with ⟨rfl, rfl, rfl⟩ | ⟨h1, hR, hQ, hRb, hQb⟩
        · clear HW HA3'
          go_wp2_with fail
          refine (awake11_any _ (HT.out.below HB3.out)).mono ?_
          rintro e w4 ⟨rfl, hb⟩
          have HB4 : Hid (Below w.heap.size w w4) := HB3.out.trans (hb.mono HB3.out.size)
          clear hb HB3 g7
          go_wp2
          go_ret
          exact ⟨rfl, HB4.out⟩
        · have hE0 : ¬ E = 0 := by omega
          have HA3'' : Hid _ := HA3'.out h1
          have HR : Hid (R = (N : Int).tmod E) := hR
          have HQ : Hid (Q = (N : Int).tdiv E) := hQ
          have HQb : Hid (0 ≤ Q ∧ Q ≤ 300) := hQb
          have HRb : Hid (0 ≤ R ∧ R ≤ 300) := hRb
          clear HW HA3' hR hQ hRb hQb h1
          go_upto_region 17 with fail
          obtain ⟨l, hl⟩ : ∃ l, List.replicate N false = l := ⟨_, rfl⟩
          have HLn : Hid (N = l.length) := by show _ = _; rw [← hl, List.length_replicate]
          rw [hl] at HA3'' HF3
          clear hl g7
          have HF0 : Hid (IsRow 1 w3 (.slice (some ⟨bf, 0, none⟩) N N) l.length (l.map Value.bool)) := HF3.out
          have HC0 : Hid (CellsAt w3 w.heap.size cs) := HC3.out
          have HB0 : Hid (Below w.heap.size w w3) := HB3.out
          clear HF3 HC3 HB3
          generalize w3 = W0 at HF0 HC0 HB0 ⊢
          have HA3 : ∀ (W : World) (v : Value), Below W0.heap.size W0 W → IsBools W v ((l ++ [true]) ++ l) → Calls Tryd.prog 9 #[.agg cs, .int .i64 0, v] W fun e w' => e = .returned (.tuple #[.int .i64 R, .int .i64 (2 * Q)]) ∧ Below W.heap.size W w' := fun W v h hb => HA3''.out v W (HT.out.below (HB0.out.trans (h.mono HB0.out.size))) hb
          clear HA3''
          obtain ⟨i0, hi, hz0, hz1, hz2⟩ := info_parts infoBool
          refine wp_region_told [.agg cs, undef, .slice (some ⟨bf, 0, none⟩) N N, undef, undef, undef, .slice (some ⟨bf, 0, none⟩) N N, undef, .tuple #[.int .i64 R, .int .i64 (2 * Q)], .tuple #[.int .i64 R, .int .i64 (2 * Q)], .int .i64 R, .int .i64 (2 * Q), .int .i64 R, .int .i64 (2 * Q)] [1, 3, 4, 5, 7] (fun L T w => Ch W0 l (L 1) (L 3) (L 4) (L 5) (L 7) (T 1) (T 3) (T 4) (T 5) (T 7) w) (by kernel_rfl) (by kernel_rfl) (fun T => Ch.start (Below.refl _ _).drew) ?_ ?_
          · simp only [stepsT]
            refine ⟨fun a W L T hF hd hT hl hn hS => ?_, fun a W L T hF hd hT hl hn hS => ?_, fun a W L T hF hd hT hl hn hS => ?_, fun a W L T hF hd hT hl hn hS => ?_, fun a W L T hF hd hT hl hn hS => ?_, fun a W L T hF hd hT hl hn hS => ?_, fun a W L T hF hd hT hl hn hS => ?_, fun a W L T hF hd hT hl hn hS => ?_, fun a W L T hF hd hT hl hn hS => ?_, fun a W L T hF hd hT hl hn hS => ?_, fun a W L T hF hd hT hl hn hS => ?_, fun a W L T hF hd hT hl hn hS => ?_, fun a W L T hF hd hT hl hn hS => ?_, fun a W L T hF hd hT hl hn hS => ?_, trivial⟩
            all_goals unfold StepT
            · have t3 : a.tmps.getD 3 undef = .pointer (some ⟨w.heap.size, 0, none⟩) := hF.at 3 (by kernel_rfl)
              rw [Array.getD_eq_getD_getElem?] at t3
              refine .inl ⟨rfl, ?_⟩
              rw [run_oload _ _ 23 (.tmp 3) rfl w.heap.size (by simpa [Act.eval] using t3) 23 cs (0, 0) _ (HasBox.below HC0.out hS.below) Tryd.underlying23 rfl HI.out]
              exact ⟨fun _ => rfl, by simpa using hS⟩
            · refine .inl ⟨rfl, ?_⟩
              go_simp
              have hS2 := hS.make1
              simpa [slotV, relUpon] using hS2
            · have t7 : a.tmps.getD 7 undef = .slice (some ⟨bf, 0, none⟩) N N := hF.at 7 (by kernel_rfl)
              rw [Array.getD_eq_getD_getElem?] at t7
              refine .inl ⟨rfl, ?_⟩
              go_simp
              first | exact ⟨rfl, by simpa using hS⟩ | exact ⟨fun _ => rfl, by simpa using hS⟩
            · have t74 : a.tmps.getD 74 undef = T 1 := hT { on := 1, ground := .data } (by simp) rfl
              rw [Array.getD_eq_getD_getElem?] at t74
              have t75 : a.tmps.getD 75 undef = .slice (some ⟨bf, 0, none⟩) N N := hd { on := 2, ground := .data } (by simp) rfl (by rfl)
              rw [Array.getD_eq_getD_getElem?] at t75
              refine .inl ⟨rfl, ?_⟩
              refine rel_oappend a.eval _ (.tmp 74) (.tmp 75) 24 (by rfl) W0.heap.size 4 i0 (.bool false) 1 1 Tryd.underlying24 hi hz0 hz1 hz2 rfl (by decide) (T 1) (0) ([]) (by simpa [Act.eval] using t74) (hS.own1 (hl { on := 1, ground := .data } (by simp) rfl) hn) (.slice (some ⟨bf, 0, none⟩) N N) (l.length) (l.map Value.bool) (by simpa [Act.eval] using t75) (HF0.out.below hS.below) (fun u hu => by obtain ⟨b, _, rfl⟩ := List.mem_map.1 hu; rfl) (by unfold maxLen; have := HLn.out; have := HNb.out; omega) (by have := HLn.out; have := HNb.out; omega) hS.below.size ?_
              intro v' w' h2 h3
              refine ⟨fun h => absurd h (by decide), ?_⟩
              have hS2 := hS.app3 (hl { on := 1, ground := .data } (by simp) rfl) hn (by rw [Nat.zero_add, List.nil_append] at h2; exact h2) h3
              simpa [slotV] using hS2
            · refine .inl ⟨rfl, ?_⟩
              go_simp
              have hS2 := hS.make4
              simpa [slotV, relUpon] using hS2
            · have t76 : a.tmps.getD 76 undef = T 3 := hT { on := 3, ground := .data } (by simp) rfl
              rw [Array.getD_eq_getD_getElem?] at t76
              have t77 : a.tmps.getD 77 undef = T 4 := hT { on := 4, ground := .data } (by simp) rfl
              rw [Array.getD_eq_getD_getElem?] at t77
              refine .inl ⟨rfl, ?_⟩
              refine rel_oappend a.eval _ (.tmp 76) (.tmp 77) 24 (by rfl) W0.heap.size 4 i0 (.bool false) 1 1 Tryd.underlying24 hi hz0 hz1 hz2 rfl (by decide) (T 3) (l.length) (l.map Value.bool) (by simpa [Act.eval] using t76) (hS.thr (hl { on := 3, ground := .data } (by simp) rfl) hn) (T 4) (1) ([.bool true]) (by simpa [Act.eval] using t77) (hS.row4 (hl { on := 4, ground := .data } (by simp) rfl) hn) (by simp [Value.oneCell']) (by unfold maxLen; have := HLn.out; have := HNb.out; omega) (by have := HLn.out; have := HNb.out; omega) hS.below.size ?_
              intro v' w' h2 h3
              refine ⟨fun h => absurd h (by decide), ?_⟩
              have hS2 := hS.app5 (hl { on := 3, ground := .data } (by simp) rfl) (hl { on := 4, ground := .data } (by simp) rfl) hn (by rw [List.map_append]; exact h2) h3
              simpa [slotV] using hS2
            · have t7 : a.tmps.getD 7 undef = .slice (some ⟨bf, 0, none⟩) N N := hF.at 7 (by kernel_rfl)
              rw [Array.getD_eq_getD_getElem?] at t7
              refine .inl ⟨rfl, ?_⟩
              go_simp
              first | exact ⟨rfl, by simpa using hS⟩ | exact ⟨fun _ => rfl, by simpa using hS⟩
            · have t78 : a.tmps.getD 78 undef = T 5 := hT { on := 5, ground := .data } (by simp) rfl
              rw [Array.getD_eq_getD_getElem?] at t78
              have t79 : a.tmps.getD 79 undef = .slice (some ⟨bf, 0, none⟩) N N := hd { on := 6, ground := .data } (by simp) rfl (by rfl)
              rw [Array.getD_eq_getD_getElem?] at t79
              refine .inl ⟨rfl, ?_⟩
              refine rel_oappend a.eval _ (.tmp 78) (.tmp 79) 24 (by rfl) W0.heap.size 4 i0 (.bool false) 1 1 Tryd.underlying24 hi hz0 hz1 hz2 rfl (by decide) (T 5) (l.length + 1) ((l ++ [true]).map Value.bool) (by simpa [Act.eval] using t78) (hS.fiv (hl { on := 5, ground := .data } (by simp) rfl) hn) (.slice (some ⟨bf, 0, none⟩) N N) (l.length) (l.map Value.bool) (by simpa [Act.eval] using t79) (HF0.out.below hS.below) (fun u hu => by obtain ⟨b, _, rfl⟩ := List.mem_map.1 hu; rfl) (by unfold maxLen; have := HLn.out; have := HNb.out; omega) (by have := HLn.out; have := HNb.out; omega) hS.below.size ?_
              intro v' w' h2 h3
              refine ⟨fun h => absurd h (by decide), ?_⟩
              have hS2 := hS.app7 (hl { on := 5, ground := .data } (by simp) rfl) hn (by rw [List.map_append]; exact h2) h3
              simpa [slotV] using hS2
            · have t73 : a.tmps.getD 73 undef = .agg cs := hd { on := 0, ground := .data } (by simp) rfl (by rfl)
              rw [Array.getD_eq_getD_getElem?] at t73
              have t80 : a.tmps.getD 80 undef = T 7 := hT { on := 7, ground := .data } (by simp) rfl
              rw [Array.getD_eq_getD_getElem?] at t80
              refine .inl ⟨rfl, ?_⟩
              go_simp
              exact (HA3 W (T 7) hS.below (hS.sev (hl { on := 7, ground := .data } (by simp) rfl))).mono fun e w2 h => ⟨_, h.1, rfl, by have hS2 := hS.over h.2; simpa using hS2⟩
            · have t81 : a.tmps.getD 81 undef = .tuple #[.int .i64 R, .int .i64 (2 * Q)] := hd { on := 8, ground := .data } (by simp) rfl (by rfl)
              rw [Array.getD_eq_getD_getElem?] at t81
              refine .inl ⟨rfl, ?_⟩
              go_simp
              first | exact ⟨rfl, by simpa using hS⟩ | exact ⟨fun _ => rfl, by simpa using hS⟩
            · have t72 : a.tmps.getD 72 undef = .tuple #[.int .i64 R, .int .i64 (2 * Q)] := hd { on := 9, ground := .data } (by simp) rfl (by rfl)
              rw [Array.getD_eq_getD_getElem?] at t72
              refine .inl ⟨rfl, ?_⟩
              go_simp
              first | exact ⟨rfl, by simpa using hS⟩ | exact ⟨fun _ => rfl, by simpa using hS⟩
            · have t72 : a.tmps.getD 72 undef = .tuple #[.int .i64 R, .int .i64 (2 * Q)] := hd { on := 9, ground := .data } (by simp) rfl (by rfl)
              rw [Array.getD_eq_getD_getElem?] at t72
              refine .inl ⟨rfl, ?_⟩
              go_simp
              first | exact ⟨rfl, by simpa using hS⟩ | exact ⟨fun _ => rfl, by simpa using hS⟩
            · have t82 : a.tmps.getD 82 undef = .int .i64 R := hd { on := 10, ground := .data } (by simp) rfl (by rfl)
              rw [Array.getD_eq_getD_getElem?] at t82
              refine .inl ⟨rfl, ?_⟩
              go_simp
              first | exact ⟨rfl, by simpa using hS⟩ | exact ⟨fun _ => rfl, by simpa using hS⟩
            · have t83 : a.tmps.getD 83 undef = .int .i64 (2 * Q) := hd { on := 11, ground := .data } (by simp) rfl (by rfl)
              rw [Array.getD_eq_getD_getElem?] at t83
              refine .inl ⟨rfl, ?_⟩
              go_simp
              first | exact ⟨rfl, by simpa using hS⟩ | exact ⟨fun _ => rfl, by simpa using hS⟩
          · intro vs L W hL hV hS
            have h12 : vs 12 = .int .i64 R := hV 12 (by decide) (by rfl)
            have h13 : vs 13 = .int .i64 (2 * Q) := hV 13 (by decide) (by rfl)
            simp only [putsV, dstsV, List.foldl, h12, h13, Act.put, List.setIfInBounds_toArray, List.set_cons_succ, List.set_cons_zero]
            have hS1 := hS.below
            clear hS hL hV
            have HCw : Hid (CellsAt W w.heap.size cs) := HC0.out.below hS1
            have HBw : Hid (Below w.heap.size w W) := HB0.out.trans (hS1.mono HB0.out.size)
            clear hS1 HA3 HF0 HC0 HB0 h12 h13
            generalize vs 0 = y0
            generalize vs 1 = y1
            generalize vs 2 = y2
            generalize vs 3 = y3
            generalize vs 4 = y4
            generalize vs 5 = y5
            generalize vs 6 = y6
            generalize vs 7 = y7
            generalize vs 8 = y8
            generalize vs 9 = y9
            generalize vs 10 = y10
            generalize vs 11 = y11
            refine ‹∀ (a : Act) (w : World), Code.wp Tryd.prog (_) _ a w → _› _ _ ?_
            have g7 : W.cell? ⟨w.heap.size, 7, none⟩ = some (.int .i64 E) := (HasBox.cell HCw.out 7).trans HC7.out
            have hq1 : (N : Int).tdiv E = Q := HQ.out.symm
            have hq2 : IntKind.i64.wrap Q = Q := wrap_in (by have := HQb.out; omega) (by have := HQb.out; omega)
            have hq3 : wrap64 Q = Q := by have := HQb.out; unfold wrap64; omega
            have hr1 : (N : Int).tmod E = R := HR.out.symm
            have hr2 : IntKind.i64.wrap R = R := wrap_in (by have := HRb.out; omega) (by have := HRb.out; omega)
            have hq4 : IntKind.i64.wrap (2 * Q) = 2 * Q := wrap_in (by have := HQb.out; omega) (by have := HQb.out; omega)
            have hq5 : wrap64 (2 * Q) = 2 * Q := by have := HQb.out; unfold wrap64; omega
            go_wp2_with fail
            refine (awake11_any _ (HT.out.below HBw.out)).mono ?_
            rintro e w4 ⟨rfl, hb⟩
            have HB4 : Hid (Below w.heap.size w w4) := HBw.out.trans (hb.mono HBw.out.size)
            clear hb HBw g7 hq1 hq2 hq3 hr1 hr2 hq4 hq5
            go_wp2
            go_ret
            exact ⟨rfl, HB4.out⟩
  · have hm' : mayC c = false := by simpa using hm
    rw [hm'] at HMay
    clear hm hm'
    generalize c.arr = cs at HMay HI ⊢
    go_enter Tryd.func4, Tryd.ntmps4
    go_upto_region 1 with fail
    generalize hW0 : w.alloc _ = W0
    have HC : Hid (CellsAt W0 w.heap.size cs) := by show CellsAt _ _ _; rw [← hW0]; exact heap_alloc_new w _
    have HB : Hid (Below w.heap.size w W0) := by show Below _ _ _; rw [← hW0]; exact (Below.refl _ _).alloc (Nat.le_refl _) _
    clear hW0
    go_wp2_with (first | (refine wpList_load_bx rfl 23 (.tmp 3) rfl w.heap.size rfl 23 _ _ HC.out Tryd.underlying23 rfl HI.out ?_) | fail)
    refine (HMay.out _).mono ?_
    rintro e w1 ⟨rfl, hb⟩
    have HB1 : Hid (Below w.heap.size w w1) := HB.out.trans (hb.mono HB.out.size)
    clear hb HC HB HMay
    go_wp2_with fail
    refine (awake11_any _ (HT.out.below HB1.out)).mono ?_
    rintro e w2 ⟨rfl, hb⟩
    have HB2 : Hid (Below w.heap.size w w2) := HB1.out.trans (hb.mono HB1.out.size)
    clear hb HB1
    go_wp2
    go_ret
    exact ⟨rfl, HB2.out⟩

theorem reads_StreakOnce (os : Os) {H : Type} (enc : TypeId × Value → H) : ∃ places, DataW.whole enc Tryd.prog ((laidWorld os).forCall (fun _ _ => 0) ⟨#[], #[.agg #[.int .i64 0, .int .i64 0, .int .i64 0, .int .i64 0, .int .i64 0, .int .i64 0, .int .i64 0, .int .i64 0, .int .i64 0, .int .i64 0, .int .i64 0, .int .i64 0, .int .i64 0, .int .i64 0, .int .i64 0, .bool false, .int .i64 0, .int .i64 0, .int .i64 0, .int .i64 0, .int .i64 0, .string ByteArray.empty, .bool false], .int .i64 0, .int .i64 0], []⟩).memory Tryd.f4.params.toList Rows.streakOnceSpec.vars false (#[.agg #[.int .i64 0, .int .i64 0, .int .i64 0, .int .i64 0, .int .i64 0, .int .i64 0, .int .i64 0, .int .i64 0, .int .i64 0, .int .i64 0, .int .i64 0, .int .i64 0, .int .i64 0, .int .i64 0, .int .i64 0, .bool false, .int .i64 0, .int .i64 0, .int .i64 0, .int .i64 0, .int .i64 0, .string ByteArray.empty, .bool false], .int .i64 0, .int .i64 0] : Array Value).toList 8 = some ([.agg [.lit (.int .i64 0), .lit (.int .i64 0), .lit (.int .i64 0), .lit (.int .i64 0), .lit (.int .i64 0), .lit (.int .i64 0), .lit (.int .i64 0), .lit (.int .i64 0), .lit (.int .i64 0), .lit (.int .i64 0), .lit (.int .i64 0), .lit (.int .i64 0), .lit (.int .i64 0), .lit (.int .i64 0), .lit (.int .i64 0), .lit (.bool false), .lit (.int .i64 0), .lit (.int .i64 0), .lit (.int .i64 0), .lit (.int .i64 0), .lit (.int .i64 0), .lit (.string []), .lit (.bool false)], .lit (.int .i64 0), .lit (.int .i64 0)], [], places) :=
  ⟨[], by kernel_rfl⟩

set_option maxRecDepth 100000 in
theorem lifted_StreakOnce (os : Os) (started : os.Started) (H : Type) (enc : TypeId × Value → H) (F : Stop.Interp) :
    ReturnsInHanded {} Tryd.checked os 4 .any ((OpenSpec.ofChange Rows.streakOnceSpec).preRow enc Tryd.prog Tryd.f4 Rows.streakOnceRow.domain false Rows.streakOnceRow.laid) (((OpenSpec.ofChange Rows.streakOnceSpec).at F).post enc Tryd.prog Tryd.f4 false true false false) := by
  obtain ⟨places, hx⟩ := reads_StreakOnce os enc
  refine returnsInHanded_of_row (C := Tryd.checked) (s := OpenSpec.ofChange Rows.streakOnceSpec) own started (by kernel_rfl) Tryd.func4
    (witness_row_at (enc := enc) (C := Tryd.checked) false (laidWorld os) #[.agg #[.int .i64 0, .int .i64 0, .int .i64 0, .int .i64 0, .int .i64 0, .int .i64 0, .int .i64 0, .int .i64 0, .int .i64 0, .int .i64 0, .int .i64 0, .int .i64 0, .int .i64 0, .int .i64 0, .int .i64 0, .bool false, .int .i64 0, .int .i64 0, .int .i64 0, .int .i64 0, .int .i64 0, .string ByteArray.empty, .bool false], .int .i64 0, .int .i64 0] rfl (by kernel_rfl) (by kernel_rfl) (by kernel_rfl)
      (OpenSpec.preRow_of_cond 8 hx (by kernel_rfl) (fun k hk => by cases hk) (by kernel_rfl) (laid_met os _))) ?_
  intro W base args ds gs before hval0 hW _ _ hsz0 hL _ _
  have htab := table hL
  have hval : ∀ (j : Nat) t v, Tryd.f4.params[j]? = some t → args[j]? = some v → Value.okWide Tryd.prog W .any base t v := hval0
  have hW' := hW
  obtain ⟨p, q, hA0, hV, rfl, hfz, hnd⟩ := hW
  have hA : DataW.TrodAll enc Tryd.prog W 0 (fun _ => true) true Tryd.f4.params.toList args.toList ds p := hA0
  rw [Tryd.params4] at hA hval
  obtain ⟨v0, vs0, d0, ds0, p0, q0, hargs, rfl, rfl, h0, r0⟩ := trodAll_cons hA
  obtain ⟨v1, vs1, d1, ds1, p1, q1, rfl, rfl, rfl, h1, r1⟩ := trodAll_cons r0
  obtain ⟨v2, vs2, d2, ds2, p2, q2, rfl, rfl, rfl, h2, r2⟩ := trodAll_cons r1
  obtain ⟨rfl, rfl, rfl⟩ := trodAll_nil r2
  obtain rfl : args = #[v0, v1, v2] := by cases args; simp_all
  obtain ⟨rfl, rfl⟩ := trodVars_none hV
  have k0 := h0
  have lt0 : ∀ x ∈ p0, x.block < W.heap.size := by obtain ⟨m, hm⟩ := k0; exact DataW.trod_lt m _ _ _ hm
  obtain ⟨z0, rfl, w0⟩ := open_cfg (hval 0 23 v0 rfl rfl) h0
  obtain ⟨a1, rfl, rfl, rfl, w1⟩ := open_int Tryd.underlying3 (hval 1 3 v1 rfl rfl) h1
  obtain ⟨a2, rfl, rfl, rfl, w2⟩ := open_int Tryd.underlying3 (hval 2 3 v2 rfl rfl) h2
  clear hA0 hval0
  refine (walk_StreakOnce z0 w0 a1 (bounds_i64 w1) a2 (bounds_i64 w2) W htab).mono fun e W' ⟨he, bel⟩ => ?_
  subst he
  exact ⟨_, rfl, _, _, _, [], _, [], hW', trodAll_mk1 (shut_bool Tryd.underlying4 _), (trodAll_cons_mk (Below.trod laidOut (by kernel_rfl) (of_decide_eq_true (by kernel_rfl)) k0 bel lt0) (trodAll_cons_mk (shut_int Tryd.underlying3 w1) (trodAll_cons_mk (shut_int Tryd.underlying3 w2) trodAll_mk0))), rfl, bel.frame _, fun h => by cases h⟩

theorem said_StreakOnce : Rows.StreakOnceSaid :=
  OpenClaim.holds_of_cond 4 Tryd.f4 rfl rfl rfl rfl rfl rfl rfl ⟨rfl, rfl, rfl, rfl, rfl⟩ rfl rfl rfl rfl rfl (by kernel_rfl) Tryd.func4 (by kernel_rfl)
    (of_decide_eq_true (by kernel_rfl)) (by unfold Func.isWrapper; first | (rw [if_pos (by decide +kernel)]; kernel_rfl) | (rw [if_neg (by decide +kernel)]; exact ⟨rfl, rfl⟩))
    (fun os started H enc _ F => by rw [OpenClaim.pre_eq_preRow]; exact lifted_StreakOnce os started H enc F)

theorem plain_StreakOnce (f : FuncId) (fn : Func) (hf : Tryd.pinned.checked.prog.funcNamed Rows.streakOnceRow.func = some f) (hfn : Tryd.pinned.checked.prog.funcs[f]? = some fn) :
    false = Tryd.pinned.checked.prog.looks [] ∧ ∀ (j : Nat) t, fn.params[j]? = some t → Tryd.pinned.checked.prog.wantsStandIn t = false := by
  obtain rfl : f = 4 := Option.some.inj ((show Tryd.prog.funcNamed Rows.streakOnceRow.func = some 4 by kernel_rfl).symm.trans hf) |>.symm
  obtain rfl : fn = Tryd.f4 := (Option.some.inj (Tryd.func4.symm.trans hfn)).symm
  refine ⟨by kernel_rfl, fun j t ht => ?_⟩
  rw [Tryd.params4] at ht
  have hm := Array.mem_of_getElem? ht
  simp only [List.mem_toArray, List.mem_cons, List.not_mem_nil, or_false] at hm
  rcases hm with rfl | rfl | rfl
  · exact (show Tryd.prog.wantsStandIn 23 = false by kernel_rfl)
  · exact (show Tryd.prog.wantsStandIn 3 = false by kernel_rfl)
  · exact (show Tryd.prog.wantsStandIn 3 = false by kernel_rfl)

/-- The statement. -/
theorem streakOnce_holds : Rows.StreakOnceCardSaid :=
  Claim7.holds_tied_plain_at .later [] _ _ _ _ said_StreakOnce (fun _ h => by cases h) (by kernel_rfl) (fun _ h => by cases h) streakOnce_row_tie rfl ⟨rfl, rfl⟩ (by kernel_rfl) rfl plain_StreakOnce (by kernel_rfl)
#print axioms streakOnce_holds

end Go.Proofs.YtjjehjbejldgmaaDoor

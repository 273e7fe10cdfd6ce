/-
  BucketAdds, for every row of answers, turn and number: noted one by one it is what it is, in whatever order; Enough and Failing hang on the counts alone. No condition on the call.
-/
import Derived.Test.YthoecpciiphofaaBucketFrame
import Derived.Test.YthoecpciiphofaaRefBucket
import Derived.Test.YthoecpciiphofaaUMod
import Derived.Test.YthoecpciiphofaaRel4
import Derived.Test.YthoecpciiphofaaRel6
namespace Go.Proofs.Ythoecpciiphofaa
open Go.ChangeShapes Go.WideShapes Go.ChangeAt Go.RowKit
open Go.ChangeMaps (open_string shut_string)

theorem gone_enough (l : List Bool) (h : l.length ≤ 1000000000) (m : Int) (hm : 1 ≤ m) : enoughK (gone l l.length) m = decide (m ≤ (l.length : Int)) := by
  unfold enoughK countsK
  rw [gone_may l l.length h]
  show (true && decide (0 < (l.length : Int)) && decide (m ≤ (l.length : Int))) = _
  rw [Bool.true_and, Bool.eq_iff_iff]
  simp only [Bool.and_eq_true, decide_eq_true_eq]
  omega
theorem gone_inK (l : List Bool) (k : Nat) (h : k ≤ 1000000000) : inK (gone l k) := by
  have h1 := gone_bd l k
  have h2 : (gone l k).all = (k : Int) := rfl
  unfold inK
  omega
theorem tmod_nat (a b : Nat) : ((a : Nat) : Int).tmod (b : Int) = ((a % b : Nat) : Int) := by
  rw [Int.tmod_eq_emod_of_nonneg (by omega)]
  rfl

set_option maxRecDepth 100000 in
set_option maxHeartbeats 8000000 in
theorem walk_BucketAdds (l : List Bool) (v : Value) (tn : Int) (_ : -9223372036854775808 ≤ tn ∧ tn ≤ 9223372036854775807) (n : Int) (_ : -9223372036854775808 ≤ n ∧ n ≤ 9223372036854775807) (w : World) (hl : IsBools w v l) :
    Calls Try.prog 6 #[v, .int .i64 tn, .int .i64 n] w fun e w' => e = .returned (.bool true) ∧ Below w.heap.size w w' := by
  obtain ⟨ao, cap, rfl⟩ := hl.shaped
  have HL : Hid (IsBools w (.slice ao l.length cap) l) := hl
  clear hl
  have HA : Hid (∀ W : World, Calls Try.prog 17 #[] W fun e w' => e = .returned (.bool true) ∧ Below W.heap.size W w') := awake12_any
  by_cases h1 : 200 < l.length
  · have h1' : (200 : Int) < (l.length : Int) := by omega
    clear h1 HL
    go_enter Try.func6, Try.ntmps6
    go_wp2_with fail
    refine (HA.out _).mono ?_
    rintro e w1 ⟨rfl, hb⟩
    have HB1 : Hid (Below w.heap.size w w1) := hb
    clear hb
    go_wp2
    go_ret
    exact ⟨rfl, HB1.out⟩
  · have h1' : ¬ (200 : Int) < (l.length : Int) := by omega
    have HLen : Hid (l.length ≤ 200) := by show _ ≤ _; omega
    obtain ⟨F, hF, hFm⟩ := u_modl tn (l.length + 1) (by omega)
    obtain ⟨M0, hM0, hMm⟩ := u_modl n 300 (by omega)
    have hk1 : wrap64 ((l.length : Int) + 1) = (l.length : Int) + 1 := by unfold wrap64; omega
    have hk2 : IntKind.i64.wrap ((l.length : Int) + 1) = (l.length : Int) + 1 := by rw [IntKind.wrap_i64]; omega
    have hk3 : IntKind.u64.wrap ((l.length : Int) + 1) = (l.length : Int) + 1 := by rw [IntKind.wrap_u64]; omega
    have hk4 : (IntKind.u64.wrap tn).tmod ((l.length : Int) + 1) = (F : Int) := by simpa using hFm
    have hk5 : IntKind.i64.wrap (F : Int) = (F : Int) := by rw [IntKind.wrap_i64]; omega
    have hk6 : IntKind.u64.wrap (F : Int) = (F : Int) := by rw [IntKind.wrap_u64]; omega
    have HMm : Hid ((IntKind.u64.wrap n).tmod 300 = (M0 : Int)) := hMm
    have HM0 : Hid (M0 < 300) := hM0
    have HF : Hid (F ≤ l.length) := by show _ ≤ _; omega
    have HTL : Hid ((turned l F).length = l.length) := turned_length l F
    clear h1 hFm hMm hM0 hF
    go_enter Try.func6, Try.ntmps6
    go_upto_region 5 with fail
    generalize hW0 : (w.alloc _).alloc _ = W0
    have HX0 : Hid (HasBox W0 w.heap.size 23 #[.int .i64 0, .int .i64 0]) := by show HasBox _ _ _ _; rw [← hW0]; exact (hasBox_new w _ _).alloc _
    have HY0 : Hid (HasBox W0 (w.heap.size + 1) 23 #[.int .i64 0, .int .i64 0]) := by show HasBox _ _ _ _; rw [← hW0]; exact hasBox_new' _ _ _ _ (by simp)
    have HB0 : Hid (Below w.heap.size w W0) := by show Below _ _ _; rw [← hW0]; exact ((Below.refl _ _).alloc (Nat.le_refl _) _).alloc (by simp) _
    clear hW0 hk1 hk2 hk3 hk4 hk5 hk6
    go_wp2
    go_loopw [25] (fun i wr => ∃ k : Nat, k ≤ l.length ∧ i = .int .i64 k ∧ HasBox wr w.heap.size 23 (bcells (gone l k)) ∧ HasBox wr (w.heap.size + 1) 23 (bcells (gone (turned l F) k)) ∧ Below w.heap.size w wr) (fun i _ => l.length - (intOf i).toNat)
    case atStart => exact ⟨0, Nat.zero_le _, rfl, HX0.out, HY0.out, HB0.out⟩
    case round =>
      obtain ⟨k, hk, rfl, hx, hy, hb⟩ := hrel
      have HX : Hid (HasBox wr w.heap.size 23 (bcells (gone l k))) := hx
      have HY : Hid (HasBox wr (w.heap.size + 1) 23 (bcells (gone (turned l F) k))) := hy
      have HB : Hid (Below w.heap.size w wr) := hb
      have hlen := HLen.out
      clear hx hy hb HX0 HY0 HB0
      by_cases hlt : k < l.length
      · obtain ⟨bl, ol, rfl, hbl, gx⟩ := (HL.out.below HB.out).at k hlt
        obtain ⟨j, hj⟩ : ∃ j, (k + F) % l.length = j := ⟨_, rfl⟩
        have hjl : j < l.length := by rw [← hj]; exact Nat.mod_lt _ (by omega)
        obtain ⟨bl2, ol2, he2, hbl2, gy⟩ := (HL.out.below HB.out).at j hjl
        simp only [Option.some.injEq, Addr.mk.injEq, and_true] at he2
        obtain ⟨rfl, rfl⟩ := he2
        have ey : (turned l F).getD k false = l.getD j false := by rw [turned_at l F k HF.out hlt, hj]
        have HNa : ∀ W : World, Calls Try.prog 7 #[.agg (bcells (gone l k)), .bool (l.getD k false)] W fun e w' => e = .returned (.agg (bcells (gone l (k + 1)))) ∧ Below W.heap.size W w' := fun W => by
          have := kNote_any (gone l k) (l.getD k false) W
          rw [gone_succ l k hlt (by omega)] at this
          exact this
        have HNb : ∀ W : World, Calls Try.prog 7 #[.agg (bcells (gone (turned l F) k)), .bool (l.getD j false)] W fun e w' => e = .returned (.agg (bcells (gone (turned l F) (k + 1)))) ∧ Below W.heap.size W w' := fun W => by
          have := kNote_any (gone (turned l F) k) ((turned l F).getD k false) W
          rw [gone_succ (turned l F) k (by rw [HTL.out]; exact hlt) (by omega), ey] at this
          exact this
        have hFl := HF.out
        have hadd : IntKind.i64.wrap ((k : Int) + (F : Int)) = ((k + F : Nat) : Int) := by rw [IntKind.wrap_i64]; omega
        have hmod : ((k + F : Nat) : Int).tmod (l.length : Int) = (j : Int) := by rw [tmod_nat, hj]
        have hjw : IntKind.i64.wrap (j : Int) = (j : Int) := by rw [IntKind.wrap_i64]; omega
        have hnz : ¬ l = [] := fun e => by rw [e] at hlt; simp at hlt
        obtain ⟨S, hS⟩ : ∃ S : Int, ((k + F : Nat) : Int) = S := ⟨_, rfl⟩
        rw [hS] at hadd hmod
        clear hS
        have hk0 : (0 : Int) ≤ (k : Int) := by omega
        have hk1 : (k : Int) < (l.length : Int) := by omega
        have hj0 : (0 : Int) ≤ (j : Int) := by omega
        have hj1 : (j : Int) < (l.length : Int) := by omega
        clear hj ey hjl
        generalize l.getD k false = x at gx HNa
        generalize l.getD j false = y at gy HNb
        obtain ⟨ca1, has⟩ : ∃ c, bcells (gone l (k + 1)) = c := ⟨_, rfl⟩
        obtain ⟨cb1, hbs⟩ : ∃ c, bcells (gone (turned l F) (k + 1)) = c := ⟨_, rfl⟩
        have Has : Hid (bcells (gone l (k + 1)) = ca1) := has
        have Hbs : Hid (bcells (gone (turned l F) (k + 1)) = cb1) := hbs
        have HI1 : Hid ((Try.prog.info? 23).map (·.size) = some ca1.size) := by show _ = _; rw [← has]; exact infoBucket
        have HI2 : Hid ((Try.prog.info? 23).map (·.size) = some cb1.size) := by show _ = _; rw [← hbs]; exact infoBucket
        have HO1 : Hid (ca1.all (·.oneCell') = true) := by show _ = _; rw [← has]; simp [bcells, Value.oneCell']
        have HO2 : Hid (cb1.all (·.oneCell') = true) := by show _ = _; rw [← hbs]; simp [bcells, Value.oneCell']
        have HS1 : Hid ((bcells (gone l k)).size = ca1.size) := by show _ = _; rw [← has]; rfl
        have HS2 : Hid ((bcells (gone (turned l F) k)).size = cb1.size) := by show _ = _; rw [← hbs]; rfl
        rw [has] at HNa
        rw [hbs] at HNb
        have HIa : Hid ((Try.prog.info? 23).map (·.size) = some (bcells (gone l k)).size) := infoBucket
        have HIb : Hid ((Try.prog.info? 23).map (·.size) = some (bcells (gone (turned l F) k)).size) := infoBucket
        generalize bcells (gone l k) = ca at *
        generalize bcells (gone (turned l F) k) = cb at *
        clear has hbs
        go_upto_region 8 with fail
        have HXa : ∀ W, Below wr.heap.size wr W → HasBox W w.heap.size 23 ca := fun W h => HX.out.below h
        have HXb : ∀ W, Below wr.heap.size wr W → HasBox W (w.heap.size + 1) 23 cb := fun W h => HY.out.below h
        refine wp_region_head 17 (fun W W' => Below W.heap.size W W') (fun jj vv _ => vv = ([.agg ca, .slice (some ⟨bl, ol, none⟩) l.length cap, .int .i64 k, .pointer (some ⟨bl, ol + k, none⟩), .bool x, .agg ca1, .agg cb, .slice (some ⟨bl, ol, none⟩) l.length cap, .int .i64 k, .int .i64 F, .int .i64 S, .slice (some ⟨bl, ol, none⟩) l.length cap, .int .i64 (l.length : Int), .int .i64 (j : Nat), .pointer (some ⟨bl, ol + j, none⟩), .bool y, .agg cb1] : List Value).getD jj undef) (by kernel_rfl) (by kernel_rfl) (Below.refl _ _).drew (fun W => Below.refl _ _) (fun _ _ _ h1 h2 => h1.trans (h2.mono h1.size)) (fun _ _ _ _ h _ => h) ?_ ?_
        · simp only [stepsHead, List.take_succ_cons, List.take_zero]
          refine ⟨fun a W hF hE hd => ?_, fun a W hF hE hd => ?_, fun a W hF hE hd => ?_, fun a W hF hE hd => ?_, fun a W hF hE hd => ?_, fun a W hF hE hd => ?_, fun a W hF hE hd => ?_, fun a W hF hE hd => ?_, fun a W hF hE hd => ?_, fun a W hF hE hd => ?_, fun a W hF hE hd => ?_, fun a W hF hE hd => ?_, fun a W hF hE hd => ?_, fun a W hF hE hd => ?_, fun a W hF hE hd => ?_, fun a W hF hE hd => ?_, fun a W hF hE hd => ?_, trivial⟩
          all_goals unfold StepAt
          · have t8 : a.tmps.getD 8 undef = .pointer (some ⟨w.heap.size, 0, none⟩) := hF.at 8 (by kernel_rfl)
            rw [Array.getD_eq_getD_getElem?] at t8
            refine .inl ⟨rfl, ?_⟩
            rw [run_oload _ _ 23 (.tmp 8) rfl (w.heap.size) (by simpa [Act.eval] using t8) 23 ca (0, 0) _ (HXa W hE) Try.underlying23 rfl HIa.out]
            exact ⟨Below.refl _ _, rfl⟩
          · have t0 : a.tmps.getD 0 undef = .slice (some ⟨bl, ol, none⟩) l.length cap := hF.at 0 (by kernel_rfl)
            rw [Array.getD_eq_getD_getElem?] at t0
            refine .inl ⟨rfl, ?_⟩
            go_simp
            exact ⟨Below.refl _ _, rfl⟩
          · have t10 : a.tmps.getD 10 undef = .int .i64 k := hF.at 10 (by kernel_rfl)
            rw [Array.getD_eq_getD_getElem?] at t10
            refine .inl ⟨rfl, ?_⟩
            go_simp
            exact ⟨Below.refl _ _, rfl⟩
          · have t29 : a.tmps.getD 29 undef = .slice (some ⟨bl, ol, none⟩) l.length cap := hd { on := 1, ground := .data } (by simp) rfl
            rw [Array.getD_eq_getD_getElem?] at t29
            have t30 : a.tmps.getD 30 undef = .int .i64 k := hd { on := 2, ground := .data } (by simp) rfl
            rw [Array.getD_eq_getD_getElem?] at t30
            refine .inl ⟨rfl, ?_⟩
            have h0 := hk0
            have h1 := hk1
            go_simp
            exact ⟨Below.refl _ _, rfl⟩
          · have t31 : a.tmps.getD 31 undef = .pointer (some ⟨bl, ol + k, none⟩) := hd { on := 3, ground := .data } (by simp) rfl
            rw [Array.getD_eq_getD_getElem?] at t31
            refine .inl ⟨rfl, ?_⟩
            have h0 := hE.cell (p := ⟨bl, ol + k, none⟩) hbl |>.trans gx
            go_simp
            exact ⟨Below.refl _ _, rfl⟩
          · have t28 : a.tmps.getD 28 undef = .agg ca := hd { on := 0, ground := .data } (by simp) rfl
            rw [Array.getD_eq_getD_getElem?] at t28
            have t32 : a.tmps.getD 32 undef = .bool x := hd { on := 4, ground := .data } (by simp) rfl
            rw [Array.getD_eq_getD_getElem?] at t32
            refine .inl ⟨rfl, ?_⟩
            go_simp
            exact (HNa W).mono fun e w2 h => ⟨_, h.1, h.2, rfl⟩
          · have t9 : a.tmps.getD 9 undef = .pointer (some ⟨w.heap.size + 1, 0, none⟩) := hF.at 9 (by kernel_rfl)
            rw [Array.getD_eq_getD_getElem?] at t9
            refine .inl ⟨rfl, ?_⟩
            rw [run_oload _ _ 23 (.tmp 9) rfl ((w.heap.size + 1)) (by simpa [Act.eval] using t9) 23 cb (0, 0) _ (HXb W hE) Try.underlying23 rfl HIb.out]
            exact ⟨Below.refl _ _, rfl⟩
          · have t0 : a.tmps.getD 0 undef = .slice (some ⟨bl, ol, none⟩) l.length cap := hF.at 0 (by kernel_rfl)
            rw [Array.getD_eq_getD_getElem?] at t0
            refine .inl ⟨rfl, ?_⟩
            go_simp
            exact ⟨Below.refl _ _, rfl⟩
          · have t10 : a.tmps.getD 10 undef = .int .i64 k := hF.at 10 (by kernel_rfl)
            rw [Array.getD_eq_getD_getElem?] at t10
            refine .inl ⟨rfl, ?_⟩
            go_simp
            exact ⟨Below.refl _ _, rfl⟩
          · have t7 : a.tmps.getD 7 undef = .int .i64 F := hF.at 7 (by kernel_rfl)
            rw [Array.getD_eq_getD_getElem?] at t7
            refine .inl ⟨rfl, ?_⟩
            go_simp
            exact ⟨Below.refl _ _, rfl⟩
          · have t36 : a.tmps.getD 36 undef = .int .i64 k := hd { on := 8, ground := .data } (by simp) rfl
            rw [Array.getD_eq_getD_getElem?] at t36
            have t37 : a.tmps.getD 37 undef = .int .i64 F := hd { on := 9, ground := .data } (by simp) rfl
            rw [Array.getD_eq_getD_getElem?] at t37
            refine .inl ⟨rfl, ?_⟩
            have h0 := hadd
            go_simp
            exact ⟨Below.refl _ _, rfl⟩
          · have t0 : a.tmps.getD 0 undef = .slice (some ⟨bl, ol, none⟩) l.length cap := hF.at 0 (by kernel_rfl)
            rw [Array.getD_eq_getD_getElem?] at t0
            refine .inl ⟨rfl, ?_⟩
            go_simp
            exact ⟨Below.refl _ _, rfl⟩
          · have t39 : a.tmps.getD 39 undef = .slice (some ⟨bl, ol, none⟩) l.length cap := hd { on := 11, ground := .data } (by simp) rfl
            rw [Array.getD_eq_getD_getElem?] at t39
            refine .inl ⟨rfl, ?_⟩
            go_simp
            exact ⟨Below.refl _ _, rfl⟩
          · have t38 : a.tmps.getD 38 undef = .int .i64 S := hd { on := 10, ground := .data } (by simp) rfl
            rw [Array.getD_eq_getD_getElem?] at t38
            have t40 : a.tmps.getD 40 undef = .int .i64 (l.length : Int) := hd { on := 12, ground := .data } (by simp) rfl
            rw [Array.getD_eq_getD_getElem?] at t40
            refine .inl ⟨rfl, ?_⟩
            have h0 := hmod
            have h1 := hnz
            go_simp
            exact ⟨Below.refl _ _, rfl⟩
          · have t35 : a.tmps.getD 35 undef = .slice (some ⟨bl, ol, none⟩) l.length cap := hd { on := 7, ground := .data } (by simp) rfl
            rw [Array.getD_eq_getD_getElem?] at t35
            have t41 : a.tmps.getD 41 undef = .int .i64 (j : Nat) := hd { on := 13, ground := .data } (by simp) rfl
            rw [Array.getD_eq_getD_getElem?] at t41
            refine .inl ⟨rfl, ?_⟩
            have h0 := hj0
            have h1 := hj1
            go_simp
            exact ⟨Below.refl _ _, rfl⟩
          · have t42 : a.tmps.getD 42 undef = .pointer (some ⟨bl, ol + j, none⟩) := hd { on := 14, ground := .data } (by simp) rfl
            rw [Array.getD_eq_getD_getElem?] at t42
            refine .inl ⟨rfl, ?_⟩
            have h0 := hE.cell (p := ⟨bl, ol + j, none⟩) hbl |>.trans gy
            go_simp
            exact ⟨Below.refl _ _, rfl⟩
          · have t34 : a.tmps.getD 34 undef = .agg cb := hd { on := 6, ground := .data } (by simp) rfl
            rw [Array.getD_eq_getD_getElem?] at t34
            have t43 : a.tmps.getD 43 undef = .bool y := hd { on := 15, ground := .data } (by simp) rfl
            rw [Array.getD_eq_getD_getElem?] at t43
            refine .inl ⟨rfl, ?_⟩
            go_simp
            exact (HNb W).mono fun e w2 h => ⟨_, h.1, h.2, rfl⟩
        · intro vs W hE hV
          have h5 : vs 5 = .agg ca1 := hV 5 (by decide)
          have h16 : vs 16 = .agg cb1 := hV 16 (by decide)
          clear hV
          simp only [List.take_succ_cons, List.take_zero, List.drop_succ_cons, List.drop_zero, putsV, dstsV, List.foldl, h5, h16, Act.put, List.setIfInBounds_toArray, List.set_cons_succ, List.set_cons_zero]
          clear h5 h16
          generalize vs 0 = y0
          generalize vs 1 = y1
          generalize vs 2 = y2
          generalize vs 3 = y3
          generalize vs 4 = y4
          generalize vs 6 = y6
          generalize vs 7 = y7
          generalize vs 8 = y8
          generalize vs 9 = y9
          generalize vs 10 = y10
          generalize vs 11 = y11
          generalize vs 12 = y12
          generalize vs 13 = y13
          generalize vs 14 = y14
          generalize vs 15 = y15
          have HXW : Hid (HasBox W w.heap.size 23 ca) := HXa W hE
          have HYW : Hid (HasBox W (w.heap.size + 1) 23 cb) := HXb W hE
          have HBW : Hid (Below w.heap.size w W) := HB.out.trans (hE.mono HB.out.size)
          clear HXa HXb HX HY HB hE HNa HNb gx gy hbl hbl2 hadd hmod hnz hj0 hj1 hk0 hk1
          go_wp2_with (first | (refine wpList_store_row rfl 23 (.tmp 8) (.tmp 33) rfl w.heap.size ca1 rfl rfl 23 _ HXW.out HI1.out HS1.out HO1.out ?_) | (refine wpList_store_row rfl 23 (.tmp 9) (.tmp 44) rfl (w.heap.size + 1) cb1 rfl rfl 23 _ (HYW.out.rowOther (by omega)) HI2.out HS2.out HO2.out ?_) | fail)
          have HX2 : Hid (HasBox ((W.setRow w.heap.size ca1).setRow (w.heap.size + 1) cb1) w.heap.size 23 ca1) := HasBox.rowOther HXW.out.row (by omega)
          have HY2 : Hid (HasBox ((W.setRow w.heap.size ca1).setRow (w.heap.size + 1) cb1) (w.heap.size + 1) 23 cb1) := HasBox.row (HYW.out.rowOther (by omega))
          have HB2 : Hid (Below w.heap.size w ((W.setRow w.heap.size ca1).setRow (w.heap.size + 1) cb1)) := below_setRow (below_setRow HBW.out (Nat.le_refl _) _) (by omega) _
          clear HXW HYW HBW
          generalize (W.setRow _ _).setRow _ _ = W2 at HX2 HY2 HB2 ⊢
          go_roundw
          case rel => exact ⟨k + 1, by omega, by go_num, by rw [Has.out]; exact HX2.out, by rw [Hbs.out]; exact HY2.out, HB2.out⟩
          case measure => simp [intOf]; omega
      · have hk2 : k = l.length := by omega
        subst hk2
        rw [gone_turned] at HY
        obtain ⟨M, hM⟩ : ∃ M : Int, 1 + (M0 : Int) = M := ⟨_, rfl⟩
        have hM0 := HM0.out
        have hm1 := HMm.out
        have hm2 : IntKind.i64.wrap (M0 : Int) = (M0 : Int) := by rw [IntKind.wrap_i64]; omega
        have hm3 : IntKind.i64.wrap M = M := by rw [IntKind.wrap_i64]; omega
        have hm4 : IntKind.u64.wrap (M0 : Int) = (M0 : Int) := by rw [IntKind.wrap_u64]; omega
        have HEn : Hid (∀ W : World, Calls Try.prog 13 #[.agg (bcells (gone l l.length)), .int .i64 M] W fun e w' => e = .returned (.bool (decide (M ≤ (l.length : Int)))) ∧ Below W.heap.size W w') := fun W => by
          have := kEnough_any (gone l l.length) M W
          rw [gone_enough l (by omega) M (by omega)] at this
          exact this
        obtain ⟨R, hR⟩ : ∃ R, rateK (gone l l.length) = R := ⟨_, rfl⟩
        have HR : Hid (∀ W : World, Calls Try.prog 11 #[.agg (bcells (gone l l.length))] W fun e w' => e = .returned (.int .i64 R) ∧ Below W.heap.size W w') := fun W => by
          have := kRate_any (gone l l.length) (gone_inK l _ (by omega)) W
          rw [hR] at this
          exact this
        have HrR : Hid (∀ W : World, Calls Try.prog 12 #[.agg (bcells (gone l l.length))] W fun e w' => e = .returned (.int .i64 R) ∧ Below W.heap.size W w') := fun W => by
          have := rkRate_any (gone l l.length) W
          rw [hR] at this
          exact this
        have HEq : Hid (∀ W : World, (binOp .eql 23 (.agg (bcells (gone l l.length))) (.agg (bcells (gone l l.length)))).run Try.prog W = .ok (.bool true) W) := run_eqK_same _
        have HI : Hid ((Try.prog.info? 23).map (·.size) = some (bcells (gone l l.length)).size) := infoBucket
        have HC1 : Hid ((bcells (gone l l.length))[1]? = some (.int .i64 (l.length : Int))) := rfl
        clear hR HTL HF hlt hk
        generalize bcells (gone l l.length) = cs at HX HY HEn HR HrR HEq HI HC1
        go_upto_region 11 with fail
        clear hM hm1 hm2 hm3 hm4
        have HXa : ∀ W, Below wr.heap.size wr W → HasBox W w.heap.size 23 cs := fun W h => HX.out.below h
        have HXb : ∀ W, Below wr.heap.size wr W → HasBox W (w.heap.size + 1) 23 cs := fun W h => HY.out.below h
        refine wp_region_mp ([eqP (.agg cs), eqP (.agg cs), eqP (.bool true), eqP (.bool true), eqP (.pointer (some ⟨w.heap.size, 1, none⟩)), eqP (.int .i64 (l.length : Int)), eqP (.slice ao l.length cap), eqP (.int .i64 (l.length : Int)), eqP (.bool true), eqP (.bool true), eqP (.bool true), eqP (.agg cs), eqP (.int .i64 M), eqP (.bool (decide (M ≤ (l.length : Int)))), eqP (.slice ao l.length cap), eqP (.int .i64 (l.length : Int)), eqP (.int .i64 M), eqP (.bool (decide (M ≤ (l.length : Int)))), eqP (.bool true), eqP (.bool true), eqP (.bool true), eqP (.agg cs), eqP (.int .i64 R), eqP (.agg cs), eqP (.int .i64 R), eqP (.bool true), eqP (.bool true), eqP (.bool true), eqP (.bool true), eqP (.bool true), eqP (.bool true)]) (by kernel_rfl) (by kernel_rfl) ?_ ?_
        · simp only [stepsAll3]
          refine ⟨fun a W hF hE hd => ?_, fun a W hF hE hd => ?_, fun a W hF hE hd => ?_, fun a W hF hE hd => ?_, fun a W hF hE hd => ?_, fun a W hF hE hd => ?_, fun a W hF hE hd => ?_, fun a W hF hE hd => ?_, fun a W hF hE hd => ?_, fun a W hF hE hd => ?_, fun a W hF hE hd => ?_, fun a W hF hE hd => ?_, fun a W hF hE hd => ?_, fun a W hF hE hd => ?_, fun a W hF hE hd => ?_, fun a W hF hE hd => ?_, fun a W hF hE hd => ?_, fun a W hF hE hd => ?_, fun a W hF hE hd => ?_, fun a W hF hE hd => ?_, fun a W hF hE hd => ?_, fun a W hF hE hd => ?_, fun a W hF hE hd => ?_, fun a W hF hE hd => ?_, fun a W hF hE hd => ?_, fun a W hF hE hd => ?_, fun a W hF hE hd => ?_, fun a W hF hE hd => ?_, fun a W hF hE hd => ?_, fun a W hF hE hd => ?_, fun a W hF hE hd => ?_, trivial⟩
          all_goals unfold StepAt
          · have t8 : a.tmps.getD 8 undef = .pointer (some ⟨w.heap.size, 0, none⟩) := hF.at 8 (by kernel_rfl)
            rw [Array.getD_eq_getD_getElem?] at t8
            refine .inl ⟨rfl, ?_⟩
            rw [run_oload _ _ 23 (.tmp 8) rfl w.heap.size (by simpa [Act.eval] using t8) 23 cs (0, 0) _ (HXa W hE) Try.underlying23 rfl HI.out]
            exact ⟨Below.refl _ _, rfl⟩
          · have t9 : a.tmps.getD 9 undef = .pointer (some ⟨w.heap.size + 1, 0, none⟩) := hF.at 9 (by kernel_rfl)
            rw [Array.getD_eq_getD_getElem?] at t9
            refine .inl ⟨rfl, ?_⟩
            rw [run_oload _ _ 23 (.tmp 9) rfl (w.heap.size + 1) (by simpa [Act.eval] using t9) 23 cs (0, 0) _ (HXb W hE) Try.underlying23 rfl HI.out]
            exact ⟨Below.refl _ _, rfl⟩
          · have t51 : a.tmps.getD 51 undef = .agg cs := hd { on := 0, ground := .data } (by simp) rfl
            rw [Array.getD_eq_getD_getElem?] at t51
            have t52 : a.tmps.getD 52 undef = .agg cs := hd { on := 1, ground := .data } (by simp) rfl
            rw [Array.getD_eq_getD_getElem?] at t52
            refine .inl ⟨rfl, ?_⟩
            have heq := HEq.out
            have hgd := guard_bucket
            go_simp
            exact ⟨Below.refl _ _, rfl⟩
          · have t53 : a.tmps.getD 53 undef = .bool true := hd { on := 2, ground := .data } (by simp) rfl
            rw [Array.getD_eq_getD_getElem?] at t53
            refine .inl ⟨rfl, ?_⟩
            go_simp
            exact ⟨Below.refl _ _, rfl⟩
          · have t8 : a.tmps.getD 8 undef = .pointer (some ⟨w.heap.size, 0, none⟩) := hF.at 8 (by kernel_rfl)
            rw [Array.getD_eq_getD_getElem?] at t8
            have g54 : a.eval (.tmp 54) = .bool true := hd { on := 3, ground := .guard } (by simp) rfl
            refine .inl ⟨(by simp only [Region.wanted]; rw [yielded_of (d := 54) (by rfl) g54]; rfl), ?_⟩
            clear g54
            go_simp
            exact ⟨Below.refl _ _, rfl⟩
          · have t55 : a.tmps.getD 55 undef = .pointer (some ⟨w.heap.size, 1, none⟩) := hd { on := 4, ground := .data } (by simp) rfl
            rw [Array.getD_eq_getD_getElem?] at t55
            have g54 : a.eval (.tmp 54) = .bool true := hd { on := 3, ground := .guard } (by simp) rfl
            refine .inl ⟨(by simp only [Region.wanted]; rw [yielded_of (d := 54) (by rfl) g54]; rfl), ?_⟩
            clear g54
            have h0 := (HXa W hE).cell 1 |>.trans HC1.out
            go_simp
            exact ⟨Below.refl _ _, rfl⟩
          · have t0 : a.tmps.getD 0 undef = .slice ao l.length cap := hF.at 0 (by kernel_rfl)
            rw [Array.getD_eq_getD_getElem?] at t0
            have g54 : a.eval (.tmp 54) = .bool true := hd { on := 3, ground := .guard } (by simp) rfl
            refine .inl ⟨(by simp only [Region.wanted]; rw [yielded_of (d := 54) (by rfl) g54]; rfl), ?_⟩
            clear g54
            go_simp
            exact ⟨Below.refl _ _, rfl⟩
          · have t57 : a.tmps.getD 57 undef = .slice ao l.length cap := hd { on := 6, ground := .data } (by simp) rfl
            rw [Array.getD_eq_getD_getElem?] at t57
            have g54 : a.eval (.tmp 54) = .bool true := hd { on := 3, ground := .guard } (by simp) rfl
            refine .inl ⟨(by simp only [Region.wanted]; rw [yielded_of (d := 54) (by rfl) g54]; rfl), ?_⟩
            clear g54
            go_simp
            exact ⟨Below.refl _ _, rfl⟩
          · have t56 : a.tmps.getD 56 undef = .int .i64 (l.length : Int) := hd { on := 5, ground := .data } (by simp) rfl
            rw [Array.getD_eq_getD_getElem?] at t56
            have t58 : a.tmps.getD 58 undef = .int .i64 (l.length : Int) := hd { on := 7, ground := .data } (by simp) rfl
            rw [Array.getD_eq_getD_getElem?] at t58
            have g54 : a.eval (.tmp 54) = .bool true := hd { on := 3, ground := .guard } (by simp) rfl
            refine .inl ⟨(by simp only [Region.wanted]; rw [yielded_of (d := 54) (by rfl) g54]; rfl), ?_⟩
            clear g54
            go_simp
            exact ⟨Below.refl _ _, rfl⟩
          · have t54 : a.tmps.getD 54 undef = .bool true := hd { on := 3, ground := .data } (by simp) rfl
            rw [Array.getD_eq_getD_getElem?] at t54
            have t59 : a.tmps.getD 59 undef = .bool true := hd { on := 8, ground := .data } (by simp) rfl
            rw [Array.getD_eq_getD_getElem?] at t59
            refine .inl ⟨rfl, ?_⟩
            go_simp
            exact ⟨Below.refl _ _, rfl⟩
          · have t60 : a.tmps.getD 60 undef = .bool true := hd { on := 9, ground := .data } (by simp) rfl
            rw [Array.getD_eq_getD_getElem?] at t60
            refine .inl ⟨rfl, ?_⟩
            go_simp
            exact ⟨Below.refl _ _, rfl⟩
          · have t8 : a.tmps.getD 8 undef = .pointer (some ⟨w.heap.size, 0, none⟩) := hF.at 8 (by kernel_rfl)
            rw [Array.getD_eq_getD_getElem?] at t8
            have g61 : a.eval (.tmp 61) = .bool true := hd { on := 10, ground := .guard } (by simp) rfl
            refine .inl ⟨(by simp only [Region.wanted]; rw [yielded_of (d := 61) (by rfl) g61]; rfl), ?_⟩
            clear g61
            rw [run_oload _ _ 23 (.tmp 8) rfl w.heap.size (by simpa [Act.eval] using t8) 23 cs (0, 0) _ (HXa W hE) Try.underlying23 rfl HI.out]
            exact ⟨Below.refl _ _, rfl⟩
          · have t2 : a.tmps.getD 2 undef = .int .i64 M := hF.at 2 (by kernel_rfl)
            rw [Array.getD_eq_getD_getElem?] at t2
            have g61 : a.eval (.tmp 61) = .bool true := hd { on := 10, ground := .guard } (by simp) rfl
            refine .inl ⟨(by simp only [Region.wanted]; rw [yielded_of (d := 61) (by rfl) g61]; rfl), ?_⟩
            clear g61
            go_simp
            exact ⟨Below.refl _ _, rfl⟩
          · have t62 : a.tmps.getD 62 undef = .agg cs := hd { on := 11, ground := .data } (by simp) rfl
            rw [Array.getD_eq_getD_getElem?] at t62
            have t63 : a.tmps.getD 63 undef = .int .i64 M := hd { on := 12, ground := .data } (by simp) rfl
            rw [Array.getD_eq_getD_getElem?] at t63
            have g61 : a.eval (.tmp 61) = .bool true := hd { on := 10, ground := .guard } (by simp) rfl
            refine .inl ⟨(by simp only [Region.wanted]; rw [yielded_of (d := 61) (by rfl) g61]; rfl), ?_⟩
            clear g61
            go_simp
            exact (HEn.out W).mono fun e w2 h => ⟨_, h.1, h.2, rfl⟩
          · have t0 : a.tmps.getD 0 undef = .slice ao l.length cap := hF.at 0 (by kernel_rfl)
            rw [Array.getD_eq_getD_getElem?] at t0
            have g61 : a.eval (.tmp 61) = .bool true := hd { on := 10, ground := .guard } (by simp) rfl
            refine .inl ⟨(by simp only [Region.wanted]; rw [yielded_of (d := 61) (by rfl) g61]; rfl), ?_⟩
            clear g61
            go_simp
            exact ⟨Below.refl _ _, rfl⟩
          · have t65 : a.tmps.getD 65 undef = .slice ao l.length cap := hd { on := 14, ground := .data } (by simp) rfl
            rw [Array.getD_eq_getD_getElem?] at t65
            have g61 : a.eval (.tmp 61) = .bool true := hd { on := 10, ground := .guard } (by simp) rfl
            refine .inl ⟨(by simp only [Region.wanted]; rw [yielded_of (d := 61) (by rfl) g61]; rfl), ?_⟩
            clear g61
            go_simp
            exact ⟨Below.refl _ _, rfl⟩
          · have t2 : a.tmps.getD 2 undef = .int .i64 M := hF.at 2 (by kernel_rfl)
            rw [Array.getD_eq_getD_getElem?] at t2
            have g61 : a.eval (.tmp 61) = .bool true := hd { on := 10, ground := .guard } (by simp) rfl
            refine .inl ⟨(by simp only [Region.wanted]; rw [yielded_of (d := 61) (by rfl) g61]; rfl), ?_⟩
            clear g61
            go_simp
            exact ⟨Below.refl _ _, rfl⟩
          · have t66 : a.tmps.getD 66 undef = .int .i64 (l.length : Int) := hd { on := 15, ground := .data } (by simp) rfl
            rw [Array.getD_eq_getD_getElem?] at t66
            have t67 : a.tmps.getD 67 undef = .int .i64 M := hd { on := 16, ground := .data } (by simp) rfl
            rw [Array.getD_eq_getD_getElem?] at t67
            have g61 : a.eval (.tmp 61) = .bool true := hd { on := 10, ground := .guard } (by simp) rfl
            refine .inl ⟨(by simp only [Region.wanted]; rw [yielded_of (d := 61) (by rfl) g61]; rfl), ?_⟩
            clear g61
            go_simp
            exact ⟨Below.refl _ _, rfl⟩
          · have t64 : a.tmps.getD 64 undef = .bool (decide (M ≤ (l.length : Int))) := hd { on := 13, ground := .data } (by simp) rfl
            rw [Array.getD_eq_getD_getElem?] at t64
            have t68 : a.tmps.getD 68 undef = .bool (decide (M ≤ (l.length : Int))) := hd { on := 17, ground := .data } (by simp) rfl
            rw [Array.getD_eq_getD_getElem?] at t68
            have g61 : a.eval (.tmp 61) = .bool true := hd { on := 10, ground := .guard } (by simp) rfl
            refine .inl ⟨(by simp only [Region.wanted]; rw [yielded_of (d := 61) (by rfl) g61]; rfl), ?_⟩
            clear g61
            go_simp
            exact ⟨Below.refl _ _, rfl⟩
          · have t61 : a.tmps.getD 61 undef = .bool true := hd { on := 10, ground := .data } (by simp) rfl
            rw [Array.getD_eq_getD_getElem?] at t61
            have t69 : a.tmps.getD 69 undef = .bool true := hd { on := 18, ground := .data } (by simp) rfl
            rw [Array.getD_eq_getD_getElem?] at t69
            refine .inl ⟨rfl, ?_⟩
            go_simp
            exact ⟨Below.refl _ _, rfl⟩
          · have t70 : a.tmps.getD 70 undef = .bool true := hd { on := 19, ground := .data } (by simp) rfl
            rw [Array.getD_eq_getD_getElem?] at t70
            refine .inl ⟨rfl, ?_⟩
            go_simp
            exact ⟨Below.refl _ _, rfl⟩
          · have t8 : a.tmps.getD 8 undef = .pointer (some ⟨w.heap.size, 0, none⟩) := hF.at 8 (by kernel_rfl)
            rw [Array.getD_eq_getD_getElem?] at t8
            have g71 : a.eval (.tmp 71) = .bool true := hd { on := 20, ground := .guard } (by simp) rfl
            refine .inl ⟨(by simp only [Region.wanted]; rw [yielded_of (d := 71) (by rfl) g71]; rfl), ?_⟩
            clear g71
            rw [run_oload _ _ 23 (.tmp 8) rfl w.heap.size (by simpa [Act.eval] using t8) 23 cs (0, 0) _ (HXa W hE) Try.underlying23 rfl HI.out]
            exact ⟨Below.refl _ _, rfl⟩
          · have t72 : a.tmps.getD 72 undef = .agg cs := hd { on := 21, ground := .data } (by simp) rfl
            rw [Array.getD_eq_getD_getElem?] at t72
            have g71 : a.eval (.tmp 71) = .bool true := hd { on := 20, ground := .guard } (by simp) rfl
            refine .inl ⟨(by simp only [Region.wanted]; rw [yielded_of (d := 71) (by rfl) g71]; rfl), ?_⟩
            clear g71
            go_simp
            exact (HR.out W).mono fun e w2 h => ⟨_, h.1, h.2, rfl⟩
          · have t9 : a.tmps.getD 9 undef = .pointer (some ⟨w.heap.size + 1, 0, none⟩) := hF.at 9 (by kernel_rfl)
            rw [Array.getD_eq_getD_getElem?] at t9
            have g71 : a.eval (.tmp 71) = .bool true := hd { on := 20, ground := .guard } (by simp) rfl
            refine .inl ⟨(by simp only [Region.wanted]; rw [yielded_of (d := 71) (by rfl) g71]; rfl), ?_⟩
            clear g71
            rw [run_oload _ _ 23 (.tmp 9) rfl (w.heap.size + 1) (by simpa [Act.eval] using t9) 23 cs (0, 0) _ (HXb W hE) Try.underlying23 rfl HI.out]
            exact ⟨Below.refl _ _, rfl⟩
          · have t74 : a.tmps.getD 74 undef = .agg cs := hd { on := 23, ground := .data } (by simp) rfl
            rw [Array.getD_eq_getD_getElem?] at t74
            have g71 : a.eval (.tmp 71) = .bool true := hd { on := 20, ground := .guard } (by simp) rfl
            refine .inl ⟨(by simp only [Region.wanted]; rw [yielded_of (d := 71) (by rfl) g71]; rfl), ?_⟩
            clear g71
            go_simp
            exact (HrR.out W).mono fun e w2 h => ⟨_, h.1, h.2, rfl⟩
          · have t73 : a.tmps.getD 73 undef = .int .i64 R := hd { on := 22, ground := .data } (by simp) rfl
            rw [Array.getD_eq_getD_getElem?] at t73
            have t75 : a.tmps.getD 75 undef = .int .i64 R := hd { on := 24, ground := .data } (by simp) rfl
            rw [Array.getD_eq_getD_getElem?] at t75
            have g71 : a.eval (.tmp 71) = .bool true := hd { on := 20, ground := .guard } (by simp) rfl
            refine .inl ⟨(by simp only [Region.wanted]; rw [yielded_of (d := 71) (by rfl) g71]; rfl), ?_⟩
            clear g71
            go_simp
            exact ⟨Below.refl _ _, rfl⟩
          · have t71 : a.tmps.getD 71 undef = .bool true := hd { on := 20, ground := .data } (by simp) rfl
            rw [Array.getD_eq_getD_getElem?] at t71
            have t76 : a.tmps.getD 76 undef = .bool true := hd { on := 25, ground := .data } (by simp) rfl
            rw [Array.getD_eq_getD_getElem?] at t76
            refine .inl ⟨rfl, ?_⟩
            go_simp
            exact ⟨Below.refl _ _, rfl⟩
          · have t77 : a.tmps.getD 77 undef = .bool true := hd { on := 26, ground := .data } (by simp) rfl
            rw [Array.getD_eq_getD_getElem?] at t77
            refine .inl ⟨rfl, ?_⟩
            go_simp
            exact ⟨Below.refl _ _, rfl⟩
          · have g78 : a.eval (.tmp 78) = .bool true := hd { on := 27, ground := .guard } (by simp) rfl
            refine .inl ⟨(by simp only [Region.wanted]; rw [yielded_of (d := 78) (by rfl) g78]; rfl), ?_⟩
            clear g78
            go_simp
            exact (HA.out W).mono fun e w2 h => ⟨_, h.1, h.2, rfl⟩
          · have t78 : a.tmps.getD 78 undef = .bool true := hd { on := 27, ground := .data } (by simp) rfl
            rw [Array.getD_eq_getD_getElem?] at t78
            have t79 : a.tmps.getD 79 undef = .bool true := hd { on := 28, ground := .data } (by simp) rfl
            rw [Array.getD_eq_getD_getElem?] at t79
            refine .inl ⟨rfl, ?_⟩
            go_simp
            exact ⟨Below.refl _ _, rfl⟩
          · have t80 : a.tmps.getD 80 undef = .bool true := hd { on := 29, ground := .data } (by simp) rfl
            rw [Array.getD_eq_getD_getElem?] at t80
            refine .inl ⟨rfl, ?_⟩
            go_simp
            exact ⟨Below.refl _ _, rfl⟩
        · intro vs W hE hV
          have h30 : vs 30 = .bool true := hV 30 (by decide)
          have HBf : Hid (Below w.heap.size w W) := HB.out.trans (hE.mono HB.out.size)
          clear hV hE
          simp only [putsV, dstsV, List.foldl, h30, Act.put, List.setIfInBounds_toArray, List.set_cons_succ, List.set_cons_zero]
          clear h30
          generalize vs 0 = y0
          generalize vs 1 = y1
          generalize vs 2 = y2
          generalize vs 3 = y3
          generalize vs 4 = y4
          generalize vs 5 = y5
          generalize vs 6 = y6
          generalize vs 7 = y7
          generalize vs 8 = y8
          generalize vs 9 = y9
          generalize vs 10 = y10
          generalize vs 11 = y11
          generalize vs 12 = y12
          generalize vs 13 = y13
          generalize vs 14 = y14
          generalize vs 15 = y15
          generalize vs 16 = y16
          generalize vs 17 = y17
          generalize vs 18 = y18
          generalize vs 19 = y19
          generalize vs 20 = y20
          generalize vs 21 = y21
          generalize vs 22 = y22
          generalize vs 23 = y23
          generalize vs 24 = y24
          generalize vs 25 = y25
          generalize vs 26 = y26
          generalize vs 27 = y27
          generalize vs 28 = y28
          generalize vs 29 = y29
          refine ‹∀ (a : Act) (w : World), Code.wp Try.prog Code.ret _ a w → _› _ _ ?_
          clear HXa HXb HX HY HB
          go_wp2
          go_ret
          exact ⟨rfl, HBf.out⟩

set_option maxRecDepth 100000 in
theorem lifted_BucketAdds (os : Os) (started : os.Started) (H : Type) (enc : TypeId × Value → H) :
    ReturnsInHanded {} Try.checked os 6 .any (Rows.bucketAddsSpec.pre6 enc Try.prog Try.f6 Rows.bucketAddsRow.domain false) (Rows.bucketAddsSpec.post enc Try.prog Try.f6 false true false false) := by
  refine returnsInHanded_of_change (C := Try.checked) own started (by kernel_rfl) Try.func6
    (ChangeSpec.witness6 (enc := enc) (C := Try.checked) false ⟨#[], #[.slice none 0 0, .int .i64 0, .int .i64 0], []⟩ 8 (by kernel_rfl) (by kernel_rfl) (by kernel_rfl) (by kernel_rfl)) ?_
  intro W base args ds gs before hval0 hW hcnd _
  have hval : ∀ (j : Nat) t v, Try.f6.params[j]? = some t → args[j]? = some v → Value.okWide Try.prog W .any base t v := hval0
  have hW' := hW
  obtain ⟨p, q, hA0, hV, rfl, hfz, hnd⟩ := hW
  have hA : DataW.TrodAll enc Try.prog W 0 (fun _ => true) true Try.f6.params.toList args.toList ds p := hA0
  rw [Try.params6] at hA hval
  obtain ⟨v0, vs0, d0, ds0, p0, q0, hargs, rfl, rfl, h0, r0⟩ := trodAll_cons hA
  obtain ⟨v1, vs1, d1, ds1, p1, q1, rfl, rfl, rfl, h1, r1⟩ := trodAll_cons r0
  obtain ⟨v2, vs2, d2, ds2, p2, q2, rfl, rfl, rfl, h2, r2⟩ := trodAll_cons r1
  obtain ⟨rfl, rfl, rfl⟩ := trodAll_nil r2
  obtain rfl : args = #[v0, v1, v2] := by cases args; simp_all
  obtain ⟨rfl, rfl⟩ := trodVars_none hV
  have k0 := h0
  have lt0 : ∀ x ∈ p0, x.block < W.heap.size := by obtain ⟨m, hm⟩ := k0; exact DataW.trod_lt m _ _ _ hm
  obtain ⟨z0, w0⟩ := open_bools (hval 0 30 v0 rfl rfl) h0
  obtain ⟨a1, rfl, rfl, rfl, w1⟩ := open_int Try.underlying3 (hval 1 3 v1 rfl rfl) h1
  obtain ⟨a2, rfl, rfl, rfl, w2⟩ := open_int Try.underlying3 (hval 2 3 v2 rfl rfl) h2
  clear hA0 hval0
  refine (walk_BucketAdds z0 v0 a1 (wf_i64 w1) a2 (wf_i64 w2) W w0).mono fun e W' ⟨he, bel⟩ => ?_
  subst he
  exact ⟨_, rfl, _, _, _, [], _, [], hW', trodAll_mk1 (shut_bool Try.underlying4 _), (trodAll_cons_mk (Below.trod laidOut (by kernel_rfl) (of_decide_eq_true (by kernel_rfl)) k0 bel lt0) (trodAll_cons_mk (shut_int Try.underlying3 w1) (trodAll_cons_mk (shut_int Try.underlying3 w2) trodAll_mk0))), rfl, bel.frame _, fun h => by cases h⟩

theorem over_BucketAdds : Rows.bucketAddsRow.holds Try.pinned (OpenSpec.ofChange Rows.bucketAddsSpec) :=
  OpenClaim.holds_of_wide 6 Try.f6 rfl rfl rfl rfl rfl rfl rfl ⟨rfl, rfl, rfl, rfl, rfl⟩ rfl rfl rfl rfl rfl (by kernel_rfl) Try.func6 (by kernel_rfl)
    (of_decide_eq_true (by kernel_rfl)) (by unfold Func.isWrapper; first | (rw [if_pos (by decide +kernel)]; kernel_rfl) | (rw [if_neg (by decide +kernel)]; exact ⟨rfl, rfl⟩))
    (fun os started H enc _ => lifted_BucketAdds os started H enc)

/-- The statement. -/
theorem bucketAdds_holds : Rows.BucketAddsSaid := over_BucketAdds
#print axioms bucketAdds_holds

end Go.Proofs.Ythoecpciiphofaa

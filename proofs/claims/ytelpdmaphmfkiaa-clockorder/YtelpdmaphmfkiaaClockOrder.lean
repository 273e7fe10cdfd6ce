/-
  ClockOrder, for any timers and any number: they come in order, each once, none before its time; all that were set, and not set anew. No condition.
-/
import Derived.Test.YtelpdmaphmfkiaaClockFrame
import Derived.Test.YtelpdmaphmfkiaaClockState
import Derived.Test.YtelpdmaphmfkiaaClockMod
import Derived.Test.YtelpdmaphmfkiaaTimerMap
import Derived.Test.YtelpdmaphmfkiaaOrderMath
import Derived.Test.YtelpdmaphmfkiaaRel6
import Derived.Test.YtelpdmaphmfkiaaRelPut
import Derived.Lib.SmallJoins
import Derived.Deep.Light
namespace Go.Proofs.Ytelpdmaphmfkiaa
open Go.ChangeShapes Go.WideShapes Go.ChangeAt Go.RowKit

theorem timerLaw : Go.WideMaps.KeyLaw Try.prog 29 := deep_law_laid laidOut (m := 3) (by decide) (of_decide_eq_true (by kernel_rfl)) (by kernel_rfl) (by kernel_rfl)
theorem timerLit (t : TimerT) (ht : inT t) : ∃ kl, keyOf Try.prog 29 (tval t) = some kl := by
  have h0 : ∃ n, DataW.trod (H := Unit) (fun _ => ()) Try.prog default 0 (fun _ => true) true n 3 [Value.int .i64 t.at_] = some (.lit (.int .i64 t.at_), []) := shut_int Try.underlying3 (WalkArith.wf_i64 ht.1)
  have h1 : ∃ n, DataW.trod (H := Unit) (fun _ => ()) Try.prog default 0 (fun _ => true) true n 3 [Value.int .i64 t.kind] = some (.lit (.int .i64 t.kind), []) := shut_int Try.underlying3 (WalkArith.wf_i64 ht.2.1)
  have h2 : ∃ n, DataW.trod (H := Unit) (fun _ => ()) Try.prog default 0 (fun _ => true) true n 3 [Value.int .i64 t.id] = some (.lit (.int .i64 t.id), []) := shut_int Try.underlying3 (WalkArith.wf_i64 ht.2.2)
  have h := Go.Joins.shut_agg3 (P := Try.prog) Try.underlying29 (by kernel_rfl) (by kernel_rfl) h0 h1 h2
  exact ⟨_, (keyOf_asKey (by kernel_rfl) (by kernel_rfl) (by unfold Value.formed; rw [Try.underlying29]; show (3 == Try.prog.cellsOf 29) = true; kernel_rfl) h).1⟩
theorem timerMapT : TimerMapT Try.prog 47 29 3 := ⟨Try.underlying47, Try.underlying3, timerLaw, fun w => by kernel_rfl, timerLit⟩
theorem Ck.grown {K : Nat → Prop} {base B : Nat} {now : Int} {L : List TimerT} {w w' : World} (h : Ck K base B now L w) {b : Nat} (hK : K b) (hg : w.grownBy w' (some b)) : Ck K base B now L w' := by
  obtain ⟨v, hr, hv⟩ := h.ex
  have hother : ∀ k, k < w.heap.size → k ≠ b → w'.heap[k]? = w.heap[k]? := fun k hk hne => hg.block k hk (by simp; exact hne)
  exact ⟨⟨v, hr.stands (hother B hr.box.lt (Ne.symm (h.off b hK).1)) fun k hk => hother k (hr.row.lt k hk).2 fun e => hv b hK (by rw [hk, e]), hv⟩, h.good, fun b' hb' => ⟨(h.off b' hb').1, Nat.lt_of_lt_of_le (h.off b' hb').2 hg.size⟩⟩
theorem ok_put {L : List TimerT} {t : TimerT} {kind id : Int} (h : ∀ x ∈ L, inT x ∧ x.at_ ≤ 999) (ht : inT t) (ha : t.at_ ≤ 999) : ∀ x ∈ putT (cutT L kind id) t, inT x ∧ x.at_ ≤ 999 := fun x hx => by
  rcases mem_putT.1 hx with rfl | hx
  · exact ⟨ht, ha⟩
  · exact h x (mem_cutT.1 hx).1

theorem idx_at (x y : Int) (k : Nat) (hk : k < 2) (w : World) : (Instr.index 49 (.agg #[.int .i64 x, .int .i64 y]) (.int .i64 k)).run Try.prog w = .ok (.int .i64 (if k = 0 then x else y)) w := by
  have h1 : (0 : Int) ≤ (k : Int) ∧ (k : Int) < ((2 : Nat) : Int) := ⟨by omega, by omega⟩
  obtain ⟨i0, hi, hs⟩ : ∃ i, Try.prog.info? 3 = some i ∧ i.size = 1 := by
    have h : (Try.prog.info? 3).map (·.size) = some 1 := by kernel_rfl
    cases he : Try.prog.info? 3 with
    | none => rw [he] at h; simp at h
    | some i => rw [he] at h; exact ⟨i, rfl, by simpa using h⟩
  have : k = 0 ∨ k = 1 := by omega
  rcases this with rfl | rfl <;> simp [Instr.index, asIntOf, run_underlying Try.underlying49, part, isAgg, run_underlying Try.underlying3, sizeOf, typeInfo, hi, hs, go_sem]
theorem late_none {L : List TimerT} (h : ∀ t ∈ L, inT t ∧ t.at_ ≤ 999) (h' : ∀ x ∈ L, (2000 : Int) < x.at_) : L = [] := by
  cases L with
  | nil => rfl
  | cons x r => have := (h x (by simp)).2; have := h' x (by simp); omega
theorem below_row {base b : Nat} {w0 w : World} (h : Below base w0 w) (hb : base ≤ b) (cs : Array Value) : Below base w0 (w.setRow b cs) :=
  h.trans ⟨rfl, rfl, rfl, by simp [World.setRow], fun k hk => setRow_other _ _ _ _ (by omega)⟩

set_option maxRecDepth 100000 in
set_option maxHeartbeats 40000000 in
theorem walk_ClockOrder (l : List TimerT) (v : Value) (a : Int) (_ : -9223372036854775808 ≤ a ∧ a ≤ 9223372036854775807) (w : World) (hl : IsTimers w v l) :
    Calls Try.prog 5 #[v, .int .i64 a] w fun e w' => e = .returned (.bool true) ∧ Below w.heap.size w w' := by
  obtain ⟨ao, cap, rfl⟩ := hl.shaped
  have hl63 : l.length ≤ 9223372036854775807 := hl.row.2.1.1
  have HL : Hid (IsTimers w (.slice ao l.length cap) l) := hl
  clear hl
  have KA := fun W => awake9_any W
  by_cases hbig : (100 : Int) < (l.length : Int)
  · go_enter Try.func5, Try.ntmps5
    go_wp2_with fail
    refine (KA _).mono ?_
    rintro e w1 ⟨rfl, hb⟩
    have HB1 : Hid (Below w.heap.size w w1) := hb
    clear hb KA
    go_wp2
    go_ret
    exact ⟨rfl, HB1.out⟩
  have hlen : l.length ≤ 100 := by omega
  obtain ⟨D, hD, eD⟩ := u_mod9 a 1000 (by decide)
  have hix0 : ∀ W : World, (Instr.index 49 (.agg #[.int .i64 (D : Int), .int .i64 2000]) (.int .i64 0)).run Try.prog W = .ok (.int .i64 (D : Int)) W := fun W => idx_at _ _ 0 (by decide) W
  have hix1 : ∀ W : World, (Instr.index 49 (.agg #[.int .i64 (D : Int), .int .i64 2000]) (.int .i64 1)).run Try.prog W = .ok (.int .i64 2000) W := fun W => idx_at _ _ 1 (by decide) W
  have HI0 : Hid (∀ W : World, (Instr.index 49 (.agg #[.int .i64 (D : Int), .int .i64 2000]) (.int .i64 0)).run Try.prog W = .ok (.int .i64 (D : Int)) W) := hix0
  have HI1 : Hid (∀ W : World, (Instr.index 49 (.agg #[.int .i64 (D : Int), .int .i64 2000]) (.int .i64 1)).run Try.prog W = .ok (.int .i64 2000) W) := hix1
  clear hix0 hix1
  replace eD : (IntKind.u64.wrap a).tmod 1000 = (D : Int) := eD
  go_enter Try.func5, Try.ntmps5
  go_wp2_with fail
  refine (knew 0 w).mono ?_
  rintro e w1 ⟨rfl, hk, hb⟩
  have e0 : clampT 0 = 0 := by decide
  rw [e0] at hk
  have HB1 : Hid (Below w.heap.size w w1) := hb
  have HK1 : Hid (Ck (fun b => b < w.heap.size) w.heap.size w.heap.size 0 [] w1) := hk
  clear hb hk e0
  have hmm := @run_makeMap Try.prog
  go_wp2
  clear hmm
  obtain ⟨M, hM⟩ : ∃ M, w1.heap.size = M := ⟨_, rfl⟩
  have hMb : w.heap.size ≤ M := by have := HB1.out.size; omega
  have HM0 : Hid (CountsT Try.prog 29 3 (w1.alloc (.map #[] 0)) M 0 fun _ => 0) := by rw [← hM]; exact countsT_made w1
  have HC0 : Hid (Ck (fun b => b = M) w.heap.size w.heap.size 0 [] (w1.alloc (.map #[] 0))) := (HK1.out.fresh ((Below.refl w1.heap.size w1).alloc (Nat.le_refl _) _)).mono fun b hb => .inr (by rw [hb, ← hM]; exact ⟨Nat.le_refl _, by simp⟩)
  have HB0 : Hid (Below w.heap.size w (w1.alloc (.map #[] 0))) := HB1.out.alloc HB1.out.size _
  rw [hM]
  clear hM HK1 HB1
  go_loopw [27] (fun i wr => ∃ (k : Nat) (L : List TimerT) (f : TimerT → Int) (m : Nat), k ≤ l.length ∧ i = .int .i64 k ∧ Ck (fun b => b = M) w.heap.size w.heap.size 0 L wr ∧ CountsT Try.prog 29 3 wr M m f ∧ Marks f L ∧ (∀ t, inT t → f t ≠ 2) ∧ (∀ t ∈ L, inT t ∧ t.at_ ≤ 999) ∧ m ≤ 2 * k ∧ L.length ≤ k ∧ Below w.heap.size w wr) (fun i _ => l.length - (intOf i).toNat)
  case atStart => exact ⟨0, [], _, 0, Nat.zero_le _, rfl, HC0.out, HM0.out, fun t _ => by simp, fun t _ => by decide, by simp, Nat.le_refl _, Nat.le_refl _, HB0.out⟩
  case round =>
    obtain ⟨k, L, f, m, hkl, rfl, hC, hM, hMk, hN2, hOk, hmk, hLk, hb⟩ := hrel
    have HC : Hid (Ck (fun b => b = M) w.heap.size w.heap.size 0 L wr) := hC
    have HM : Hid (CountsT Try.prog 29 3 wr M m f) := hM
    have HMk0 : Hid (Marks f L) := hMk
    have HN2 : Hid (∀ t, inT t → f t ≠ 2) := hN2
    have HOk : Hid (∀ t ∈ L, inT t ∧ t.at_ ≤ 999) := hOk
    have HB : Hid (Below w.heap.size w wr) := hb
    have hL1 : L.length ≤ 1000000 := by omega
    clear hC hM hMk hN2 hOk hb
    by_cases hlt : k < l.length
    · obtain ⟨xc, off, rfl, hbl, c0, c1, c2⟩ := (HL.out.below HB.out).at k hlt
      have hxi : inT (l.getD k noTimer) := by
        rw [show l.getD k noTimer = l[k] by simp [hlt]]
        exact HL.out.ok _ (List.getElem_mem _)
      generalize l.getD k noTimer = x at c0 c1 c2 hxi
      obtain ⟨xa, xk, xi⟩ := x
      simp only at c0 c1 c2
      obtain ⟨Y, hY, eY⟩ := u_mod9 xa 1000 (by decide)
      replace eY : (IntKind.u64.wrap xa).tmod 1000 = (Y : Int) := eY
      have htt : inT ⟨(Y : Int), xk, xi⟩ := inT_lit (by omega) hxi.2.1 hxi.2.2
      have hok : setOK 0 ⟨(Y : Int), xk, xi⟩ = true := by unfold setOK top62; rw [decide_eq_true (by show (0 : Int) ≤ Y; omega), decide_eq_true (by show (Y : Int) ≤ _; omega)]; rfl
      have hset : setT 0 L ⟨(Y : Int), xk, xi⟩ = putT (cutT L xk xi) ⟨(Y : Int), xk, xi⟩ := by unfold setT; rw [if_pos hok]
      have hltI : (k : Int) < (l.length : Int) := by omega
      obtain ⟨xb, hxb⟩ : ∃ xb, wr.heap.size = xb := ⟨_, rfl⟩
      have hMl : M < wr.heap.size := HM.out.lt
      have hMx : xb ≠ M := by omega
      go_upto_region 9 with fail
      generalize hW : wr.alloc _ = wc
      have HXc : Hid (HasBox wc xb 29 (tcells ⟨(Y : Int), xk, xi⟩)) := by show HasBox _ _ _ _; rw [← hW, ← hxb]; exact hasBox_new wr _ _
      have HBc : Hid (Below w.heap.size w wc) := by show Below _ _ _; rw [← hW]; exact HB.out.alloc HB.out.size _
      have HMc : Hid (CountsT Try.prog 29 3 wc M m f) := by show CountsT _ _ _ _ _ _ _; rw [← hW]; exact HM.out.block (Below.heap_alloc _ _ _ hMl)
      have HCc : Hid (Ck (fun b => b = M ∨ b = xb) w.heap.size w.heap.size 0 L wc) := by
        show Ck _ _ _ _ _ _
        rw [← hW]
        exact (HC.out.fresh ((Below.refl wr.heap.size wr).alloc (Nat.le_refl _) _)).mono fun b hb => hb.imp id fun hb => by rw [hb, ← hxb]; exact ⟨Nat.le_refl _, by simp⟩
      clear hW hxb HB HC HM c0 c1 c2 eY hMl
      obtain ⟨an, q, hwn⟩ : ∃ a q, whenT L xk xi = (a, q) := ⟨_, _, rfl⟩
      have HW : Hid (whenT L xk xi = (an, q)) := hwn
      clear hwn
      have KT := kat HCc.out hL1 xk xi
      rw [HW.out] at KT
      have d0 : wc.cell? ⟨xb, 0, none⟩ = some (.int .i64 (Y : Int)) := HXc.out.cell 0
      have d1 : wc.cell? ⟨xb, 1, none⟩ = some (.int .i64 xk) := HXc.out.cell 1
      have d2 : wc.cell? ⟨xb, 2, none⟩ = some (.int .i64 xi) := HXc.out.cell 2
      go_wp2_with fail
      refine KT.mono ?_
      rintro e w3 ⟨rfl, hb⟩
      have HX3 : Hid (HasBox w3 xb 29 (tcells ⟨(Y : Int), xk, xi⟩)) := HXc.out.below hb
      have HM3 : Hid (CountsT Try.prog 29 3 w3 M m f) := HMc.out.below hb
      have HC3 : Hid (Ck (fun b => b = M ∨ b = xb) w.heap.size w.heap.size 0 L w3) := HCc.out.below hb
      have HB3 : Hid (Below w.heap.size w w3) := HBc.out.trans (hb.mono HBc.out.size)
      clear hb KT d0 d1 d2
      cases q with
      | true =>
        have hmem := when_some HW.out
        have hua : inT (⟨an, xk, xi⟩ : TimerT) := (HOk.out _ hmem).1
        have HMo : Hid (∀ x, inT x → ((if x = (⟨an, xk, xi⟩ : TimerT) then (0 : Int) else f x) = 1 ↔ x ∈ L ∧ ¬ (x.kind = xk ∧ x.id = xi))) := marks_old (t := ⟨(Y : Int), xk, xi⟩) HC3.out.good HMk0.out hmem
        obtain ⟨W4, m1, hm4, hg4⟩ := HM3.out.update timerMapT (by unfold maxLen; omega) hua (c := 0) (by decide)
        replace m1 : (Instr.mapUpdate 47 (.map (some M)) (.agg #[.int .i64 an, .int .i64 xk, .int .i64 xi]) (.int .i64 0)).run Try.prog w3 = .ok () W4 := m1
        have HM4 : Hid (CountsT Try.prog 29 3 W4 M (m + 1) (fun q => if q = (⟨an, xk, xi⟩ : TimerT) then 0 else f q)) := hm4
        have HX4 : Hid (HasBox W4 xb 29 (tcells ⟨(Y : Int), xk, xi⟩)) := HX3.out.grown hg4 (by simp; exact hMx)
        have HC4 : Hid (Ck (fun b => b = M ∨ b = xb) w.heap.size w.heap.size 0 L W4) := HC3.out.grown (.inl rfl) hg4
        have HB4 : Hid (Below w.heap.size w W4) := HB3.out.grown hg4 HB3.out.size (fun k hk => by cases hk; exact hMb)
        clear hm4 hg4 hmem hua
        have e1 : w3.cell? ⟨xb, 1, none⟩ = some (.int .i64 xk) := HX3.out.cell 1
        have e2 : w3.cell? ⟨xb, 2, none⟩ = some (.int .i64 xi) := HX3.out.cell 2
        clear HX3 HC3 HM3 HB3
        have d0 : W4.cell? ⟨xb, 0, none⟩ = some (.int .i64 (Y : Int)) := HX4.out.cell 0
        have d1 : W4.cell? ⟨xb, 1, none⟩ = some (.int .i64 xk) := HX4.out.cell 1
        have d2 : W4.cell? ⟨xb, 2, none⟩ = some (.int .i64 xi) := HX4.out.cell 2
        have KS := kset HC4.out hL1 ⟨(Y : Int), xk, xi⟩ htt
        rw [hok, hset] at KS
        go_wp2_with fail
        refine KS.mono ?_
        rintro e w5 ⟨rfl, hC5, hp5⟩
        have HX5 : Hid (HasBox w5 xb 29 (tcells ⟨(Y : Int), xk, xi⟩)) := hp5.box (.inr rfl) HX4.out
        have HM5 : Hid (CountsT Try.prog 29 3 w5 M (m + 1) (fun q => if q = (⟨an, xk, xi⟩ : TimerT) then 0 else f q)) := HM4.out.block (hp5.at_ M (.inl rfl))
        have HB5 : Hid (Below w.heap.size w w5) := HB4.out.trans hp5.below
        have HC5 : Hid _ := hC5
        obtain ⟨W6, m2, hm6, hg6⟩ := HM5.out.update timerMapT (by unfold maxLen; omega) htt (c := 1) (by decide)
        replace m2 : (Instr.mapUpdate 47 (.map (some M)) (.agg #[.int .i64 (Y : Int), .int .i64 xk, .int .i64 xi]) (.int .i64 1)).run Try.prog w5 = .ok () W6 := m2
        have HM6 : Hid (CountsT Try.prog 29 3 W6 M ((m + 1) + 1) (fun q => if q = ⟨(Y : Int), xk, xi⟩ then 1 else (fun q => if q = (⟨an, xk, xi⟩ : TimerT) then 0 else f q) q)) := hm6
        have HC6 : Hid (Ck (fun b => b = M) w.heap.size w.heap.size 0 (putT (cutT L xk xi) ⟨(Y : Int), xk, xi⟩) W6) := (HC5.out.grown (.inl rfl) hg6).mono fun b hb => .inl hb
        have HB6 : Hid (Below w.heap.size w W6) := HB5.out.grown hg6 HB5.out.size (fun k hk => by cases hk; exact hMb)
        have HMk : Hid (Marks (fun q => if q = ⟨(Y : Int), xk, xi⟩ then 1 else (fun q => if q = (⟨an, xk, xi⟩ : TimerT) then 0 else f q) q) (putT (cutT L xk xi) ⟨(Y : Int), xk, xi⟩)) := marks_set (t := ⟨(Y : Int), xk, xi⟩) (HMo.out) HMk0.out
        clear KS d0 d1 d2 hC5 hp5 hm6 hg6
        have d0 : w5.cell? ⟨xb, 0, none⟩ = some (.int .i64 (Y : Int)) := HX5.out.cell 0
        have d1 : w5.cell? ⟨xb, 1, none⟩ = some (.int .i64 xk) := HX5.out.cell 1
        have d2 : w5.cell? ⟨xb, 2, none⟩ = some (.int .i64 xi) := HX5.out.cell 2
        go_wp2
        go_roundw
        case rel => exact ⟨k + 1, _, _, (m + 1) + 1, by omega, by go_num, HC6.out, HM6.out, HMk.out, fun t ht => by show (if t = ⟨(Y : Int), xk, xi⟩ then (1 : Int) else (if t = (⟨an, xk, xi⟩ : TimerT) then 0 else f t)) ≠ 2; split; (· decide); split; (· decide); exact HN2.out t ht, ok_put HOk.out htt (by show (Y : Int) ≤ 999; omega), by omega, by rw [putT_length]; have := cutT_length L xk xi; omega, HB6.out⟩
        case measure => simp [intOf]; omega
      | false =>
        have d0 : w3.cell? ⟨xb, 0, none⟩ = some (.int .i64 (Y : Int)) := HX3.out.cell 0
        have d1 : w3.cell? ⟨xb, 1, none⟩ = some (.int .i64 xk) := HX3.out.cell 1
        have d2 : w3.cell? ⟨xb, 2, none⟩ = some (.int .i64 xi) := HX3.out.cell 2
        have KS := kset HC3.out hL1 ⟨(Y : Int), xk, xi⟩ htt
        rw [hok, hset] at KS
        go_wp2_with fail
        refine KS.mono ?_
        rintro e w5 ⟨rfl, hC5, hp5⟩
        have HX5 : Hid (HasBox w5 xb 29 (tcells ⟨(Y : Int), xk, xi⟩)) := hp5.box (.inr rfl) HX3.out
        have HM5 : Hid (CountsT Try.prog 29 3 w5 M m f) := HM3.out.block (hp5.at_ M (.inl rfl))
        have HB5 : Hid (Below w.heap.size w w5) := HB3.out.trans hp5.below
        have HC5 : Hid _ := hC5
        obtain ⟨W6, m2, hm6, hg6⟩ := HM5.out.update timerMapT (by unfold maxLen; omega) htt (c := 1) (by decide)
        replace m2 : (Instr.mapUpdate 47 (.map (some M)) (.agg #[.int .i64 (Y : Int), .int .i64 xk, .int .i64 xi]) (.int .i64 1)).run Try.prog w5 = .ok () W6 := m2
        have HM6 : Hid (CountsT Try.prog 29 3 W6 M (m + 1) (fun q => if q = ⟨(Y : Int), xk, xi⟩ then 1 else f q)) := hm6
        have HC6 : Hid (Ck (fun b => b = M) w.heap.size w.heap.size 0 (putT (cutT L xk xi) ⟨(Y : Int), xk, xi⟩) W6) := (HC5.out.grown (.inl rfl) hg6).mono fun b hb => .inl hb
        have HB6 : Hid (Below w.heap.size w W6) := HB5.out.grown hg6 HB5.out.size (fun k hk => by cases hk; exact hMb)
        have HMk : Hid (Marks (fun q => if q = ⟨(Y : Int), xk, xi⟩ then 1 else f q) (putT (cutT L xk xi) ⟨(Y : Int), xk, xi⟩)) := marks_set (t := ⟨(Y : Int), xk, xi⟩) (marks_new (t := ⟨(Y : Int), xk, xi⟩) HMk0.out (when_no HW.out)) HMk0.out
        clear KS d0 d1 d2 hC5 hp5 hm6 hg6
        have d0 : w5.cell? ⟨xb, 0, none⟩ = some (.int .i64 (Y : Int)) := HX5.out.cell 0
        have d1 : w5.cell? ⟨xb, 1, none⟩ = some (.int .i64 xk) := HX5.out.cell 1
        have d2 : w5.cell? ⟨xb, 2, none⟩ = some (.int .i64 xi) := HX5.out.cell 2
        go_wp2
        go_roundw
        case rel => exact ⟨k + 1, _, _, m + 1, by omega, by go_num, HC6.out, HM6.out, HMk.out, fun t ht => by show (if t = ⟨(Y : Int), xk, xi⟩ then (1 : Int) else f t) ≠ 2; split; (· decide); exact HN2.out t ht, ok_put HOk.out htt (by show (Y : Int) ≤ 999; omega), by omega, by rw [putT_length]; have := cutT_length L xk xi; omega, HB6.out⟩
        case measure => simp [intOf]; omega
    · have hmL : m + L.length ≤ 1000 := by omega
      have hL100 : L.length ≤ 100 := by omega
      go_wp2
      obtain ⟨lb, hlb⟩ : ∃ lb, wr.heap.size = lb := ⟨_, rfl⟩
      have hlb0 : w.heap.size ≤ lb := by have := HB.out.size; omega
      have hMl : lb ≠ M := by have := HM.out.lt; omega
      have HC2 : Hid (Ck (fun b => b = M ∨ b = lb) w.heap.size w.heap.size 0 L (wr.alloc (.cells (tcells noTimer) 29))) := (HC.out.fresh ((Below.refl wr.heap.size wr).alloc (Nat.le_refl _) _)).mono fun b hb => hb.imp id fun hb => by rw [hb, ← hlb]; exact ⟨Nat.le_refl _, by simp⟩
      have HM2 : Hid (CountsT Try.prog 29 3 (wr.alloc (.cells (tcells noTimer) 29)) M m f) := HM.out.below ((Below.refl _ _).alloc (Nat.le_refl _) _)
      have HL2 : Hid (HasBox (wr.alloc (.cells (tcells noTimer) 29)) lb 29 (tcells noTimer)) := by rw [← hlb]; exact hasBox_new wr _ _
      have HB2 : Hid (Below w.heap.size w (wr.alloc (.cells (tcells noTimer) 29))) := HB.out.alloc HB.out.size _
      rw [hlb]
      go_loopw [67] (fun i wr => ∃ (q : Int) (now : Int) (L : List TimerT) (f : TimerT → Int) (m : Nat) (last : TimerT), (q = 0 ∨ q = 1 ∨ q = 2) ∧ i = .int .i64 q ∧ L.length ≤ 100 ∧ ((q = 0 → now = 0) ∧ (q = 1 → now = (D : Int) ∧ ∀ x ∈ L, (D : Int) < x.at_) ∧ (q = 2 → now = 2000 ∧ L = [])) ∧ Ck (fun b => b = M ∨ b = lb) w.heap.size w.heap.size now L wr ∧ CountsT Try.prog 29 3 wr M m f ∧ Marks f L ∧ LastT f L last ∧ HasBox wr lb 29 (tcells last) ∧ (∀ t ∈ L, inT t ∧ t.at_ ≤ 999) ∧ m + L.length ≤ 1000 ∧ Below w.heap.size w wr) (fun i _ => 2 - (intOf i).toNat)
      case atStart => exact ⟨0, 0, L, f, m, noTimer, .inl rfl, rfl, hL100, ⟨fun _ => rfl, fun h => by omega, fun h => by omega⟩, HC2.out, HM2.out, HMk0.out, .inl ⟨rfl, HN2.out⟩, HL2.out, HOk.out, hmL, HB2.out⟩
      case round =>
        clear HC2 HM2 HL2 HB2 HC HM HMk0 HN2 HOk HB hmL hL100 hlb hL1
        obtain ⟨q, now, L, f, m, last, hq, rfl, hL100, ⟨hq0, hq1, hq22⟩, hC, hM, hMk, hLt, hLb, hOk, hmL, hb⟩ := hrel
        have HC : Hid (Ck (fun b => b = M ∨ b = lb) w.heap.size w.heap.size now L wr) := hC
        have HM : Hid (CountsT Try.prog 29 3 wr M m f) := hM
        have HMk0 : Hid (Marks f L) := hMk
        have HLt : Hid (LastT f L last) := hLt
        have HLb : Hid (HasBox wr lb 29 (tcells last)) := hLb
        have HOk : Hid (∀ t ∈ L, inT t ∧ t.at_ ≤ 999) := hOk
        have HB : Hid (Below w.heap.size w wr) := hb
        clear hC hM hMk hLt hLb hOk hb
        rcases hq with rfl | rfl | rfl
        · have hnowto : now ≤ (D : Int) := by have := hq0 rfl; omega
          clear hq0 hq1 hq22
          have hix := HI0.out
          go_wp2
          clear hix
          go_loopw [14] (fun nn wr => ∃ (n : Nat) (now : Int) (L : List TimerT) (f : TimerT → Int) (m : Nat) (last : TimerT), nn = .int .i64 n ∧ n + L.length ≤ 100 ∧ now ≤ (D : Int) ∧ Ck (fun b => b = M ∨ b = lb) w.heap.size w.heap.size now L wr ∧ CountsT Try.prog 29 3 wr M m f ∧ Marks f L ∧ LastT f L last ∧ HasBox wr lb 29 (tcells last) ∧ (∀ t ∈ L, inT t ∧ t.at_ ≤ 999) ∧ m + L.length ≤ 1000 ∧ Below w.heap.size w wr) (fun nn _ => 300 - (intOf nn).toNat)
          case atStart => exact ⟨0, now, L, f, m, last, rfl, by omega, hnowto, HC.out, HM.out, HMk0.out, HLt.out, HLb.out, HOk.out, hmL, HB.out⟩
          case round =>
            clear HC HM HMk0 HLt HLb HOk HB hmL hnowto
            obtain ⟨n, now, L, f, m, last, rfl, hnl, hnowto, hC, hM, hMk, hLt, hLb, hOk, hmL, hb⟩ := hrel
            have HC : Hid (Ck (fun b => b = M ∨ b = lb) w.heap.size w.heap.size now L wr) := hC
            have HM : Hid (CountsT Try.prog 29 3 wr M m f) := hM
            have HMk0 : Hid (Marks f L) := hMk
            have HLt : Hid (LastT f L last) := hLt
            have HLb : Hid (HasBox wr lb 29 (tcells last)) := hLb
            have HOk : Hid (∀ t ∈ L, inT t ∧ t.at_ ≤ 999) := hOk
            have HB : Hid (Below w.heap.size w wr) := hb
            have hL1 : L.length ≤ 1000000 := by omega
            clear hC hM hMk hLt hLb hOk hb
            have KN := knext HC.out hL1 (D : Int)
            cases hd : dueT L (D : Int) with
            | true =>
              obtain ⟨x, r, rfl, hle⟩ := (dueT_iff _ _).1 hd
              obtain ⟨xa, xk, xi⟩ := x
              have hxi : inT ⟨xa, xk, xi⟩ := (HOk.out _ (by simp)).1
              have e0 : nextT now (⟨xa, xk, xi⟩ :: r) (D : Int) = (⟨xa, xk, xi⟩, true, xa, r) := by unfold nextT; rw [hd]; rfl
              rw [e0] at KN
              replace hle : xa ≤ (D : Int) := hle
              have hgd := HC.out.good
              have HX1 : Hid ((1 : Int) = f ⟨xa, xk, xi⟩) := ((HMk0.out _ hxi).2 (by simp)).symm
              have hlow : 0 ≤ xa := Int.le_trans hgd.low (hgd.from_ ⟨xa, xk, xi⟩ (by simp))
              have hlast : ¬ xa < last.at_ := by
                rcases HLt.out with ⟨h1, _⟩ | ⟨_, _, h3⟩
                · rw [h1]; show ¬ xa < 0; omega
                · have := (ltT_iff _ _).1 (h3 ⟨xa, xk, xi⟩ (by simp))
                  simp only at this
                  omega
              have hli : inT last := by
                rcases HLt.out with ⟨h1, _⟩ | ⟨h1, _⟩
                · rw [h1]; exact inT_none
                · exact h1
              have not2 : xk < last.kind ∨ xk = last.kind ∧ xi ≤ last.id → xa = last.at_ → (f last == 2) = false := fun h ha => by
                rcases HLt.out with ⟨h1, h2⟩ | ⟨_, _, h3⟩
                · rw [beq_eq_false_iff_ne]; rw [h1]; exact h2 _ inT_none
                · have := (ltT_iff _ _).1 (h3 ⟨xa, xk, xi⟩ (by simp))
                  simp only at this
                  omega
              have HNot2 : Hid (xk < last.kind ∨ xk = last.kind ∧ xi ≤ last.id → xa = last.at_ → (f last == 2) = false) := not2
              have HMk2 : Hid (Marks (fun z => if z = (⟨xa, xk, xi⟩ : TimerT) then 2 else f z) r) := marks_gone hgd HMk0.out
              have HLt2 : Hid (LastT (fun z => if z = (⟨xa, xk, xi⟩ : TimerT) then 2 else f z) r ⟨xa, xk, xi⟩) := lastT_gone hgd hxi
              clear e0 hd hgd not2
              go_wp2_with fail
              refine KN.mono ?_
              rintro e w3 ⟨rfl, hC3, hp3⟩
              have HC3 : Hid (Ck (fun b => b = M ∨ b = lb) w.heap.size w.heap.size xa r w3) := hC3
              have HM3 : Hid (CountsT Try.prog 29 3 w3 M m f) := HM.out.block (hp3.at_ M (.inl rfl))
              have HL3 : Hid (HasBox w3 lb 29 (tcells last)) := hp3.box (.inr rfl) HLb.out
              have HB3 : Hid (Below w.heap.size w w3) := HB.out.trans hp3.below
              clear hC3 hp3 KN HC HM HLb HB
              obtain ⟨tb, htb⟩ : ∃ tb, w3.heap.size = tb := ⟨_, rfl⟩
              have hMt : tb ≠ M := by have := HM3.out.lt; omega
              go_upto_region 24 with fail
              generalize hW : w3.alloc _ = wc
              have HTc : Hid (HasBox wc tb 29 (tcells ⟨xa, xk, xi⟩)) := by show HasBox _ _ _ _; rw [← hW, ← htb]; exact hasBox_new w3 _ _
              have HLc : Hid (HasBox wc lb 29 (tcells last)) := by show HasBox _ _ _ _; rw [← hW]; exact HL3.out.alloc _
              have HBc : Hid (Below w.heap.size w wc) := by show Below _ _ _; rw [← hW]; exact HB3.out.alloc HB3.out.size _
              have HMc : Hid (CountsT Try.prog 29 3 wc M m f) := by show CountsT _ _ _ _ _ _ _; rw [← hW]; exact HM3.out.below ((Below.refl _ _).alloc (Nat.le_refl _) _)
              have HCc : Hid (Ck (fun b => b = M ∨ b = lb) w.heap.size w.heap.size xa r wc) := by show Ck _ _ _ _ _ _; rw [← hW]; exact HC3.out.below ((Below.refl _ _).alloc (Nat.le_refl _) _)
              clear hW htb HL3 HB3 HM3 HC3
              have HLkx : ∀ W, Below wc.heap.size wc W → (Instr.lookup 47 (.map (some M)) (.agg #[.int .i64 xa, .int .i64 xk, .int .i64 xi]) false).run Try.prog W = .ok (.int .i64 1) W := fun W p => by
                rw [HX1.out]; exact (HMc.out.below p).lookup timerMapT hxi
              obtain ⟨gl, hfl⟩ : ∃ gl, f last = gl := ⟨_, rfl⟩
              have HLkl : ∀ W, Below wc.heap.size wc W → (Instr.lookup 47 (.map (some M)) (.agg #[.int .i64 last.at_, .int .i64 last.kind, .int .i64 last.id]) false).run Try.prog W = .ok (.int .i64 gl) W := fun W p => by
                rw [← hfl]; exact (HMc.out.below p).lookup timerMapT hli
              have hn200 : decide ((200 : Int) < (n : Int)) = false := decide_eq_false (by omega)
              have hleN : decide ((D : Int) < xa) = false := decide_eq_false (by omega)
              have hlast' : decide (xa < last.at_) = false := decide_eq_false (by omega)
              clear HX1 hlow
              have HZt : ∀ W, Below wc.heap.size wc W → W.cell? ⟨tb, 0, none⟩ = some (.int .i64 xa) ∧ W.cell? ⟨tb, 1, none⟩ = some (.int .i64 xk) ∧ W.cell? ⟨tb, 2, none⟩ = some (.int .i64 xi) := fun W p => ⟨(HTc.out.below p).cell 0, (HTc.out.below p).cell 1, (HTc.out.below p).cell 2⟩
              have HZl : ∀ W, Below wc.heap.size wc W → W.cell? ⟨lb, 0, none⟩ = some (.int .i64 last.at_) ∧ W.cell? ⟨lb, 1, none⟩ = some (.int .i64 last.kind) ∧ W.cell? ⟨lb, 2, none⟩ = some (.int .i64 last.id) := fun W p => ⟨(HLc.out.below p).cell 0, (HLc.out.below p).cell 1, (HLc.out.below p).cell 2⟩
              have HCw : ∀ W, Below wc.heap.size wc W → Ck (fun b => b = M ∨ b = lb) w.heap.size w.heap.size xa r W := fun W p => HCc.out.below p
              have HK2 : Hid (xk < last.kind ∨ xk = last.kind ∧ xi ≤ last.id → xa = last.at_ → (gl == 2) = false) := by show _ → _ → _; rw [← hfl]; exact HNot2.out
              obtain ⟨e1, he1⟩ : ∃ e, (xa == last.at_) = e := ⟨_, rfl⟩
              obtain ⟨e2, he2⟩ : ∃ e, decide (xk < last.kind) = e := ⟨_, rfl⟩
              obtain ⟨e3, he3⟩ : ∃ e, (xk == last.kind) = e := ⟨_, rfl⟩
              obtain ⟨e4, he4⟩ : ∃ e, decide (xi ≤ last.id) = e := ⟨_, rfl⟩
              clear hfl HNot2
              go_wp2_with fail
              refine wp_region_mp ([eqP (.int .i64 (n : Nat)), eqP (.bool false), eqP (.bool false), eqP (.pointer (some ⟨tb, 0, none⟩)), eqP (.int .i64 xa), eqP (.int .i64 (D : Int)), eqP (.bool false), eqP (.bool false), eqP (.bool false), eqP (.int .i64 0), eqP (.bool false), eqP (.bool false), eqP (undef), eqP (undef), eqP (undef), eqP (undef), eqP (.bool false), eqP (.bool false), eqP (.bool false), eqP (.map (some M)), eqP (.agg #[.int .i64 xa, .int .i64 xk, .int .i64 xi]), eqP (.int .i64 1), eqP (.bool false), eqP (.bool false), eqP (.bool false), eqP (.pointer (some ⟨w.heap.size, 0, none⟩)), eqP (.int .i64 xa), eqP (.pointer (some ⟨tb, 0, none⟩)), eqP (.int .i64 xa), eqP (.bool false), eqP (.bool false), eqP (.bool false), eqP (.pointer (some ⟨tb, 0, none⟩)), eqP (.int .i64 xa), eqP (.pointer (some ⟨lb, 0, none⟩)), eqP (.int .i64 last.at_), eqP (.bool false), eqP (.bool false), eqP (.bool false), eqP (.pointer (some ⟨tb, 0, none⟩)), eqP (.int .i64 xa), eqP (.pointer (some ⟨lb, 0, none⟩)), eqP (.int .i64 last.at_), eqP (bif e1 then (.bool true) else (.bool false)), eqP (bif e1 then (.bool true) else (.bool false)), eqP (bif e1 then (.pointer (some ⟨tb, 1, none⟩)) else (undef)), eqP (bif e1 then (.int .i64 xk) else (undef)), eqP (bif e1 then (.pointer (some ⟨lb, 1, none⟩)) else (undef)), eqP (bif e1 then (.int .i64 last.kind) else (undef)), eqP (bif e1 then bif e2 then (.bool true) else (.bool false) else (undef)), eqP (bif e1 then bif e2 then (.bool true) else (.bool false) else (undef)), eqP (bif e1 then bif e2 then (undef) else (.pointer (some ⟨tb, 1, none⟩)) else (undef)), eqP (bif e1 then bif e2 then (undef) else (.int .i64 xk) else (undef)), eqP (bif e1 then bif e2 then (undef) else (.pointer (some ⟨lb, 1, none⟩)) else (undef)), eqP (bif e1 then bif e2 then (undef) else (.int .i64 last.kind) else (undef)), eqP (bif e1 then bif e2 then (undef) else bif e3 then (.bool true) else (.bool false) else (undef)), eqP (bif e1 then bif e2 then (undef) else bif e3 then (.bool true) else (.bool false) else (undef)), eqP (bif e1 then bif e2 then (undef) else bif e3 then (.pointer (some ⟨tb, 2, none⟩)) else (undef) else (undef)), eqP (bif e1 then bif e2 then (undef) else bif e3 then (.int .i64 xi) else (undef) else (undef)), eqP (bif e1 then bif e2 then (undef) else bif e3 then (.pointer (some ⟨lb, 2, none⟩)) else (undef) else (undef)), eqP (bif e1 then bif e2 then (undef) else bif e3 then (.int .i64 last.id) else (undef) else (undef)), eqP (bif e1 then bif e2 then (undef) else bif e3 then bif e4 then (.bool true) else (.bool false) else (undef) else (undef)), eqP (bif e1 then bif e2 then (undef) else bif e3 then bif e4 then (.bool true) else (.bool false) else (.bool false) else (undef)), eqP (bif e1 then bif e2 then (.bool true) else bif e3 then bif e4 then (.bool true) else (.bool false) else (.bool false) else (undef)), eqP (bif e1 then bif e2 then (.bool true) else bif e3 then bif e4 then (.bool true) else (.bool false) else (.bool false) else (.bool false)), eqP (bif e1 then bif e2 then (.bool true) else bif e3 then bif e4 then (.bool true) else (.bool false) else (.bool false) else (.bool false)), eqP (bif e1 then bif e2 then (.map (some M)) else bif e3 then bif e4 then (.map (some M)) else (undef) else (undef) else (undef)), eqP (bif e1 then bif e2 then (.agg #[.int .i64 last.at_, .int .i64 last.kind, .int .i64 last.id]) else bif e3 then bif e4 then (.agg #[.int .i64 last.at_, .int .i64 last.kind, .int .i64 last.id]) else (undef) else (undef) else (undef)), eqP (bif e1 then bif e2 then (.int .i64 gl) else bif e3 then bif e4 then (.int .i64 gl) else (undef) else (undef) else (undef)), eqP (bif e1 then bif e2 then (.bool false) else bif e3 then bif e4 then (.bool false) else (undef) else (undef) else (undef)), eqP (.bool false), eqP (.bool false)]) (by kernel_rfl) (by kernel_rfl) ?_ ?_
              · go_light
                simp only
                refine ⟨fun a W hF hE hd => ?_, fun a W hF hE hd => ?_, fun a W hF hE hd => ?_, fun a W hF hE hd => ?_, fun a W hF hE hd => ?_, fun a W hF hE hd => ?_, fun a W hF hE hd => ?_, fun a W hF hE hd => ?_, fun a W hF hE hd => ?_, fun a W hF hE hd => ?_, fun a W hF hE hd => ?_, fun a W hF hE hd => ?_, fun a W hF hE hd => ?_, fun a W hF hE hd => ?_, fun a W hF hE hd => ?_, fun a W hF hE hd => ?_, fun a W hF hE hd => ?_, fun a W hF hE hd => ?_, fun a W hF hE hd => ?_, fun a W hF hE hd => ?_, fun a W hF hE hd => ?_, fun a W hF hE hd => ?_, fun a W hF hE hd => ?_, fun a W hF hE hd => ?_, fun a W hF hE hd => ?_, fun a W hF hE hd => ?_, fun a W hF hE hd => ?_, fun a W hF hE hd => ?_, fun a W hF hE hd => ?_, fun a W hF hE hd => ?_, fun a W hF hE hd => ?_, fun a W hF hE hd => ?_, fun a W hF hE hd => ?_, fun a W hF hE hd => ?_, fun a W hF hE hd => ?_, fun a W hF hE hd => ?_, fun a W hF hE hd => ?_, fun a W hF hE hd => ?_, fun a W hF hE hd => ?_, fun a W hF hE hd => ?_, fun a W hF hE hd => ?_, fun a W hF hE hd => ?_, fun a W hF hE hd => ?_, fun a W hF hE hd => ?_, fun a W hF hE hd => ?_, fun a W hF hE hd => ?_, fun a W hF hE hd => ?_, fun a W hF hE hd => ?_, fun a W hF hE hd => ?_, fun a W hF hE hd => ?_, fun a W hF hE hd => ?_, fun a W hF hE hd => ?_, fun a W hF hE hd => ?_, fun a W hF hE hd => ?_, fun a W hF hE hd => ?_, fun a W hF hE hd => ?_, fun a W hF hE hd => ?_, fun a W hF hE hd => ?_, fun a W hF hE hd => ?_, fun a W hF hE hd => ?_, fun a W hF hE hd => ?_, fun a W hF hE hd => ?_, fun a W hF hE hd => ?_, fun a W hF hE hd => ?_, fun a W hF hE hd => ?_, fun a W hF hE hd => ?_, fun a W hF hE hd => ?_, fun a W hF hE hd => ?_, fun a W hF hE hd => ?_, fun a W hF hE hd => ?_, fun a W hF hE hd => ?_, fun a W hF hE hd => ?_, trivial⟩
                all_goals unfold StepAt
                · have t14 : a.tmps.getD 14 undef = .int .i64 (n : Nat) := hF.at 14 (by kernel_rfl)
                  rw [Array.getD_eq_getD_getElem?] at t14
                  refine .inl ⟨rfl, ?_⟩
                  go_simp
                  exact ⟨Below.refl _ _, rfl⟩
                · have t81 : a.tmps.getD 81 undef = .int .i64 (n : Nat) := hd { on := 0, ground := .data } (by simp) rfl
                  rw [Array.getD_eq_getD_getElem?] at t81
                  refine .inl ⟨rfl, ?_⟩
                  go_simp
                  exact ⟨Below.refl _ _, rfl⟩
                · have t82 : a.tmps.getD 82 undef = .bool false := hd { on := 1, ground := .data } (by simp) rfl
                  rw [Array.getD_eq_getD_getElem?] at t82
                  refine .inl ⟨rfl, ?_⟩
                  go_simp
                  exact ⟨Below.refl _ _, rfl⟩
                · have g83 : a.eval (.tmp 83) = .bool false := hd { on := 2, ground := .guard } (by simp) rfl
                  have t15 : a.tmps.getD 15 undef = .pointer (some ⟨tb, 0, none⟩) := hF.at 15 (by kernel_rfl)
                  rw [Array.getD_eq_getD_getElem?] at t15
                  refine .inl ⟨(by simp only [Region.wanted]; rw [yielded_of (d := 83) (by rfl) g83]; rfl), ?_⟩
                  clear g83
                  go_simp
                  exact ⟨Below.refl _ _, rfl⟩
                · have g83 : a.eval (.tmp 83) = .bool false := hd { on := 2, ground := .guard } (by simp) rfl
                  have t84 : a.tmps.getD 84 undef = .pointer (some ⟨tb, 0, none⟩) := hd { on := 3, ground := .data } (by simp) rfl
                  rw [Array.getD_eq_getD_getElem?] at t84
                  refine .inl ⟨(by simp only [Region.wanted]; rw [yielded_of (d := 83) (by rfl) g83]; rfl), ?_⟩
                  clear g83
                  obtain ⟨z0, z1, z2⟩ := HZt W hE
                  go_simp
                  exact ⟨Below.refl _ _, rfl⟩
                · have g83 : a.eval (.tmp 83) = .bool false := hd { on := 2, ground := .guard } (by simp) rfl
                  have t13 : a.tmps.getD 13 undef = .int .i64 (D : Int) := hF.at 13 (by kernel_rfl)
                  rw [Array.getD_eq_getD_getElem?] at t13
                  refine .inl ⟨(by simp only [Region.wanted]; rw [yielded_of (d := 83) (by rfl) g83]; rfl), ?_⟩
                  clear g83
                  go_simp
                  exact ⟨Below.refl _ _, rfl⟩
                · have g83 : a.eval (.tmp 83) = .bool false := hd { on := 2, ground := .guard } (by simp) rfl
                  have t85 : a.tmps.getD 85 undef = .int .i64 xa := hd { on := 4, ground := .data } (by simp) rfl
                  rw [Array.getD_eq_getD_getElem?] at t85
                  have t86 : a.tmps.getD 86 undef = .int .i64 (D : Int) := hd { on := 5, ground := .data } (by simp) rfl
                  rw [Array.getD_eq_getD_getElem?] at t86
                  refine .inl ⟨(by simp only [Region.wanted]; rw [yielded_of (d := 83) (by rfl) g83]; rfl), ?_⟩
                  clear g83
                  go_simp
                  exact ⟨Below.refl _ _, rfl⟩
                · have t83 : a.tmps.getD 83 undef = .bool false := hd { on := 2, ground := .data } (by simp) rfl
                  rw [Array.getD_eq_getD_getElem?] at t83
                  have t87 : a.tmps.getD 87 undef = .bool false := hd { on := 6, ground := .data } (by simp) rfl
                  rw [Array.getD_eq_getD_getElem?] at t87
                  refine .inl ⟨rfl, ?_⟩
                  go_simp
                  exact ⟨Below.refl _ _, rfl⟩
                · have t88 : a.tmps.getD 88 undef = .bool false := hd { on := 7, ground := .data } (by simp) rfl
                  rw [Array.getD_eq_getD_getElem?] at t88
                  refine .inl ⟨rfl, ?_⟩
                  go_simp
                  exact ⟨Below.refl _ _, rfl⟩
                · have g89 : a.eval (.tmp 89) = .bool false := hd { on := 8, ground := .guard } (by simp) rfl
                  have t12 : a.tmps.getD 12 undef = .int .i64 0 := hF.at 12 (by kernel_rfl)
                  rw [Array.getD_eq_getD_getElem?] at t12
                  refine .inl ⟨(by simp only [Region.wanted]; rw [yielded_of (d := 89) (by rfl) g89]; rfl), ?_⟩
                  clear g89
                  go_simp
                  exact ⟨Below.refl _ _, rfl⟩
                · have g89 : a.eval (.tmp 89) = .bool false := hd { on := 8, ground := .guard } (by simp) rfl
                  have t90 : a.tmps.getD 90 undef = .int .i64 0 := hd { on := 9, ground := .data } (by simp) rfl
                  rw [Array.getD_eq_getD_getElem?] at t90
                  refine .inl ⟨(by simp only [Region.wanted]; rw [yielded_of (d := 89) (by rfl) g89]; rfl), ?_⟩
                  clear g89
                  go_simp
                  exact ⟨Below.refl _ _, rfl⟩
                · have g89 : a.eval (.tmp 89) = .bool false := hd { on := 8, ground := .guard } (by simp) rfl
                  have t91 : a.tmps.getD 91 undef = .bool false := hd { on := 10, ground := .data } (by simp) rfl
                  rw [Array.getD_eq_getD_getElem?] at t91
                  refine .inl ⟨(by simp only [Region.wanted]; rw [yielded_of (d := 89) (by rfl) g89]; rfl), ?_⟩
                  clear g89
                  go_simp
                  exact ⟨Below.refl _ _, rfl⟩
                · have g92 : a.eval (.tmp 92) = .bool false := hd { on := 11, ground := .guard } (by simp) rfl
                  exact .inr ⟨(by simp only [Region.wanted]; rw [yielded_of (d := 92) (by rfl) g92]; rfl), rfl⟩
                · have g92 : a.eval (.tmp 92) = .bool false := hd { on := 11, ground := .guard } (by simp) rfl
                  exact .inr ⟨(by simp only [Region.wanted]; rw [yielded_of (d := 92) (by rfl) g92]; rfl), rfl⟩
                · have g92 : a.eval (.tmp 92) = .bool false := hd { on := 11, ground := .guard } (by simp) rfl
                  exact .inr ⟨(by simp only [Region.wanted]; rw [yielded_of (d := 92) (by rfl) g92]; rfl), rfl⟩
                · have g92 : a.eval (.tmp 92) = .bool false := hd { on := 11, ground := .guard } (by simp) rfl
                  exact .inr ⟨(by simp only [Region.wanted]; rw [yielded_of (d := 92) (by rfl) g92]; rfl), rfl⟩
                · have g89 : a.eval (.tmp 89) = .bool false := hd { on := 8, ground := .guard } (by simp) rfl
                  have t92 : a.tmps.getD 92 undef = .bool false := hd { on := 11, ground := .data } (by simp) rfl
                  rw [Array.getD_eq_getD_getElem?] at t92
                  refine .inl ⟨(by simp only [Region.wanted]; rw [yielded_of (d := 89) (by rfl) g89]; rfl), ?_⟩
                  clear g89
                  go_simp
                  exact ⟨Below.refl _ _, rfl⟩
                · have t89 : a.tmps.getD 89 undef = .bool false := hd { on := 8, ground := .data } (by simp) rfl
                  rw [Array.getD_eq_getD_getElem?] at t89
                  have t97 : a.tmps.getD 97 undef = .bool false := hd { on := 16, ground := .data } (by simp) rfl
                  rw [Array.getD_eq_getD_getElem?] at t97
                  refine .inl ⟨rfl, ?_⟩
                  go_simp
                  exact ⟨Below.refl _ _, rfl⟩
                · have t98 : a.tmps.getD 98 undef = .bool false := hd { on := 17, ground := .data } (by simp) rfl
                  rw [Array.getD_eq_getD_getElem?] at t98
                  refine .inl ⟨rfl, ?_⟩
                  go_simp
                  exact ⟨Below.refl _ _, rfl⟩
                · have g99 : a.eval (.tmp 99) = .bool false := hd { on := 18, ground := .guard } (by simp) rfl
                  have t6 : a.tmps.getD 6 undef = .map (some M) := hF.at 6 (by kernel_rfl)
                  rw [Array.getD_eq_getD_getElem?] at t6
                  refine .inl ⟨(by simp only [Region.wanted]; rw [yielded_of (d := 99) (by rfl) g99]; rfl), ?_⟩
                  clear g99
                  go_simp
                  exact ⟨Below.refl _ _, rfl⟩
                · have g99 : a.eval (.tmp 99) = .bool false := hd { on := 18, ground := .guard } (by simp) rfl
                  have t15 : a.tmps.getD 15 undef = .pointer (some ⟨tb, 0, none⟩) := hF.at 15 (by kernel_rfl)
                  rw [Array.getD_eq_getD_getElem?] at t15
                  refine .inl ⟨(by simp only [Region.wanted]; rw [yielded_of (d := 99) (by rfl) g99]; rfl), ?_⟩
                  clear g99
                  obtain ⟨z0, z1, z2⟩ := HZt W hE
                  go_simp
                  exact ⟨Below.refl _ _, rfl⟩
                · have g99 : a.eval (.tmp 99) = .bool false := hd { on := 18, ground := .guard } (by simp) rfl
                  have t100 : a.tmps.getD 100 undef = .map (some M) := hd { on := 19, ground := .data } (by simp) rfl
                  rw [Array.getD_eq_getD_getElem?] at t100
                  have t101 : a.tmps.getD 101 undef = .agg #[.int .i64 xa, .int .i64 xk, .int .i64 xi] := hd { on := 20, ground := .data } (by simp) rfl
                  rw [Array.getD_eq_getD_getElem?] at t101
                  refine .inl ⟨(by simp only [Region.wanted]; rw [yielded_of (d := 99) (by rfl) g99]; rfl), ?_⟩
                  clear g99
                  have m0 := HLkx W hE
                  go_simp
                  exact ⟨Below.refl _ _, rfl⟩
                · have g99 : a.eval (.tmp 99) = .bool false := hd { on := 18, ground := .guard } (by simp) rfl
                  have t102 : a.tmps.getD 102 undef = .int .i64 1 := hd { on := 21, ground := .data } (by simp) rfl
                  rw [Array.getD_eq_getD_getElem?] at t102
                  refine .inl ⟨(by simp only [Region.wanted]; rw [yielded_of (d := 99) (by rfl) g99]; rfl), ?_⟩
                  clear g99
                  go_simp
                  exact ⟨Below.refl _ _, rfl⟩
                · have t99 : a.tmps.getD 99 undef = .bool false := hd { on := 18, ground := .data } (by simp) rfl
                  rw [Array.getD_eq_getD_getElem?] at t99
                  have t103 : a.tmps.getD 103 undef = .bool false := hd { on := 22, ground := .data } (by simp) rfl
                  rw [Array.getD_eq_getD_getElem?] at t103
                  refine .inl ⟨rfl, ?_⟩
                  go_simp
                  exact ⟨Below.refl _ _, rfl⟩
                · have t104 : a.tmps.getD 104 undef = .bool false := hd { on := 23, ground := .data } (by simp) rfl
                  rw [Array.getD_eq_getD_getElem?] at t104
                  refine .inl ⟨rfl, ?_⟩
                  go_simp
                  exact ⟨Below.refl _ _, rfl⟩
                · have g105 : a.eval (.tmp 105) = .bool false := hd { on := 24, ground := .guard } (by simp) rfl
                  have t5 : a.tmps.getD 5 undef = .pointer (some ⟨w.heap.size, 0, none⟩) := hF.at 5 (by kernel_rfl)
                  rw [Array.getD_eq_getD_getElem?] at t5
                  refine .inl ⟨(by simp only [Region.wanted]; rw [yielded_of (d := 105) (by rfl) g105]; rfl), ?_⟩
                  clear g105
                  go_simp
                  exact ⟨Below.refl _ _, rfl⟩
                · have g105 : a.eval (.tmp 105) = .bool false := hd { on := 24, ground := .guard } (by simp) rfl
                  have t106 : a.tmps.getD 106 undef = .pointer (some ⟨w.heap.size, 0, none⟩) := hd { on := 25, ground := .data } (by simp) rfl
                  rw [Array.getD_eq_getD_getElem?] at t106
                  refine .inl ⟨(by simp only [Region.wanted]; rw [yielded_of (d := 105) (by rfl) g105]; rfl), ?_⟩
                  clear g105
                  go_simp
                  exact (know (HCw W hE)).mono fun e w2 h => ⟨_, h.1, by rw [h.2]; exact Below.refl _ _, rfl⟩
                · have g105 : a.eval (.tmp 105) = .bool false := hd { on := 24, ground := .guard } (by simp) rfl
                  have t15 : a.tmps.getD 15 undef = .pointer (some ⟨tb, 0, none⟩) := hF.at 15 (by kernel_rfl)
                  rw [Array.getD_eq_getD_getElem?] at t15
                  refine .inl ⟨(by simp only [Region.wanted]; rw [yielded_of (d := 105) (by rfl) g105]; rfl), ?_⟩
                  clear g105
                  go_simp
                  exact ⟨Below.refl _ _, rfl⟩
                · have g105 : a.eval (.tmp 105) = .bool false := hd { on := 24, ground := .guard } (by simp) rfl
                  have t108 : a.tmps.getD 108 undef = .pointer (some ⟨tb, 0, none⟩) := hd { on := 27, ground := .data } (by simp) rfl
                  rw [Array.getD_eq_getD_getElem?] at t108
                  refine .inl ⟨(by simp only [Region.wanted]; rw [yielded_of (d := 105) (by rfl) g105]; rfl), ?_⟩
                  clear g105
                  obtain ⟨z0, z1, z2⟩ := HZt W hE
                  go_simp
                  exact ⟨Below.refl _ _, rfl⟩
                · have g105 : a.eval (.tmp 105) = .bool false := hd { on := 24, ground := .guard } (by simp) rfl
                  have t107 : a.tmps.getD 107 undef = .int .i64 xa := hd { on := 26, ground := .data } (by simp) rfl
                  rw [Array.getD_eq_getD_getElem?] at t107
                  have t109 : a.tmps.getD 109 undef = .int .i64 xa := hd { on := 28, ground := .data } (by simp) rfl
                  rw [Array.getD_eq_getD_getElem?] at t109
                  refine .inl ⟨(by simp only [Region.wanted]; rw [yielded_of (d := 105) (by rfl) g105]; rfl), ?_⟩
                  clear g105
                  go_simp
                  exact ⟨Below.refl _ _, rfl⟩
                · have t105 : a.tmps.getD 105 undef = .bool false := hd { on := 24, ground := .data } (by simp) rfl
                  rw [Array.getD_eq_getD_getElem?] at t105
                  have t110 : a.tmps.getD 110 undef = .bool false := hd { on := 29, ground := .data } (by simp) rfl
                  rw [Array.getD_eq_getD_getElem?] at t110
                  refine .inl ⟨rfl, ?_⟩
                  go_simp
                  exact ⟨Below.refl _ _, rfl⟩
                · have t111 : a.tmps.getD 111 undef = .bool false := hd { on := 30, ground := .data } (by simp) rfl
                  rw [Array.getD_eq_getD_getElem?] at t111
                  refine .inl ⟨rfl, ?_⟩
                  go_simp
                  exact ⟨Below.refl _ _, rfl⟩
                · have g112 : a.eval (.tmp 112) = .bool false := hd { on := 31, ground := .guard } (by simp) rfl
                  have t15 : a.tmps.getD 15 undef = .pointer (some ⟨tb, 0, none⟩) := hF.at 15 (by kernel_rfl)
                  rw [Array.getD_eq_getD_getElem?] at t15
                  refine .inl ⟨(by simp only [Region.wanted]; rw [yielded_of (d := 112) (by rfl) g112]; rfl), ?_⟩
                  clear g112
                  go_simp
                  exact ⟨Below.refl _ _, rfl⟩
                · have g112 : a.eval (.tmp 112) = .bool false := hd { on := 31, ground := .guard } (by simp) rfl
                  have t113 : a.tmps.getD 113 undef = .pointer (some ⟨tb, 0, none⟩) := hd { on := 32, ground := .data } (by simp) rfl
                  rw [Array.getD_eq_getD_getElem?] at t113
                  refine .inl ⟨(by simp only [Region.wanted]; rw [yielded_of (d := 112) (by rfl) g112]; rfl), ?_⟩
                  clear g112
                  obtain ⟨z0, z1, z2⟩ := HZt W hE
                  go_simp
                  exact ⟨Below.refl _ _, rfl⟩
                · have g112 : a.eval (.tmp 112) = .bool false := hd { on := 31, ground := .guard } (by simp) rfl
                  have t11 : a.tmps.getD 11 undef = .pointer (some ⟨lb, 0, none⟩) := hF.at 11 (by kernel_rfl)
                  rw [Array.getD_eq_getD_getElem?] at t11
                  refine .inl ⟨(by simp only [Region.wanted]; rw [yielded_of (d := 112) (by rfl) g112]; rfl), ?_⟩
                  clear g112
                  go_simp
                  exact ⟨Below.refl _ _, rfl⟩
                · have g112 : a.eval (.tmp 112) = .bool false := hd { on := 31, ground := .guard } (by simp) rfl
                  have t115 : a.tmps.getD 115 undef = .pointer (some ⟨lb, 0, none⟩) := hd { on := 34, ground := .data } (by simp) rfl
                  rw [Array.getD_eq_getD_getElem?] at t115
                  refine .inl ⟨(by simp only [Region.wanted]; rw [yielded_of (d := 112) (by rfl) g112]; rfl), ?_⟩
                  clear g112
                  obtain ⟨z0, z1, z2⟩ := HZl W hE
                  go_simp
                  exact ⟨Below.refl _ _, rfl⟩
                · have g112 : a.eval (.tmp 112) = .bool false := hd { on := 31, ground := .guard } (by simp) rfl
                  have t114 : a.tmps.getD 114 undef = .int .i64 xa := hd { on := 33, ground := .data } (by simp) rfl
                  rw [Array.getD_eq_getD_getElem?] at t114
                  have t116 : a.tmps.getD 116 undef = .int .i64 last.at_ := hd { on := 35, ground := .data } (by simp) rfl
                  rw [Array.getD_eq_getD_getElem?] at t116
                  refine .inl ⟨(by simp only [Region.wanted]; rw [yielded_of (d := 112) (by rfl) g112]; rfl), ?_⟩
                  clear g112
                  go_simp
                  exact ⟨Below.refl _ _, rfl⟩
                · have t112 : a.tmps.getD 112 undef = .bool false := hd { on := 31, ground := .data } (by simp) rfl
                  rw [Array.getD_eq_getD_getElem?] at t112
                  have t117 : a.tmps.getD 117 undef = .bool false := hd { on := 36, ground := .data } (by simp) rfl
                  rw [Array.getD_eq_getD_getElem?] at t117
                  refine .inl ⟨rfl, ?_⟩
                  go_simp
                  exact ⟨Below.refl _ _, rfl⟩
                · have t118 : a.tmps.getD 118 undef = .bool false := hd { on := 37, ground := .data } (by simp) rfl
                  rw [Array.getD_eq_getD_getElem?] at t118
                  refine .inl ⟨rfl, ?_⟩
                  go_simp
                  exact ⟨Below.refl _ _, rfl⟩
                · have g119 : a.eval (.tmp 119) = .bool false := hd { on := 38, ground := .guard } (by simp) rfl
                  have t15 : a.tmps.getD 15 undef = .pointer (some ⟨tb, 0, none⟩) := hF.at 15 (by kernel_rfl)
                  rw [Array.getD_eq_getD_getElem?] at t15
                  refine .inl ⟨(by simp only [Region.wanted]; rw [yielded_of (d := 119) (by rfl) g119]; rfl), ?_⟩
                  clear g119
                  go_simp
                  exact ⟨Below.refl _ _, rfl⟩
                · have g119 : a.eval (.tmp 119) = .bool false := hd { on := 38, ground := .guard } (by simp) rfl
                  have t120 : a.tmps.getD 120 undef = .pointer (some ⟨tb, 0, none⟩) := hd { on := 39, ground := .data } (by simp) rfl
                  rw [Array.getD_eq_getD_getElem?] at t120
                  refine .inl ⟨(by simp only [Region.wanted]; rw [yielded_of (d := 119) (by rfl) g119]; rfl), ?_⟩
                  clear g119
                  obtain ⟨z0, z1, z2⟩ := HZt W hE
                  go_simp
                  exact ⟨Below.refl _ _, rfl⟩
                · have g119 : a.eval (.tmp 119) = .bool false := hd { on := 38, ground := .guard } (by simp) rfl
                  have t11 : a.tmps.getD 11 undef = .pointer (some ⟨lb, 0, none⟩) := hF.at 11 (by kernel_rfl)
                  rw [Array.getD_eq_getD_getElem?] at t11
                  refine .inl ⟨(by simp only [Region.wanted]; rw [yielded_of (d := 119) (by rfl) g119]; rfl), ?_⟩
                  clear g119
                  go_simp
                  exact ⟨Below.refl _ _, rfl⟩
                · have g119 : a.eval (.tmp 119) = .bool false := hd { on := 38, ground := .guard } (by simp) rfl
                  have t122 : a.tmps.getD 122 undef = .pointer (some ⟨lb, 0, none⟩) := hd { on := 41, ground := .data } (by simp) rfl
                  rw [Array.getD_eq_getD_getElem?] at t122
                  refine .inl ⟨(by simp only [Region.wanted]; rw [yielded_of (d := 119) (by rfl) g119]; rfl), ?_⟩
                  clear g119
                  obtain ⟨z0, z1, z2⟩ := HZl W hE
                  go_simp
                  exact ⟨Below.refl _ _, rfl⟩
                · cases e1 with
                  | false =>
                    have g119 : a.eval (.tmp 119) = .bool false := hd { on := 38, ground := .guard } (by simp) rfl
                    have t121 : a.tmps.getD 121 undef = .int .i64 xa := hd { on := 40, ground := .data } (by simp) rfl
                    rw [Array.getD_eq_getD_getElem?] at t121
                    have t123 : a.tmps.getD 123 undef = .int .i64 last.at_ := hd { on := 42, ground := .data } (by simp) rfl
                    rw [Array.getD_eq_getD_getElem?] at t123
                    refine .inl ⟨(by simp only [Region.wanted]; rw [yielded_of (d := 119) (by rfl) g119]; rfl), ?_⟩
                    clear g119
                    go_simp
                    exact ⟨Below.refl _ _, rfl⟩
                  | true =>
                    have g119 : a.eval (.tmp 119) = .bool false := hd { on := 38, ground := .guard } (by simp) rfl
                    have t121 : a.tmps.getD 121 undef = .int .i64 xa := hd { on := 40, ground := .data } (by simp) rfl
                    rw [Array.getD_eq_getD_getElem?] at t121
                    have t123 : a.tmps.getD 123 undef = .int .i64 last.at_ := hd { on := 42, ground := .data } (by simp) rfl
                    rw [Array.getD_eq_getD_getElem?] at t123
                    refine .inl ⟨(by simp only [Region.wanted]; rw [yielded_of (d := 119) (by rfl) g119]; rfl), ?_⟩
                    clear g119
                    go_simp
                    exact ⟨Below.refl _ _, rfl⟩
                · cases e1 with
                  | false =>
                    have g119 : a.eval (.tmp 119) = .bool false := hd { on := 38, ground := .guard } (by simp) rfl
                    have t124 : a.tmps.getD 124 undef = .bool false := hd { on := 43, ground := .data } (by simp) rfl
                    rw [Array.getD_eq_getD_getElem?] at t124
                    refine .inl ⟨(by simp only [Region.wanted]; rw [yielded_of (d := 119) (by rfl) g119]; rfl), ?_⟩
                    clear g119
                    go_simp
                    exact ⟨Below.refl _ _, rfl⟩
                  | true =>
                    have g119 : a.eval (.tmp 119) = .bool false := hd { on := 38, ground := .guard } (by simp) rfl
                    have t124 : a.tmps.getD 124 undef = .bool true := hd { on := 43, ground := .data } (by simp) rfl
                    rw [Array.getD_eq_getD_getElem?] at t124
                    refine .inl ⟨(by simp only [Region.wanted]; rw [yielded_of (d := 119) (by rfl) g119]; rfl), ?_⟩
                    clear g119
                    go_simp
                    exact ⟨Below.refl _ _, rfl⟩
                · cases e1 with
                  | false =>
                    have g125 : a.eval (.tmp 125) = .bool false := hd { on := 44, ground := .guard } (by simp) rfl
                    exact .inr ⟨(by simp only [Region.wanted]; rw [yielded_of (d := 125) (by rfl) g125]; rfl), rfl⟩
                  | true =>
                    have g125 : a.eval (.tmp 125) = .bool true := hd { on := 44, ground := .guard } (by simp) rfl
                    have t15 : a.tmps.getD 15 undef = .pointer (some ⟨tb, 0, none⟩) := hF.at 15 (by kernel_rfl)
                    rw [Array.getD_eq_getD_getElem?] at t15
                    refine .inl ⟨(by simp only [Region.wanted]; rw [yielded_of (d := 125) (by rfl) g125]; rfl), ?_⟩
                    clear g125
                    go_simp
                    exact ⟨Below.refl _ _, rfl⟩
                · cases e1 with
                  | false =>
                    have g125 : a.eval (.tmp 125) = .bool false := hd { on := 44, ground := .guard } (by simp) rfl
                    exact .inr ⟨(by simp only [Region.wanted]; rw [yielded_of (d := 125) (by rfl) g125]; rfl), rfl⟩
                  | true =>
                    have g125 : a.eval (.tmp 125) = .bool true := hd { on := 44, ground := .guard } (by simp) rfl
                    have t126 : a.tmps.getD 126 undef = .pointer (some ⟨tb, 1, none⟩) := hd { on := 45, ground := .data } (by simp) rfl
                    rw [Array.getD_eq_getD_getElem?] at t126
                    refine .inl ⟨(by simp only [Region.wanted]; rw [yielded_of (d := 125) (by rfl) g125]; rfl), ?_⟩
                    clear g125
                    obtain ⟨z0, z1, z2⟩ := HZt W hE
                    go_simp
                    exact ⟨Below.refl _ _, rfl⟩
                · cases e1 with
                  | false =>
                    have g125 : a.eval (.tmp 125) = .bool false := hd { on := 44, ground := .guard } (by simp) rfl
                    exact .inr ⟨(by simp only [Region.wanted]; rw [yielded_of (d := 125) (by rfl) g125]; rfl), rfl⟩
                  | true =>
                    have g125 : a.eval (.tmp 125) = .bool true := hd { on := 44, ground := .guard } (by simp) rfl
                    have t11 : a.tmps.getD 11 undef = .pointer (some ⟨lb, 0, none⟩) := hF.at 11 (by kernel_rfl)
                    rw [Array.getD_eq_getD_getElem?] at t11
                    refine .inl ⟨(by simp only [Region.wanted]; rw [yielded_of (d := 125) (by rfl) g125]; rfl), ?_⟩
                    clear g125
                    go_simp
                    exact ⟨Below.refl _ _, rfl⟩
                · cases e1 with
                  | false =>
                    have g125 : a.eval (.tmp 125) = .bool false := hd { on := 44, ground := .guard } (by simp) rfl
                    exact .inr ⟨(by simp only [Region.wanted]; rw [yielded_of (d := 125) (by rfl) g125]; rfl), rfl⟩
                  | true =>
                    have g125 : a.eval (.tmp 125) = .bool true := hd { on := 44, ground := .guard } (by simp) rfl
                    have t128 : a.tmps.getD 128 undef = .pointer (some ⟨lb, 1, none⟩) := hd { on := 47, ground := .data } (by simp) rfl
                    rw [Array.getD_eq_getD_getElem?] at t128
                    refine .inl ⟨(by simp only [Region.wanted]; rw [yielded_of (d := 125) (by rfl) g125]; rfl), ?_⟩
                    clear g125
                    obtain ⟨z0, z1, z2⟩ := HZl W hE
                    go_simp
                    exact ⟨Below.refl _ _, rfl⟩
                · cases e1 with
                  | false =>
                    have g125 : a.eval (.tmp 125) = .bool false := hd { on := 44, ground := .guard } (by simp) rfl
                    exact .inr ⟨(by simp only [Region.wanted]; rw [yielded_of (d := 125) (by rfl) g125]; rfl), rfl⟩
                  | true =>
                    cases e2 with
                    | false =>
                      have g125 : a.eval (.tmp 125) = .bool true := hd { on := 44, ground := .guard } (by simp) rfl
                      have t127 : a.tmps.getD 127 undef = .int .i64 xk := hd { on := 46, ground := .data } (by simp) rfl
                      rw [Array.getD_eq_getD_getElem?] at t127
                      have t129 : a.tmps.getD 129 undef = .int .i64 last.kind := hd { on := 48, ground := .data } (by simp) rfl
                      rw [Array.getD_eq_getD_getElem?] at t129
                      refine .inl ⟨(by simp only [Region.wanted]; rw [yielded_of (d := 125) (by rfl) g125]; rfl), ?_⟩
                      clear g125
                      go_simp
                      exact ⟨Below.refl _ _, rfl⟩
                    | true =>
                      have g125 : a.eval (.tmp 125) = .bool true := hd { on := 44, ground := .guard } (by simp) rfl
                      have t127 : a.tmps.getD 127 undef = .int .i64 xk := hd { on := 46, ground := .data } (by simp) rfl
                      rw [Array.getD_eq_getD_getElem?] at t127
                      have t129 : a.tmps.getD 129 undef = .int .i64 last.kind := hd { on := 48, ground := .data } (by simp) rfl
                      rw [Array.getD_eq_getD_getElem?] at t129
                      refine .inl ⟨(by simp only [Region.wanted]; rw [yielded_of (d := 125) (by rfl) g125]; rfl), ?_⟩
                      clear g125
                      go_simp
                      exact ⟨Below.refl _ _, rfl⟩
                · cases e1 with
                  | false =>
                    have g125 : a.eval (.tmp 125) = .bool false := hd { on := 44, ground := .guard } (by simp) rfl
                    exact .inr ⟨(by simp only [Region.wanted]; rw [yielded_of (d := 125) (by rfl) g125]; rfl), rfl⟩
                  | true =>
                    cases e2 with
                    | false =>
                      have g125 : a.eval (.tmp 125) = .bool true := hd { on := 44, ground := .guard } (by simp) rfl
                      have t130 : a.tmps.getD 130 undef = .bool false := hd { on := 49, ground := .data } (by simp) rfl
                      rw [Array.getD_eq_getD_getElem?] at t130
                      refine .inl ⟨(by simp only [Region.wanted]; rw [yielded_of (d := 125) (by rfl) g125]; rfl), ?_⟩
                      clear g125
                      go_simp
                      exact ⟨Below.refl _ _, rfl⟩
                    | true =>
                      have g125 : a.eval (.tmp 125) = .bool true := hd { on := 44, ground := .guard } (by simp) rfl
                      have t130 : a.tmps.getD 130 undef = .bool true := hd { on := 49, ground := .data } (by simp) rfl
                      rw [Array.getD_eq_getD_getElem?] at t130
                      refine .inl ⟨(by simp only [Region.wanted]; rw [yielded_of (d := 125) (by rfl) g125]; rfl), ?_⟩
                      clear g125
                      go_simp
                      exact ⟨Below.refl _ _, rfl⟩
                · cases e1 with
                  | false =>
                    have g131 : a.eval (.tmp 131) = undef := hd { on := 50, ground := .guard } (by simp) rfl
                    exact .inr ⟨(by simp only [Region.wanted]; rw [yielded_undef (d := 131) (by rfl) g131]; rfl), rfl⟩
                  | true =>
                    cases e2 with
                    | false =>
                      have g131 : a.eval (.tmp 131) = .bool false := hd { on := 50, ground := .guard } (by simp) rfl
                      have t15 : a.tmps.getD 15 undef = .pointer (some ⟨tb, 0, none⟩) := hF.at 15 (by kernel_rfl)
                      rw [Array.getD_eq_getD_getElem?] at t15
                      refine .inl ⟨(by simp only [Region.wanted]; rw [yielded_of (d := 131) (by rfl) g131]; rfl), ?_⟩
                      clear g131
                      go_simp
                      exact ⟨Below.refl _ _, rfl⟩
                    | true =>
                      have g131 : a.eval (.tmp 131) = .bool true := hd { on := 50, ground := .guard } (by simp) rfl
                      exact .inr ⟨(by simp only [Region.wanted]; rw [yielded_of (d := 131) (by rfl) g131]; rfl), rfl⟩
                · cases e1 with
                  | false =>
                    have g131 : a.eval (.tmp 131) = undef := hd { on := 50, ground := .guard } (by simp) rfl
                    exact .inr ⟨(by simp only [Region.wanted]; rw [yielded_undef (d := 131) (by rfl) g131]; rfl), rfl⟩
                  | true =>
                    cases e2 with
                    | false =>
                      have g131 : a.eval (.tmp 131) = .bool false := hd { on := 50, ground := .guard } (by simp) rfl
                      have t132 : a.tmps.getD 132 undef = .pointer (some ⟨tb, 1, none⟩) := hd { on := 51, ground := .data } (by simp) rfl
                      rw [Array.getD_eq_getD_getElem?] at t132
                      refine .inl ⟨(by simp only [Region.wanted]; rw [yielded_of (d := 131) (by rfl) g131]; rfl), ?_⟩
                      clear g131
                      obtain ⟨z0, z1, z2⟩ := HZt W hE
                      go_simp
                      exact ⟨Below.refl _ _, rfl⟩
                    | true =>
                      have g131 : a.eval (.tmp 131) = .bool true := hd { on := 50, ground := .guard } (by simp) rfl
                      exact .inr ⟨(by simp only [Region.wanted]; rw [yielded_of (d := 131) (by rfl) g131]; rfl), rfl⟩
                · cases e1 with
                  | false =>
                    have g131 : a.eval (.tmp 131) = undef := hd { on := 50, ground := .guard } (by simp) rfl
                    exact .inr ⟨(by simp only [Region.wanted]; rw [yielded_undef (d := 131) (by rfl) g131]; rfl), rfl⟩
                  | true =>
                    cases e2 with
                    | false =>
                      have g131 : a.eval (.tmp 131) = .bool false := hd { on := 50, ground := .guard } (by simp) rfl
                      have t11 : a.tmps.getD 11 undef = .pointer (some ⟨lb, 0, none⟩) := hF.at 11 (by kernel_rfl)
                      rw [Array.getD_eq_getD_getElem?] at t11
                      refine .inl ⟨(by simp only [Region.wanted]; rw [yielded_of (d := 131) (by rfl) g131]; rfl), ?_⟩
                      clear g131
                      go_simp
                      exact ⟨Below.refl _ _, rfl⟩
                    | true =>
                      have g131 : a.eval (.tmp 131) = .bool true := hd { on := 50, ground := .guard } (by simp) rfl
                      exact .inr ⟨(by simp only [Region.wanted]; rw [yielded_of (d := 131) (by rfl) g131]; rfl), rfl⟩
                · cases e1 with
                  | false =>
                    have g131 : a.eval (.tmp 131) = undef := hd { on := 50, ground := .guard } (by simp) rfl
                    exact .inr ⟨(by simp only [Region.wanted]; rw [yielded_undef (d := 131) (by rfl) g131]; rfl), rfl⟩
                  | true =>
                    cases e2 with
                    | false =>
                      have g131 : a.eval (.tmp 131) = .bool false := hd { on := 50, ground := .guard } (by simp) rfl
                      have t134 : a.tmps.getD 134 undef = .pointer (some ⟨lb, 1, none⟩) := hd { on := 53, ground := .data } (by simp) rfl
                      rw [Array.getD_eq_getD_getElem?] at t134
                      refine .inl ⟨(by simp only [Region.wanted]; rw [yielded_of (d := 131) (by rfl) g131]; rfl), ?_⟩
                      clear g131
                      obtain ⟨z0, z1, z2⟩ := HZl W hE
                      go_simp
                      exact ⟨Below.refl _ _, rfl⟩
                    | true =>
                      have g131 : a.eval (.tmp 131) = .bool true := hd { on := 50, ground := .guard } (by simp) rfl
                      exact .inr ⟨(by simp only [Region.wanted]; rw [yielded_of (d := 131) (by rfl) g131]; rfl), rfl⟩
                · cases e1 with
                  | false =>
                    have g131 : a.eval (.tmp 131) = undef := hd { on := 50, ground := .guard } (by simp) rfl
                    exact .inr ⟨(by simp only [Region.wanted]; rw [yielded_undef (d := 131) (by rfl) g131]; rfl), rfl⟩
                  | true =>
                    cases e2 with
                    | false =>
                      cases e3 with
                      | false =>
                        have g131 : a.eval (.tmp 131) = .bool false := hd { on := 50, ground := .guard } (by simp) rfl
                        have t133 : a.tmps.getD 133 undef = .int .i64 xk := hd { on := 52, ground := .data } (by simp) rfl
                        rw [Array.getD_eq_getD_getElem?] at t133
                        have t135 : a.tmps.getD 135 undef = .int .i64 last.kind := hd { on := 54, ground := .data } (by simp) rfl
                        rw [Array.getD_eq_getD_getElem?] at t135
                        refine .inl ⟨(by simp only [Region.wanted]; rw [yielded_of (d := 131) (by rfl) g131]; rfl), ?_⟩
                        clear g131
                        go_simp
                        exact ⟨Below.refl _ _, rfl⟩
                      | true =>
                        have g131 : a.eval (.tmp 131) = .bool false := hd { on := 50, ground := .guard } (by simp) rfl
                        have t133 : a.tmps.getD 133 undef = .int .i64 xk := hd { on := 52, ground := .data } (by simp) rfl
                        rw [Array.getD_eq_getD_getElem?] at t133
                        have t135 : a.tmps.getD 135 undef = .int .i64 last.kind := hd { on := 54, ground := .data } (by simp) rfl
                        rw [Array.getD_eq_getD_getElem?] at t135
                        refine .inl ⟨(by simp only [Region.wanted]; rw [yielded_of (d := 131) (by rfl) g131]; rfl), ?_⟩
                        clear g131
                        go_simp
                        exact ⟨Below.refl _ _, rfl⟩
                    | true =>
                      have g131 : a.eval (.tmp 131) = .bool true := hd { on := 50, ground := .guard } (by simp) rfl
                      exact .inr ⟨(by simp only [Region.wanted]; rw [yielded_of (d := 131) (by rfl) g131]; rfl), rfl⟩
                · cases e1 with
                  | false =>
                    have g131 : a.eval (.tmp 131) = undef := hd { on := 50, ground := .guard } (by simp) rfl
                    exact .inr ⟨(by simp only [Region.wanted]; rw [yielded_undef (d := 131) (by rfl) g131]; rfl), rfl⟩
                  | true =>
                    cases e2 with
                    | false =>
                      cases e3 with
                      | false =>
                        have g131 : a.eval (.tmp 131) = .bool false := hd { on := 50, ground := .guard } (by simp) rfl
                        have t136 : a.tmps.getD 136 undef = .bool false := hd { on := 55, ground := .data } (by simp) rfl
                        rw [Array.getD_eq_getD_getElem?] at t136
                        refine .inl ⟨(by simp only [Region.wanted]; rw [yielded_of (d := 131) (by rfl) g131]; rfl), ?_⟩
                        clear g131
                        go_simp
                        exact ⟨Below.refl _ _, rfl⟩
                      | true =>
                        have g131 : a.eval (.tmp 131) = .bool false := hd { on := 50, ground := .guard } (by simp) rfl
                        have t136 : a.tmps.getD 136 undef = .bool true := hd { on := 55, ground := .data } (by simp) rfl
                        rw [Array.getD_eq_getD_getElem?] at t136
                        refine .inl ⟨(by simp only [Region.wanted]; rw [yielded_of (d := 131) (by rfl) g131]; rfl), ?_⟩
                        clear g131
                        go_simp
                        exact ⟨Below.refl _ _, rfl⟩
                    | true =>
                      have g131 : a.eval (.tmp 131) = .bool true := hd { on := 50, ground := .guard } (by simp) rfl
                      exact .inr ⟨(by simp only [Region.wanted]; rw [yielded_of (d := 131) (by rfl) g131]; rfl), rfl⟩
                · cases e1 with
                  | false =>
                    have g137 : a.eval (.tmp 137) = undef := hd { on := 56, ground := .guard } (by simp) rfl
                    exact .inr ⟨(by simp only [Region.wanted]; rw [yielded_undef (d := 137) (by rfl) g137]; rfl), rfl⟩
                  | true =>
                    cases e2 with
                    | false =>
                      cases e3 with
                      | false =>
                        have g137 : a.eval (.tmp 137) = .bool false := hd { on := 56, ground := .guard } (by simp) rfl
                        exact .inr ⟨(by simp only [Region.wanted]; rw [yielded_of (d := 137) (by rfl) g137]; rfl), rfl⟩
                      | true =>
                        have g137 : a.eval (.tmp 137) = .bool true := hd { on := 56, ground := .guard } (by simp) rfl
                        have t15 : a.tmps.getD 15 undef = .pointer (some ⟨tb, 0, none⟩) := hF.at 15 (by kernel_rfl)
                        rw [Array.getD_eq_getD_getElem?] at t15
                        refine .inl ⟨(by simp only [Region.wanted]; rw [yielded_of (d := 137) (by rfl) g137]; rfl), ?_⟩
                        clear g137
                        go_simp
                        exact ⟨Below.refl _ _, rfl⟩
                    | true =>
                      have g137 : a.eval (.tmp 137) = undef := hd { on := 56, ground := .guard } (by simp) rfl
                      exact .inr ⟨(by simp only [Region.wanted]; rw [yielded_undef (d := 137) (by rfl) g137]; rfl), rfl⟩
                · cases e1 with
                  | false =>
                    have g137 : a.eval (.tmp 137) = undef := hd { on := 56, ground := .guard } (by simp) rfl
                    exact .inr ⟨(by simp only [Region.wanted]; rw [yielded_undef (d := 137) (by rfl) g137]; rfl), rfl⟩
                  | true =>
                    cases e2 with
                    | false =>
                      cases e3 with
                      | false =>
                        have g137 : a.eval (.tmp 137) = .bool false := hd { on := 56, ground := .guard } (by simp) rfl
                        exact .inr ⟨(by simp only [Region.wanted]; rw [yielded_of (d := 137) (by rfl) g137]; rfl), rfl⟩
                      | true =>
                        have g137 : a.eval (.tmp 137) = .bool true := hd { on := 56, ground := .guard } (by simp) rfl
                        have t138 : a.tmps.getD 138 undef = .pointer (some ⟨tb, 2, none⟩) := hd { on := 57, ground := .data } (by simp) rfl
                        rw [Array.getD_eq_getD_getElem?] at t138
                        refine .inl ⟨(by simp only [Region.wanted]; rw [yielded_of (d := 137) (by rfl) g137]; rfl), ?_⟩
                        clear g137
                        obtain ⟨z0, z1, z2⟩ := HZt W hE
                        go_simp
                        exact ⟨Below.refl _ _, rfl⟩
                    | true =>
                      have g137 : a.eval (.tmp 137) = undef := hd { on := 56, ground := .guard } (by simp) rfl
                      exact .inr ⟨(by simp only [Region.wanted]; rw [yielded_undef (d := 137) (by rfl) g137]; rfl), rfl⟩
                · cases e1 with
                  | false =>
                    have g137 : a.eval (.tmp 137) = undef := hd { on := 56, ground := .guard } (by simp) rfl
                    exact .inr ⟨(by simp only [Region.wanted]; rw [yielded_undef (d := 137) (by rfl) g137]; rfl), rfl⟩
                  | true =>
                    cases e2 with
                    | false =>
                      cases e3 with
                      | false =>
                        have g137 : a.eval (.tmp 137) = .bool false := hd { on := 56, ground := .guard } (by simp) rfl
                        exact .inr ⟨(by simp only [Region.wanted]; rw [yielded_of (d := 137) (by rfl) g137]; rfl), rfl⟩
                      | true =>
                        have g137 : a.eval (.tmp 137) = .bool true := hd { on := 56, ground := .guard } (by simp) rfl
                        have t11 : a.tmps.getD 11 undef = .pointer (some ⟨lb, 0, none⟩) := hF.at 11 (by kernel_rfl)
                        rw [Array.getD_eq_getD_getElem?] at t11
                        refine .inl ⟨(by simp only [Region.wanted]; rw [yielded_of (d := 137) (by rfl) g137]; rfl), ?_⟩
                        clear g137
                        go_simp
                        exact ⟨Below.refl _ _, rfl⟩
                    | true =>
                      have g137 : a.eval (.tmp 137) = undef := hd { on := 56, ground := .guard } (by simp) rfl
                      exact .inr ⟨(by simp only [Region.wanted]; rw [yielded_undef (d := 137) (by rfl) g137]; rfl), rfl⟩
                · cases e1 with
                  | false =>
                    have g137 : a.eval (.tmp 137) = undef := hd { on := 56, ground := .guard } (by simp) rfl
                    exact .inr ⟨(by simp only [Region.wanted]; rw [yielded_undef (d := 137) (by rfl) g137]; rfl), rfl⟩
                  | true =>
                    cases e2 with
                    | false =>
                      cases e3 with
                      | false =>
                        have g137 : a.eval (.tmp 137) = .bool false := hd { on := 56, ground := .guard } (by simp) rfl
                        exact .inr ⟨(by simp only [Region.wanted]; rw [yielded_of (d := 137) (by rfl) g137]; rfl), rfl⟩
                      | true =>
                        have g137 : a.eval (.tmp 137) = .bool true := hd { on := 56, ground := .guard } (by simp) rfl
                        have t140 : a.tmps.getD 140 undef = .pointer (some ⟨lb, 2, none⟩) := hd { on := 59, ground := .data } (by simp) rfl
                        rw [Array.getD_eq_getD_getElem?] at t140
                        refine .inl ⟨(by simp only [Region.wanted]; rw [yielded_of (d := 137) (by rfl) g137]; rfl), ?_⟩
                        clear g137
                        obtain ⟨z0, z1, z2⟩ := HZl W hE
                        go_simp
                        exact ⟨Below.refl _ _, rfl⟩
                    | true =>
                      have g137 : a.eval (.tmp 137) = undef := hd { on := 56, ground := .guard } (by simp) rfl
                      exact .inr ⟨(by simp only [Region.wanted]; rw [yielded_undef (d := 137) (by rfl) g137]; rfl), rfl⟩
                · cases e1 with
                  | false =>
                    have g137 : a.eval (.tmp 137) = undef := hd { on := 56, ground := .guard } (by simp) rfl
                    exact .inr ⟨(by simp only [Region.wanted]; rw [yielded_undef (d := 137) (by rfl) g137]; rfl), rfl⟩
                  | true =>
                    cases e2 with
                    | false =>
                      cases e3 with
                      | false =>
                        have g137 : a.eval (.tmp 137) = .bool false := hd { on := 56, ground := .guard } (by simp) rfl
                        exact .inr ⟨(by simp only [Region.wanted]; rw [yielded_of (d := 137) (by rfl) g137]; rfl), rfl⟩
                      | true =>
                        cases e4 with
                        | false =>
                          have g137 : a.eval (.tmp 137) = .bool true := hd { on := 56, ground := .guard } (by simp) rfl
                          have t139 : a.tmps.getD 139 undef = .int .i64 xi := hd { on := 58, ground := .data } (by simp) rfl
                          rw [Array.getD_eq_getD_getElem?] at t139
                          have t141 : a.tmps.getD 141 undef = .int .i64 last.id := hd { on := 60, ground := .data } (by simp) rfl
                          rw [Array.getD_eq_getD_getElem?] at t141
                          refine .inl ⟨(by simp only [Region.wanted]; rw [yielded_of (d := 137) (by rfl) g137]; rfl), ?_⟩
                          clear g137
                          go_simp
                          exact ⟨Below.refl _ _, rfl⟩
                        | true =>
                          have g137 : a.eval (.tmp 137) = .bool true := hd { on := 56, ground := .guard } (by simp) rfl
                          have t139 : a.tmps.getD 139 undef = .int .i64 xi := hd { on := 58, ground := .data } (by simp) rfl
                          rw [Array.getD_eq_getD_getElem?] at t139
                          have t141 : a.tmps.getD 141 undef = .int .i64 last.id := hd { on := 60, ground := .data } (by simp) rfl
                          rw [Array.getD_eq_getD_getElem?] at t141
                          refine .inl ⟨(by simp only [Region.wanted]; rw [yielded_of (d := 137) (by rfl) g137]; rfl), ?_⟩
                          clear g137
                          go_simp
                          exact ⟨Below.refl _ _, rfl⟩
                    | true =>
                      have g137 : a.eval (.tmp 137) = undef := hd { on := 56, ground := .guard } (by simp) rfl
                      exact .inr ⟨(by simp only [Region.wanted]; rw [yielded_undef (d := 137) (by rfl) g137]; rfl), rfl⟩
                · cases e1 with
                  | false =>
                    have g131 : a.eval (.tmp 131) = undef := hd { on := 50, ground := .guard } (by simp) rfl
                    exact .inr ⟨(by simp only [Region.wanted]; rw [yielded_undef (d := 131) (by rfl) g131]; rfl), rfl⟩
                  | true =>
                    cases e2 with
                    | false =>
                      cases e3 with
                      | false =>
                        have g131 : a.eval (.tmp 131) = .bool false := hd { on := 50, ground := .guard } (by simp) rfl
                        have t137 : a.tmps.getD 137 undef = .bool false := hd { on := 56, ground := .data } (by simp) rfl
                        rw [Array.getD_eq_getD_getElem?] at t137
                        refine .inl ⟨(by simp only [Region.wanted]; rw [yielded_of (d := 131) (by rfl) g131]; rfl), ?_⟩
                        clear g131
                        go_simp
                        exact ⟨Below.refl _ _, rfl⟩
                      | true =>
                        cases e4 with
                        | false =>
                          have g131 : a.eval (.tmp 131) = .bool false := hd { on := 50, ground := .guard } (by simp) rfl
                          have t137 : a.tmps.getD 137 undef = .bool true := hd { on := 56, ground := .data } (by simp) rfl
                          rw [Array.getD_eq_getD_getElem?] at t137
                          have t142 : a.tmps.getD 142 undef = .bool false := hd { on := 61, ground := .data } (by simp) rfl
                          rw [Array.getD_eq_getD_getElem?] at t142
                          refine .inl ⟨(by simp only [Region.wanted]; rw [yielded_of (d := 131) (by rfl) g131]; rfl), ?_⟩
                          clear g131
                          go_simp
                          exact ⟨Below.refl _ _, rfl⟩
                        | true =>
                          have g131 : a.eval (.tmp 131) = .bool false := hd { on := 50, ground := .guard } (by simp) rfl
                          have t137 : a.tmps.getD 137 undef = .bool true := hd { on := 56, ground := .data } (by simp) rfl
                          rw [Array.getD_eq_getD_getElem?] at t137
                          have t142 : a.tmps.getD 142 undef = .bool true := hd { on := 61, ground := .data } (by simp) rfl
                          rw [Array.getD_eq_getD_getElem?] at t142
                          refine .inl ⟨(by simp only [Region.wanted]; rw [yielded_of (d := 131) (by rfl) g131]; rfl), ?_⟩
                          clear g131
                          go_simp
                          exact ⟨Below.refl _ _, rfl⟩
                    | true =>
                      have g131 : a.eval (.tmp 131) = .bool true := hd { on := 50, ground := .guard } (by simp) rfl
                      exact .inr ⟨(by simp only [Region.wanted]; rw [yielded_of (d := 131) (by rfl) g131]; rfl), rfl⟩
                · cases e1 with
                  | false =>
                    have g125 : a.eval (.tmp 125) = .bool false := hd { on := 44, ground := .guard } (by simp) rfl
                    exact .inr ⟨(by simp only [Region.wanted]; rw [yielded_of (d := 125) (by rfl) g125]; rfl), rfl⟩
                  | true =>
                    cases e2 with
                    | false =>
                      cases e3 with
                      | false =>
                        have g125 : a.eval (.tmp 125) = .bool true := hd { on := 44, ground := .guard } (by simp) rfl
                        have t131 : a.tmps.getD 131 undef = .bool false := hd { on := 50, ground := .data } (by simp) rfl
                        rw [Array.getD_eq_getD_getElem?] at t131
                        have t143 : a.tmps.getD 143 undef = .bool false := hd { on := 62, ground := .data } (by simp) rfl
                        rw [Array.getD_eq_getD_getElem?] at t143
                        refine .inl ⟨(by simp only [Region.wanted]; rw [yielded_of (d := 125) (by rfl) g125]; rfl), ?_⟩
                        clear g125
                        go_simp
                        exact ⟨Below.refl _ _, rfl⟩
                      | true =>
                        cases e4 with
                        | false =>
                          have g125 : a.eval (.tmp 125) = .bool true := hd { on := 44, ground := .guard } (by simp) rfl
                          have t131 : a.tmps.getD 131 undef = .bool false := hd { on := 50, ground := .data } (by simp) rfl
                          rw [Array.getD_eq_getD_getElem?] at t131
                          have t143 : a.tmps.getD 143 undef = .bool false := hd { on := 62, ground := .data } (by simp) rfl
                          rw [Array.getD_eq_getD_getElem?] at t143
                          refine .inl ⟨(by simp only [Region.wanted]; rw [yielded_of (d := 125) (by rfl) g125]; rfl), ?_⟩
                          clear g125
                          go_simp
                          exact ⟨Below.refl _ _, rfl⟩
                        | true =>
                          have g125 : a.eval (.tmp 125) = .bool true := hd { on := 44, ground := .guard } (by simp) rfl
                          have t131 : a.tmps.getD 131 undef = .bool false := hd { on := 50, ground := .data } (by simp) rfl
                          rw [Array.getD_eq_getD_getElem?] at t131
                          have t143 : a.tmps.getD 143 undef = .bool true := hd { on := 62, ground := .data } (by simp) rfl
                          rw [Array.getD_eq_getD_getElem?] at t143
                          refine .inl ⟨(by simp only [Region.wanted]; rw [yielded_of (d := 125) (by rfl) g125]; rfl), ?_⟩
                          clear g125
                          go_simp
                          exact ⟨Below.refl _ _, rfl⟩
                    | true =>
                      have g125 : a.eval (.tmp 125) = .bool true := hd { on := 44, ground := .guard } (by simp) rfl
                      have t131 : a.tmps.getD 131 undef = .bool true := hd { on := 50, ground := .data } (by simp) rfl
                      rw [Array.getD_eq_getD_getElem?] at t131
                      refine .inl ⟨(by simp only [Region.wanted]; rw [yielded_of (d := 125) (by rfl) g125]; rfl), ?_⟩
                      clear g125
                      go_simp
                      exact ⟨Below.refl _ _, rfl⟩
                · cases e1 with
                  | false =>
                    have g119 : a.eval (.tmp 119) = .bool false := hd { on := 38, ground := .guard } (by simp) rfl
                    have t125 : a.tmps.getD 125 undef = .bool false := hd { on := 44, ground := .data } (by simp) rfl
                    rw [Array.getD_eq_getD_getElem?] at t125
                    refine .inl ⟨(by simp only [Region.wanted]; rw [yielded_of (d := 119) (by rfl) g119]; rfl), ?_⟩
                    clear g119
                    go_simp
                    exact ⟨Below.refl _ _, rfl⟩
                  | true =>
                    cases e2 with
                    | false =>
                      cases e3 with
                      | false =>
                        have g119 : a.eval (.tmp 119) = .bool false := hd { on := 38, ground := .guard } (by simp) rfl
                        have t125 : a.tmps.getD 125 undef = .bool true := hd { on := 44, ground := .data } (by simp) rfl
                        rw [Array.getD_eq_getD_getElem?] at t125
                        have t144 : a.tmps.getD 144 undef = .bool false := hd { on := 63, ground := .data } (by simp) rfl
                        rw [Array.getD_eq_getD_getElem?] at t144
                        refine .inl ⟨(by simp only [Region.wanted]; rw [yielded_of (d := 119) (by rfl) g119]; rfl), ?_⟩
                        clear g119
                        go_simp
                        exact ⟨Below.refl _ _, rfl⟩
                      | true =>
                        cases e4 with
                        | false =>
                          have g119 : a.eval (.tmp 119) = .bool false := hd { on := 38, ground := .guard } (by simp) rfl
                          have t125 : a.tmps.getD 125 undef = .bool true := hd { on := 44, ground := .data } (by simp) rfl
                          rw [Array.getD_eq_getD_getElem?] at t125
                          have t144 : a.tmps.getD 144 undef = .bool false := hd { on := 63, ground := .data } (by simp) rfl
                          rw [Array.getD_eq_getD_getElem?] at t144
                          refine .inl ⟨(by simp only [Region.wanted]; rw [yielded_of (d := 119) (by rfl) g119]; rfl), ?_⟩
                          clear g119
                          go_simp
                          exact ⟨Below.refl _ _, rfl⟩
                        | true =>
                          have g119 : a.eval (.tmp 119) = .bool false := hd { on := 38, ground := .guard } (by simp) rfl
                          have t125 : a.tmps.getD 125 undef = .bool true := hd { on := 44, ground := .data } (by simp) rfl
                          rw [Array.getD_eq_getD_getElem?] at t125
                          have t144 : a.tmps.getD 144 undef = .bool true := hd { on := 63, ground := .data } (by simp) rfl
                          rw [Array.getD_eq_getD_getElem?] at t144
                          refine .inl ⟨(by simp only [Region.wanted]; rw [yielded_of (d := 119) (by rfl) g119]; rfl), ?_⟩
                          clear g119
                          go_simp
                          exact ⟨Below.refl _ _, rfl⟩
                    | true =>
                      have g119 : a.eval (.tmp 119) = .bool false := hd { on := 38, ground := .guard } (by simp) rfl
                      have t125 : a.tmps.getD 125 undef = .bool true := hd { on := 44, ground := .data } (by simp) rfl
                      rw [Array.getD_eq_getD_getElem?] at t125
                      have t144 : a.tmps.getD 144 undef = .bool true := hd { on := 63, ground := .data } (by simp) rfl
                      rw [Array.getD_eq_getD_getElem?] at t144
                      refine .inl ⟨(by simp only [Region.wanted]; rw [yielded_of (d := 119) (by rfl) g119]; rfl), ?_⟩
                      clear g119
                      go_simp
                      exact ⟨Below.refl _ _, rfl⟩
                · cases e1 with
                  | false =>
                    have g119 : a.eval (.tmp 119) = .bool false := hd { on := 38, ground := .guard } (by simp) rfl
                    have t145 : a.tmps.getD 145 undef = .bool false := hd { on := 64, ground := .data } (by simp) rfl
                    rw [Array.getD_eq_getD_getElem?] at t145
                    refine .inl ⟨(by simp only [Region.wanted]; rw [yielded_of (d := 119) (by rfl) g119]; rfl), ?_⟩
                    clear g119
                    go_simp
                    exact ⟨Below.refl _ _, rfl⟩
                  | true =>
                    cases e2 with
                    | false =>
                      cases e3 with
                      | false =>
                        have g119 : a.eval (.tmp 119) = .bool false := hd { on := 38, ground := .guard } (by simp) rfl
                        have t145 : a.tmps.getD 145 undef = .bool false := hd { on := 64, ground := .data } (by simp) rfl
                        rw [Array.getD_eq_getD_getElem?] at t145
                        refine .inl ⟨(by simp only [Region.wanted]; rw [yielded_of (d := 119) (by rfl) g119]; rfl), ?_⟩
                        clear g119
                        go_simp
                        exact ⟨Below.refl _ _, rfl⟩
                      | true =>
                        cases e4 with
                        | false =>
                          have g119 : a.eval (.tmp 119) = .bool false := hd { on := 38, ground := .guard } (by simp) rfl
                          have t145 : a.tmps.getD 145 undef = .bool false := hd { on := 64, ground := .data } (by simp) rfl
                          rw [Array.getD_eq_getD_getElem?] at t145
                          refine .inl ⟨(by simp only [Region.wanted]; rw [yielded_of (d := 119) (by rfl) g119]; rfl), ?_⟩
                          clear g119
                          go_simp
                          exact ⟨Below.refl _ _, rfl⟩
                        | true =>
                          have g119 : a.eval (.tmp 119) = .bool false := hd { on := 38, ground := .guard } (by simp) rfl
                          have t145 : a.tmps.getD 145 undef = .bool true := hd { on := 64, ground := .data } (by simp) rfl
                          rw [Array.getD_eq_getD_getElem?] at t145
                          refine .inl ⟨(by simp only [Region.wanted]; rw [yielded_of (d := 119) (by rfl) g119]; rfl), ?_⟩
                          clear g119
                          go_simp
                          exact ⟨Below.refl _ _, rfl⟩
                    | true =>
                      have g119 : a.eval (.tmp 119) = .bool false := hd { on := 38, ground := .guard } (by simp) rfl
                      have t145 : a.tmps.getD 145 undef = .bool true := hd { on := 64, ground := .data } (by simp) rfl
                      rw [Array.getD_eq_getD_getElem?] at t145
                      refine .inl ⟨(by simp only [Region.wanted]; rw [yielded_of (d := 119) (by rfl) g119]; rfl), ?_⟩
                      clear g119
                      go_simp
                      exact ⟨Below.refl _ _, rfl⟩
                · cases e1 with
                  | false =>
                    have g146 : a.eval (.tmp 146) = .bool false := hd { on := 65, ground := .guard } (by simp) rfl
                    exact .inr ⟨(by simp only [Region.wanted]; rw [yielded_of (d := 146) (by rfl) g146]; rfl), rfl⟩
                  | true =>
                    cases e2 with
                    | false =>
                      cases e3 with
                      | false =>
                        have g146 : a.eval (.tmp 146) = .bool false := hd { on := 65, ground := .guard } (by simp) rfl
                        exact .inr ⟨(by simp only [Region.wanted]; rw [yielded_of (d := 146) (by rfl) g146]; rfl), rfl⟩
                      | true =>
                        cases e4 with
                        | false =>
                          have g146 : a.eval (.tmp 146) = .bool false := hd { on := 65, ground := .guard } (by simp) rfl
                          exact .inr ⟨(by simp only [Region.wanted]; rw [yielded_of (d := 146) (by rfl) g146]; rfl), rfl⟩
                        | true =>
                          have g146 : a.eval (.tmp 146) = .bool true := hd { on := 65, ground := .guard } (by simp) rfl
                          have t6 : a.tmps.getD 6 undef = .map (some M) := hF.at 6 (by kernel_rfl)
                          rw [Array.getD_eq_getD_getElem?] at t6
                          refine .inl ⟨(by simp only [Region.wanted]; rw [yielded_of (d := 146) (by rfl) g146]; rfl), ?_⟩
                          clear g146
                          go_simp
                          exact ⟨Below.refl _ _, rfl⟩
                    | true =>
                      have g146 : a.eval (.tmp 146) = .bool true := hd { on := 65, ground := .guard } (by simp) rfl
                      have t6 : a.tmps.getD 6 undef = .map (some M) := hF.at 6 (by kernel_rfl)
                      rw [Array.getD_eq_getD_getElem?] at t6
                      refine .inl ⟨(by simp only [Region.wanted]; rw [yielded_of (d := 146) (by rfl) g146]; rfl), ?_⟩
                      clear g146
                      go_simp
                      exact ⟨Below.refl _ _, rfl⟩
                · cases e1 with
                  | false =>
                    have g146 : a.eval (.tmp 146) = .bool false := hd { on := 65, ground := .guard } (by simp) rfl
                    exact .inr ⟨(by simp only [Region.wanted]; rw [yielded_of (d := 146) (by rfl) g146]; rfl), rfl⟩
                  | true =>
                    cases e2 with
                    | false =>
                      cases e3 with
                      | false =>
                        have g146 : a.eval (.tmp 146) = .bool false := hd { on := 65, ground := .guard } (by simp) rfl
                        exact .inr ⟨(by simp only [Region.wanted]; rw [yielded_of (d := 146) (by rfl) g146]; rfl), rfl⟩
                      | true =>
                        cases e4 with
                        | false =>
                          have g146 : a.eval (.tmp 146) = .bool false := hd { on := 65, ground := .guard } (by simp) rfl
                          exact .inr ⟨(by simp only [Region.wanted]; rw [yielded_of (d := 146) (by rfl) g146]; rfl), rfl⟩
                        | true =>
                          have g146 : a.eval (.tmp 146) = .bool true := hd { on := 65, ground := .guard } (by simp) rfl
                          have t11 : a.tmps.getD 11 undef = .pointer (some ⟨lb, 0, none⟩) := hF.at 11 (by kernel_rfl)
                          rw [Array.getD_eq_getD_getElem?] at t11
                          refine .inl ⟨(by simp only [Region.wanted]; rw [yielded_of (d := 146) (by rfl) g146]; rfl), ?_⟩
                          clear g146
                          obtain ⟨z0, z1, z2⟩ := HZl W hE
                          go_simp
                          exact ⟨Below.refl _ _, rfl⟩
                    | true =>
                      have g146 : a.eval (.tmp 146) = .bool true := hd { on := 65, ground := .guard } (by simp) rfl
                      have t11 : a.tmps.getD 11 undef = .pointer (some ⟨lb, 0, none⟩) := hF.at 11 (by kernel_rfl)
                      rw [Array.getD_eq_getD_getElem?] at t11
                      refine .inl ⟨(by simp only [Region.wanted]; rw [yielded_of (d := 146) (by rfl) g146]; rfl), ?_⟩
                      clear g146
                      obtain ⟨z0, z1, z2⟩ := HZl W hE
                      go_simp
                      exact ⟨Below.refl _ _, rfl⟩
                · cases e1 with
                  | false =>
                    have g146 : a.eval (.tmp 146) = .bool false := hd { on := 65, ground := .guard } (by simp) rfl
                    exact .inr ⟨(by simp only [Region.wanted]; rw [yielded_of (d := 146) (by rfl) g146]; rfl), rfl⟩
                  | true =>
                    cases e2 with
                    | false =>
                      cases e3 with
                      | false =>
                        have g146 : a.eval (.tmp 146) = .bool false := hd { on := 65, ground := .guard } (by simp) rfl
                        exact .inr ⟨(by simp only [Region.wanted]; rw [yielded_of (d := 146) (by rfl) g146]; rfl), rfl⟩
                      | true =>
                        cases e4 with
                        | false =>
                          have g146 : a.eval (.tmp 146) = .bool false := hd { on := 65, ground := .guard } (by simp) rfl
                          exact .inr ⟨(by simp only [Region.wanted]; rw [yielded_of (d := 146) (by rfl) g146]; rfl), rfl⟩
                        | true =>
                          have g146 : a.eval (.tmp 146) = .bool true := hd { on := 65, ground := .guard } (by simp) rfl
                          have t147 : a.tmps.getD 147 undef = .map (some M) := hd { on := 66, ground := .data } (by simp) rfl
                          rw [Array.getD_eq_getD_getElem?] at t147
                          have t148 : a.tmps.getD 148 undef = .agg #[.int .i64 last.at_, .int .i64 last.kind, .int .i64 last.id] := hd { on := 67, ground := .data } (by simp) rfl
                          rw [Array.getD_eq_getD_getElem?] at t148
                          refine .inl ⟨(by simp only [Region.wanted]; rw [yielded_of (d := 146) (by rfl) g146]; rfl), ?_⟩
                          clear g146
                          have m0 := HLkl W hE
                          go_simp
                          exact ⟨Below.refl _ _, rfl⟩
                    | true =>
                      have g146 : a.eval (.tmp 146) = .bool true := hd { on := 65, ground := .guard } (by simp) rfl
                      have t147 : a.tmps.getD 147 undef = .map (some M) := hd { on := 66, ground := .data } (by simp) rfl
                      rw [Array.getD_eq_getD_getElem?] at t147
                      have t148 : a.tmps.getD 148 undef = .agg #[.int .i64 last.at_, .int .i64 last.kind, .int .i64 last.id] := hd { on := 67, ground := .data } (by simp) rfl
                      rw [Array.getD_eq_getD_getElem?] at t148
                      refine .inl ⟨(by simp only [Region.wanted]; rw [yielded_of (d := 146) (by rfl) g146]; rfl), ?_⟩
                      clear g146
                      have m0 := HLkl W hE
                      go_simp
                      exact ⟨Below.refl _ _, rfl⟩
                · cases e1 with
                  | false =>
                    have g146 : a.eval (.tmp 146) = .bool false := hd { on := 65, ground := .guard } (by simp) rfl
                    exact .inr ⟨(by simp only [Region.wanted]; rw [yielded_of (d := 146) (by rfl) g146]; rfl), rfl⟩
                  | true =>
                    cases e2 with
                    | false =>
                      cases e3 with
                      | false =>
                        have g146 : a.eval (.tmp 146) = .bool false := hd { on := 65, ground := .guard } (by simp) rfl
                        exact .inr ⟨(by simp only [Region.wanted]; rw [yielded_of (d := 146) (by rfl) g146]; rfl), rfl⟩
                      | true =>
                        cases e4 with
                        | false =>
                          have g146 : a.eval (.tmp 146) = .bool false := hd { on := 65, ground := .guard } (by simp) rfl
                          exact .inr ⟨(by simp only [Region.wanted]; rw [yielded_of (d := 146) (by rfl) g146]; rfl), rfl⟩
                        | true =>
                          have g146 : a.eval (.tmp 146) = .bool true := hd { on := 65, ground := .guard } (by simp) rfl
                          have t149 : a.tmps.getD 149 undef = .int .i64 gl := hd { on := 68, ground := .data } (by simp) rfl
                          rw [Array.getD_eq_getD_getElem?] at t149
                          refine .inl ⟨(by simp only [Region.wanted]; rw [yielded_of (d := 146) (by rfl) g146]; rfl), ?_⟩
                          clear g146
                          have hg2 : (gl == 2) = false := HK2.out (.inr ⟨by simpa using he3, by simpa using he4⟩) (by simpa using he1)
                          go_simp
                          exact ⟨Below.refl _ _, rfl⟩
                    | true =>
                      have g146 : a.eval (.tmp 146) = .bool true := hd { on := 65, ground := .guard } (by simp) rfl
                      have t149 : a.tmps.getD 149 undef = .int .i64 gl := hd { on := 68, ground := .data } (by simp) rfl
                      rw [Array.getD_eq_getD_getElem?] at t149
                      refine .inl ⟨(by simp only [Region.wanted]; rw [yielded_of (d := 146) (by rfl) g146]; rfl), ?_⟩
                      clear g146
                      have hg2 : (gl == 2) = false := HK2.out (.inl (by simpa using he2)) (by simpa using he1)
                      go_simp
                      exact ⟨Below.refl _ _, rfl⟩
                · cases e1 with
                  | false =>
                    have g119 : a.eval (.tmp 119) = .bool false := hd { on := 38, ground := .guard } (by simp) rfl
                    have t146 : a.tmps.getD 146 undef = .bool false := hd { on := 65, ground := .data } (by simp) rfl
                    rw [Array.getD_eq_getD_getElem?] at t146
                    refine .inl ⟨(by simp only [Region.wanted]; rw [yielded_of (d := 119) (by rfl) g119]; rfl), ?_⟩
                    clear g119
                    go_simp
                    exact ⟨Below.refl _ _, rfl⟩
                  | true =>
                    cases e2 with
                    | false =>
                      cases e3 with
                      | false =>
                        have g119 : a.eval (.tmp 119) = .bool false := hd { on := 38, ground := .guard } (by simp) rfl
                        have t146 : a.tmps.getD 146 undef = .bool false := hd { on := 65, ground := .data } (by simp) rfl
                        rw [Array.getD_eq_getD_getElem?] at t146
                        refine .inl ⟨(by simp only [Region.wanted]; rw [yielded_of (d := 119) (by rfl) g119]; rfl), ?_⟩
                        clear g119
                        go_simp
                        exact ⟨Below.refl _ _, rfl⟩
                      | true =>
                        cases e4 with
                        | false =>
                          have g119 : a.eval (.tmp 119) = .bool false := hd { on := 38, ground := .guard } (by simp) rfl
                          have t146 : a.tmps.getD 146 undef = .bool false := hd { on := 65, ground := .data } (by simp) rfl
                          rw [Array.getD_eq_getD_getElem?] at t146
                          refine .inl ⟨(by simp only [Region.wanted]; rw [yielded_of (d := 119) (by rfl) g119]; rfl), ?_⟩
                          clear g119
                          go_simp
                          exact ⟨Below.refl _ _, rfl⟩
                        | true =>
                          have g119 : a.eval (.tmp 119) = .bool false := hd { on := 38, ground := .guard } (by simp) rfl
                          have t146 : a.tmps.getD 146 undef = .bool true := hd { on := 65, ground := .data } (by simp) rfl
                          rw [Array.getD_eq_getD_getElem?] at t146
                          have t150 : a.tmps.getD 150 undef = .bool false := hd { on := 69, ground := .data } (by simp) rfl
                          rw [Array.getD_eq_getD_getElem?] at t150
                          refine .inl ⟨(by simp only [Region.wanted]; rw [yielded_of (d := 119) (by rfl) g119]; rfl), ?_⟩
                          clear g119
                          go_simp
                          exact ⟨Below.refl _ _, rfl⟩
                    | true =>
                      have g119 : a.eval (.tmp 119) = .bool false := hd { on := 38, ground := .guard } (by simp) rfl
                      have t146 : a.tmps.getD 146 undef = .bool true := hd { on := 65, ground := .data } (by simp) rfl
                      rw [Array.getD_eq_getD_getElem?] at t146
                      have t150 : a.tmps.getD 150 undef = .bool false := hd { on := 69, ground := .data } (by simp) rfl
                      rw [Array.getD_eq_getD_getElem?] at t150
                      refine .inl ⟨(by simp only [Region.wanted]; rw [yielded_of (d := 119) (by rfl) g119]; rfl), ?_⟩
                      clear g119
                      go_simp
                      exact ⟨Below.refl _ _, rfl⟩
                · have t119 : a.tmps.getD 119 undef = .bool false := hd { on := 38, ground := .data } (by simp) rfl
                  rw [Array.getD_eq_getD_getElem?] at t119
                  have t151 : a.tmps.getD 151 undef = .bool false := hd { on := 70, ground := .data } (by simp) rfl
                  rw [Array.getD_eq_getD_getElem?] at t151
                  refine .inl ⟨rfl, ?_⟩
                  go_simp
                  exact ⟨Below.refl _ _, rfl⟩
              · intro vs W hE hV
                have h71 : vs 71 = .bool false := hV 71 (by decide)
                have HWW : Hid (Below wc.heap.size wc W) := hE
                clear hV hE
                refine ‹∀ (a : Act) (w : World), Code.wp Try.prog (Code.cond _ _ _) _ a w → _› _ _ ?_
                refine put_run (fun a w => Code.wp Try.prog _ _ a w) 81 [vs 0, vs 1, vs 2, vs 3, vs 4, vs 5, vs 6, vs 7, vs 8, vs 9, vs 10, vs 11, vs 12, vs 13, vs 14, vs 15, vs 16, vs 17, vs 18, vs 19, vs 20, vs 21, vs 22, vs 23, vs 24, vs 25, vs 26, vs 27, vs 28, vs 29, vs 30, vs 31, vs 32, vs 33, vs 34, vs 35, vs 36, vs 37, vs 38, vs 39, vs 40, vs 41, vs 42, vs 43, vs 44, vs 45, vs 46, vs 47, vs 48, vs 49, vs 50, vs 51, vs 52, vs 53, vs 54, vs 55, vs 56, vs 57, vs 58, vs 59, vs 60, vs 61, vs 62, vs 63, vs 64, vs 65, vs 66, vs 67, vs 68, vs 69, vs 70, vs 71] [] rfl ?_
                rw [h71]
                clear h71
                generalize vs 0 = y0
                generalize vs 1 = y1
                generalize vs 2 = y2
                generalize vs 3 = y3
                generalize vs 4 = y4
                generalize vs 5 = y5
                generalize vs 6 = y6
                generalize vs 7 = y7
                generalize vs 8 = y8
                generalize vs 9 = y9
                generalize vs 10 = y10
                generalize vs 11 = y11
                generalize vs 12 = y12
                generalize vs 13 = y13
                generalize vs 14 = y14
                generalize vs 15 = y15
                generalize vs 16 = y16
                generalize vs 17 = y17
                generalize vs 18 = y18
                generalize vs 19 = y19
                generalize vs 20 = y20
                generalize vs 21 = y21
                generalize vs 22 = y22
                generalize vs 23 = y23
                generalize vs 24 = y24
                generalize vs 25 = y25
                generalize vs 26 = y26
                generalize vs 27 = y27
                generalize vs 28 = y28
                generalize vs 29 = y29
                generalize vs 30 = y30
                generalize vs 31 = y31
                generalize vs 32 = y32
                generalize vs 33 = y33
                generalize vs 34 = y34
                generalize vs 35 = y35
                generalize vs 36 = y36
                generalize vs 37 = y37
                generalize vs 38 = y38
                generalize vs 39 = y39
                generalize vs 40 = y40
                generalize vs 41 = y41
                generalize vs 42 = y42
                generalize vs 43 = y43
                generalize vs 44 = y44
                generalize vs 45 = y45
                generalize vs 46 = y46
                generalize vs 47 = y47
                generalize vs 48 = y48
                generalize vs 49 = y49
                generalize vs 50 = y50
                generalize vs 51 = y51
                generalize vs 52 = y52
                generalize vs 53 = y53
                generalize vs 54 = y54
                generalize vs 55 = y55
                generalize vs 56 = y56
                generalize vs 57 = y57
                generalize vs 58 = y58
                generalize vs 59 = y59
                generalize vs 60 = y60
                generalize vs 61 = y61
                generalize vs 62 = y62
                generalize vs 63 = y63
                generalize vs 64 = y64
                generalize vs 65 = y65
                generalize vs 66 = y66
                generalize vs 67 = y67
                generalize vs 68 = y68
                generalize vs 69 = y69
                generalize vs 70 = y70
                simp only [mergeAt_zero, mergeAt_succ, mergeAt_nil, setsL, List.foldl]
                clear HZt HZl HCw HK2 HLkx HLkl he1 he2 he3 he4 e1 e2 e3 e4
                have m3' := (HMc.out.below HWW.out).update timerMapT (by unfold maxLen; omega) hxi (c := 2) (by decide)
                obtain ⟨W5, m5, hm5, hg5⟩ := m3'
                replace m5 : (Instr.mapUpdate 47 (.map (some M)) (.agg #[.int .i64 xa, .int .i64 xk, .int .i64 xi]) (.int .i64 2)).run Try.prog W = .ok () W5 := m5
                have hdb : Below wc.heap.size wc W := HWW.out
                have i0 : W.cell? ⟨tb, 0, none⟩ = some (.int .i64 xa) := (HTc.out.below HWW.out).cell 0
                have i1 : W.cell? ⟨tb, 1, none⟩ = some (.int .i64 xk) := (HTc.out.below HWW.out).cell 1
                have i2 : W.cell? ⟨tb, 2, none⟩ = some (.int .i64 xi) := (HTc.out.below HWW.out).cell 2
                have HM5 : Hid (CountsT Try.prog 29 3 W5 M (m + 1) (fun z => if z = (⟨xa, xk, xi⟩ : TimerT) then 2 else f z)) := hm5
                have HT5 : Hid (HasBox W5 tb 29 (tcells ⟨xa, xk, xi⟩)) := (HTc.out.below hdb).grown hg5 (by simp; exact hMt)
                have HL5 : Hid (HasBox W5 lb 29 (tcells last)) := (HLc.out.below hdb).grown hg5 (by simp; exact hMl)
                have HC5 : Hid (Ck (fun b => b = M ∨ b = lb) w.heap.size w.heap.size xa r W5) := (HCc.out.below hdb).grown (.inl rfl) hg5
                have HB5 : Hid (Below w.heap.size w W5) := (HBc.out.trans (hdb.mono HBc.out.size)).grown hg5 (HBc.out.trans (hdb.mono HBc.out.size)).size (fun k hk => by cases hk; exact hMb)
                clear hm5 hg5 hdb
                have f0 : W5.cell? ⟨tb, 0, none⟩ = some (.int .i64 xa) := HT5.out.cell 0
                have f1 : W5.cell? ⟨tb, 1, none⟩ = some (.int .i64 xk) := HT5.out.cell 1
                have f2 : W5.cell? ⟨tb, 2, none⟩ = some (.int .i64 xi) := HT5.out.cell 2
                go_wp2_with (first | (refine wpList_store_row rfl 29 (.tmp 11) (.tmp 155) rfl lb (tcells ⟨xa, xk, xi⟩) rfl rfl 29 _ HL5.out sizeTimer rfl (by simp [Value.oneCell']) ?_) | fail)
                have HM6 : Hid (CountsT Try.prog 29 3 (W5.setRow lb (tcells ⟨xa, xk, xi⟩)) M (m + 1) (fun z => if z = (⟨xa, xk, xi⟩ : TimerT) then 2 else f z)) := HM5.out.block (setRow_other _ _ _ _ (Ne.symm hMl))
                have HL6 : Hid (HasBox (W5.setRow lb (tcells ⟨xa, xk, xi⟩)) lb 29 (tcells ⟨xa, xk, xi⟩)) := HL5.out.row
                have HC6 : Hid (Ck (fun b => b = M ∨ b = lb) w.heap.size w.heap.size xa r (W5.setRow lb (tcells ⟨xa, xk, xi⟩))) := HC5.out.row (.inr rfl) _
                have HB6 : Hid (Below w.heap.size w (W5.setRow lb (tcells ⟨xa, xk, xi⟩))) := below_row HB5.out hlb0 _
                generalize W5.setRow lb (tcells ⟨xa, xk, xi⟩) = W6 at HM6 HL6 HC6 HB6 ⊢
                clear f0 f1 f2 i0 i1 i2
                go_wp2
                go_roundw
                case rel => go_light; exact ⟨n + 1, xa, r, _, m + 1, ⟨xa, xk, xi⟩, by go_num, by simp at hnl; omega, hle, HC6.out, HM6.out, HMk2.out, HLt2.out, HL6.out, fun t ht => HOk.out t (by simp [ht]), by simp at hmL; omega, HB6.out⟩
                case measure => go_light; simp [intOf]; simp at hnl; omega
            | false =>
              have e0 : nextT now L (D : Int) = (noTimer, false, now, L) := by unfold nextT; rw [hd]; rfl
              rw [e0] at KN
              have hgo : goOK now L (D : Int) = true := by
                unfold goOK top62
                rw [decide_eq_true hnowto, decide_eq_true (by omega), hd]; rfl
              have HLate : Hid (∀ x ∈ L, (D : Int) < x.at_) := HC.out.good.late hd
              clear e0 hd
              go_wp2_with fail
              refine KN.mono ?_
              rintro e w3 ⟨rfl, hC3, hp3⟩
              have HC3 : Hid (Ck (fun b => b = M ∨ b = lb) w.heap.size w.heap.size now L (w3.alloc (.cells (tcells noTimer) 29))) := hC3.below ((Below.refl _ _).alloc (Nat.le_refl _) _)
              have HM3 : Hid (CountsT Try.prog 29 3 (w3.alloc (.cells (tcells noTimer) 29)) M m f) := (HM.out.block (hp3.at_ M (.inl rfl))).below ((Below.refl _ _).alloc (Nat.le_refl _) _)
              have HL3 : Hid (HasBox (w3.alloc (.cells (tcells noTimer) 29)) lb 29 (tcells last)) := (hp3.box (.inr rfl) HLb.out).alloc _
              have HB3 : Hid (Below w.heap.size w (w3.alloc (.cells (tcells noTimer) 29))) := (HB.out.trans hp3.below).alloc (HB.out.trans hp3.below).size _
              have KG := kgo HC3.out hL1 (D : Int)
              rw [hgo, if_pos rfl] at KG
              clear hC3 hp3 KN HC HM HLb HB hgo
              go_wp2_with fail
              refine KG.mono ?_
              rintro e w4 ⟨rfl, hC4, hp4⟩
              have HC4 : Hid (Ck (fun b => b = M ∨ b = lb) w.heap.size w.heap.size (D : Int) L w4) := hC4
              have HM4 : Hid (CountsT Try.prog 29 3 w4 M m f) := HM3.out.block (hp4.at_ M (.inl rfl))
              have HL4 : Hid (HasBox w4 lb 29 (tcells last)) := hp4.box (.inr rfl) HL3.out
              have HB4 : Hid (Below w.heap.size w w4) := HB3.out.trans hp4.below
              clear hC4 hp4 KG HC3 HM3 HL3 HB3
              go_wp2
              go_roundw
              case rel => exact ⟨1, (D : Int), L, f, m, last, .inr (.inl rfl), by first | rfl | go_num, by omega, ⟨fun h => by omega, fun _ => ⟨rfl, HLate.out⟩, fun h => by omega⟩, HC4.out, HM4.out, HMk0.out, HLt.out, HL4.out, HOk.out, hmL, HB4.out⟩
              case measure => simp [intOf]
        · have hnowto : now ≤ (2000 : Int) := by have := (hq1 rfl).1; omega
          have HEx : Hid (∀ x ∈ L, (D : Int) < x.at_) := (hq1 rfl).2
          clear hq0 hq1 hq22
          have hix := HI1.out
          go_wp2
          clear hix
          go_loopw [14] (fun nn wr => ∃ (n : Nat) (now : Int) (L : List TimerT) (f : TimerT → Int) (m : Nat) (last : TimerT), nn = .int .i64 n ∧ n + L.length ≤ 100 ∧ now ≤ (2000 : Int) ∧ Ck (fun b => b = M ∨ b = lb) w.heap.size w.heap.size now L wr ∧ CountsT Try.prog 29 3 wr M m f ∧ Marks f L ∧ LastT f L last ∧ HasBox wr lb 29 (tcells last) ∧ (∀ t ∈ L, inT t ∧ t.at_ ≤ 999) ∧ m + L.length ≤ 1000 ∧ Below w.heap.size w wr ∧ (∀ x ∈ L, (D : Int) < x.at_)) (fun nn _ => 300 - (intOf nn).toNat)
          case atStart => exact ⟨0, now, L, f, m, last, rfl, by omega, hnowto, HC.out, HM.out, HMk0.out, HLt.out, HLb.out, HOk.out, hmL, HB.out, HEx.out⟩
          case round =>
            clear HC HM HMk0 HLt HLb HOk HB hmL hnowto HEx
            obtain ⟨n, now, L, f, m, last, rfl, hnl, hnowto, hC, hM, hMk, hLt, hLb, hOk, hmL, hb, hEx⟩ := hrel
            have HEx : Hid (∀ x ∈ L, (D : Int) < x.at_) := hEx
            clear hEx
            have HC : Hid (Ck (fun b => b = M ∨ b = lb) w.heap.size w.heap.size now L wr) := hC
            have HM : Hid (CountsT Try.prog 29 3 wr M m f) := hM
            have HMk0 : Hid (Marks f L) := hMk
            have HLt : Hid (LastT f L last) := hLt
            have HLb : Hid (HasBox wr lb 29 (tcells last)) := hLb
            have HOk : Hid (∀ t ∈ L, inT t ∧ t.at_ ≤ 999) := hOk
            have HB : Hid (Below w.heap.size w wr) := hb
            have hL1 : L.length ≤ 1000000 := by omega
            clear hC hM hMk hLt hLb hOk hb
            have KN := knext HC.out hL1 (2000 : Int)
            cases hd : dueT L (2000 : Int) with
            | true =>
              obtain ⟨x, r, rfl, hle⟩ := (dueT_iff _ _).1 hd
              obtain ⟨xa, xk, xi⟩ := x
              have hxi : inT ⟨xa, xk, xi⟩ := (HOk.out _ (by simp)).1
              have e0 : nextT now (⟨xa, xk, xi⟩ :: r) (2000 : Int) = (⟨xa, xk, xi⟩, true, xa, r) := by unfold nextT; rw [hd]; rfl
              rw [e0] at KN
              replace hle : xa ≤ (2000 : Int) := hle
              have hgd := HC.out.good
              have HX1 : Hid ((1 : Int) = f ⟨xa, xk, xi⟩) := ((HMk0.out _ hxi).2 (by simp)).symm
              have hlow : 0 ≤ xa := Int.le_trans hgd.low (hgd.from_ ⟨xa, xk, xi⟩ (by simp))
              have hlast : ¬ xa < last.at_ := by
                rcases HLt.out with ⟨h1, _⟩ | ⟨_, _, h3⟩
                · rw [h1]; show ¬ xa < 0; omega
                · have := (ltT_iff _ _).1 (h3 ⟨xa, xk, xi⟩ (by simp))
                  simp only at this
                  omega
              have hli : inT last := by
                rcases HLt.out with ⟨h1, _⟩ | ⟨h1, _⟩
                · rw [h1]; exact inT_none
                · exact h1
              have not2 : xk < last.kind ∨ xk = last.kind ∧ xi ≤ last.id → xa = last.at_ → (f last == 2) = false := fun h ha => by
                rcases HLt.out with ⟨h1, h2⟩ | ⟨_, _, h3⟩
                · rw [beq_eq_false_iff_ne]; rw [h1]; exact h2 _ inT_none
                · have := (ltT_iff _ _).1 (h3 ⟨xa, xk, xi⟩ (by simp))
                  simp only at this
                  omega
              have HNot2 : Hid (xk < last.kind ∨ xk = last.kind ∧ xi ≤ last.id → xa = last.at_ → (f last == 2) = false) := not2
              have HMk2 : Hid (Marks (fun z => if z = (⟨xa, xk, xi⟩ : TimerT) then 2 else f z) r) := marks_gone hgd HMk0.out
              have HLt2 : Hid (LastT (fun z => if z = (⟨xa, xk, xi⟩ : TimerT) then 2 else f z) r ⟨xa, xk, xi⟩) := lastT_gone hgd hxi
              clear e0 hd hgd not2
              go_wp2_with fail
              refine KN.mono ?_
              rintro e w3 ⟨rfl, hC3, hp3⟩
              have HC3 : Hid (Ck (fun b => b = M ∨ b = lb) w.heap.size w.heap.size xa r w3) := hC3
              have HM3 : Hid (CountsT Try.prog 29 3 w3 M m f) := HM.out.block (hp3.at_ M (.inl rfl))
              have HL3 : Hid (HasBox w3 lb 29 (tcells last)) := hp3.box (.inr rfl) HLb.out
              have HB3 : Hid (Below w.heap.size w w3) := HB.out.trans hp3.below
              clear hC3 hp3 KN HC HM HLb HB
              obtain ⟨tb, htb⟩ : ∃ tb, w3.heap.size = tb := ⟨_, rfl⟩
              have hMt : tb ≠ M := by have := HM3.out.lt; omega
              go_upto_region 24 with fail
              generalize hW : w3.alloc _ = wc
              have HTc : Hid (HasBox wc tb 29 (tcells ⟨xa, xk, xi⟩)) := by show HasBox _ _ _ _; rw [← hW, ← htb]; exact hasBox_new w3 _ _
              have HLc : Hid (HasBox wc lb 29 (tcells last)) := by show HasBox _ _ _ _; rw [← hW]; exact HL3.out.alloc _
              have HBc : Hid (Below w.heap.size w wc) := by show Below _ _ _; rw [← hW]; exact HB3.out.alloc HB3.out.size _
              have HMc : Hid (CountsT Try.prog 29 3 wc M m f) := by show CountsT _ _ _ _ _ _ _; rw [← hW]; exact HM3.out.below ((Below.refl _ _).alloc (Nat.le_refl _) _)
              have HCc : Hid (Ck (fun b => b = M ∨ b = lb) w.heap.size w.heap.size xa r wc) := by show Ck _ _ _ _ _ _; rw [← hW]; exact HC3.out.below ((Below.refl _ _).alloc (Nat.le_refl _) _)
              clear hW htb HL3 HB3 HM3 HC3
              have HLkx : ∀ W, Below wc.heap.size wc W → (Instr.lookup 47 (.map (some M)) (.agg #[.int .i64 xa, .int .i64 xk, .int .i64 xi]) false).run Try.prog W = .ok (.int .i64 1) W := fun W p => by
                rw [HX1.out]; exact (HMc.out.below p).lookup timerMapT hxi
              obtain ⟨gl, hfl⟩ : ∃ gl, f last = gl := ⟨_, rfl⟩
              have HLkl : ∀ W, Below wc.heap.size wc W → (Instr.lookup 47 (.map (some M)) (.agg #[.int .i64 last.at_, .int .i64 last.kind, .int .i64 last.id]) false).run Try.prog W = .ok (.int .i64 gl) W := fun W p => by
                rw [← hfl]; exact (HMc.out.below p).lookup timerMapT hli
              have hn200 : decide ((200 : Int) < (n : Int)) = false := decide_eq_false (by omega)
              have hleN : decide ((2000 : Int) < xa) = false := decide_eq_false (by omega)
              have hlast' : decide (xa < last.at_) = false := decide_eq_false (by omega)
              have hmid : decide (xa ≤ (D : Int)) = false := decide_eq_false (by have := HEx.out ⟨xa, xk, xi⟩ (by simp); simp only at this; omega)
              clear HX1 hlow
              have HZt : ∀ W, Below wc.heap.size wc W → W.cell? ⟨tb, 0, none⟩ = some (.int .i64 xa) ∧ W.cell? ⟨tb, 1, none⟩ = some (.int .i64 xk) ∧ W.cell? ⟨tb, 2, none⟩ = some (.int .i64 xi) := fun W p => ⟨(HTc.out.below p).cell 0, (HTc.out.below p).cell 1, (HTc.out.below p).cell 2⟩
              have HZl : ∀ W, Below wc.heap.size wc W → W.cell? ⟨lb, 0, none⟩ = some (.int .i64 last.at_) ∧ W.cell? ⟨lb, 1, none⟩ = some (.int .i64 last.kind) ∧ W.cell? ⟨lb, 2, none⟩ = some (.int .i64 last.id) := fun W p => ⟨(HLc.out.below p).cell 0, (HLc.out.below p).cell 1, (HLc.out.below p).cell 2⟩
              have HCw : ∀ W, Below wc.heap.size wc W → Ck (fun b => b = M ∨ b = lb) w.heap.size w.heap.size xa r W := fun W p => HCc.out.below p
              have HK2 : Hid (xk < last.kind ∨ xk = last.kind ∧ xi ≤ last.id → xa = last.at_ → (gl == 2) = false) := by show _ → _ → _; rw [← hfl]; exact HNot2.out
              obtain ⟨e1, he1⟩ : ∃ e, (xa == last.at_) = e := ⟨_, rfl⟩
              obtain ⟨e2, he2⟩ : ∃ e, decide (xk < last.kind) = e := ⟨_, rfl⟩
              obtain ⟨e3, he3⟩ : ∃ e, (xk == last.kind) = e := ⟨_, rfl⟩
              obtain ⟨e4, he4⟩ : ∃ e, decide (xi ≤ last.id) = e := ⟨_, rfl⟩
              clear hfl HNot2
              go_wp2_with fail
              refine wp_region_mp ([eqP (.int .i64 (n : Nat)), eqP (.bool false), eqP (.bool false), eqP (.pointer (some ⟨tb, 0, none⟩)), eqP (.int .i64 xa), eqP (.int .i64 2000), eqP (.bool false), eqP (.bool false), eqP (.bool false), eqP (.int .i64 1), eqP (.bool true), eqP (.bool true), eqP (.pointer (some ⟨tb, 0, none⟩)), eqP (.int .i64 xa), eqP (.int .i64 (D : Int)), eqP (.bool false), eqP (.bool false), eqP (.bool false), eqP (.bool false), eqP (.map (some M)), eqP (.agg #[.int .i64 xa, .int .i64 xk, .int .i64 xi]), eqP (.int .i64 1), eqP (.bool false), eqP (.bool false), eqP (.bool false), eqP (.pointer (some ⟨w.heap.size, 0, none⟩)), eqP (.int .i64 xa), eqP (.pointer (some ⟨tb, 0, none⟩)), eqP (.int .i64 xa), eqP (.bool false), eqP (.bool false), eqP (.bool false), eqP (.pointer (some ⟨tb, 0, none⟩)), eqP (.int .i64 xa), eqP (.pointer (some ⟨lb, 0, none⟩)), eqP (.int .i64 last.at_), eqP (.bool false), eqP (.bool false), eqP (.bool false), eqP (.pointer (some ⟨tb, 0, none⟩)), eqP (.int .i64 xa), eqP (.pointer (some ⟨lb, 0, none⟩)), eqP (.int .i64 last.at_), eqP (bif e1 then (.bool true) else (.bool false)), eqP (bif e1 then (.bool true) else (.bool false)), eqP (bif e1 then (.pointer (some ⟨tb, 1, none⟩)) else (undef)), eqP (bif e1 then (.int .i64 xk) else (undef)), eqP (bif e1 then (.pointer (some ⟨lb, 1, none⟩)) else (undef)), eqP (bif e1 then (.int .i64 last.kind) else (undef)), eqP (bif e1 then bif e2 then (.bool true) else (.bool false) else (undef)), eqP (bif e1 then bif e2 then (.bool true) else (.bool false) else (undef)), eqP (bif e1 then bif e2 then (undef) else (.pointer (some ⟨tb, 1, none⟩)) else (undef)), eqP (bif e1 then bif e2 then (undef) else (.int .i64 xk) else (undef)), eqP (bif e1 then bif e2 then (undef) else (.pointer (some ⟨lb, 1, none⟩)) else (undef)), eqP (bif e1 then bif e2 then (undef) else (.int .i64 last.kind) else (undef)), eqP (bif e1 then bif e2 then (undef) else bif e3 then (.bool true) else (.bool false) else (undef)), eqP (bif e1 then bif e2 then (undef) else bif e3 then (.bool true) else (.bool false) else (undef)), eqP (bif e1 then bif e2 then (undef) else bif e3 then (.pointer (some ⟨tb, 2, none⟩)) else (undef) else (undef)), eqP (bif e1 then bif e2 then (undef) else bif e3 then (.int .i64 xi) else (undef) else (undef)), eqP (bif e1 then bif e2 then (undef) else bif e3 then (.pointer (some ⟨lb, 2, none⟩)) else (undef) else (undef)), eqP (bif e1 then bif e2 then (undef) else bif e3 then (.int .i64 last.id) else (undef) else (undef)), eqP (bif e1 then bif e2 then (undef) else bif e3 then bif e4 then (.bool true) else (.bool false) else (undef) else (undef)), eqP (bif e1 then bif e2 then (undef) else bif e3 then bif e4 then (.bool true) else (.bool false) else (.bool false) else (undef)), eqP (bif e1 then bif e2 then (.bool true) else bif e3 then bif e4 then (.bool true) else (.bool false) else (.bool false) else (undef)), eqP (bif e1 then bif e2 then (.bool true) else bif e3 then bif e4 then (.bool true) else (.bool false) else (.bool false) else (.bool false)), eqP (bif e1 then bif e2 then (.bool true) else bif e3 then bif e4 then (.bool true) else (.bool false) else (.bool false) else (.bool false)), eqP (bif e1 then bif e2 then (.map (some M)) else bif e3 then bif e4 then (.map (some M)) else (undef) else (undef) else (undef)), eqP (bif e1 then bif e2 then (.agg #[.int .i64 last.at_, .int .i64 last.kind, .int .i64 last.id]) else bif e3 then bif e4 then (.agg #[.int .i64 last.at_, .int .i64 last.kind, .int .i64 last.id]) else (undef) else (undef) else (undef)), eqP (bif e1 then bif e2 then (.int .i64 gl) else bif e3 then bif e4 then (.int .i64 gl) else (undef) else (undef) else (undef)), eqP (bif e1 then bif e2 then (.bool false) else bif e3 then bif e4 then (.bool false) else (undef) else (undef) else (undef)), eqP (.bool false), eqP (.bool false)]) (by kernel_rfl) (by kernel_rfl) ?_ ?_
              · go_light
                simp only
                refine ⟨fun a W hF hE hd => ?_, fun a W hF hE hd => ?_, fun a W hF hE hd => ?_, fun a W hF hE hd => ?_, fun a W hF hE hd => ?_, fun a W hF hE hd => ?_, fun a W hF hE hd => ?_, fun a W hF hE hd => ?_, fun a W hF hE hd => ?_, fun a W hF hE hd => ?_, fun a W hF hE hd => ?_, fun a W hF hE hd => ?_, fun a W hF hE hd => ?_, fun a W hF hE hd => ?_, fun a W hF hE hd => ?_, fun a W hF hE hd => ?_, fun a W hF hE hd => ?_, fun a W hF hE hd => ?_, fun a W hF hE hd => ?_, fun a W hF hE hd => ?_, fun a W hF hE hd => ?_, fun a W hF hE hd => ?_, fun a W hF hE hd => ?_, fun a W hF hE hd => ?_, fun a W hF hE hd => ?_, fun a W hF hE hd => ?_, fun a W hF hE hd => ?_, fun a W hF hE hd => ?_, fun a W hF hE hd => ?_, fun a W hF hE hd => ?_, fun a W hF hE hd => ?_, fun a W hF hE hd => ?_, fun a W hF hE hd => ?_, fun a W hF hE hd => ?_, fun a W hF hE hd => ?_, fun a W hF hE hd => ?_, fun a W hF hE hd => ?_, fun a W hF hE hd => ?_, fun a W hF hE hd => ?_, fun a W hF hE hd => ?_, fun a W hF hE hd => ?_, fun a W hF hE hd => ?_, fun a W hF hE hd => ?_, fun a W hF hE hd => ?_, fun a W hF hE hd => ?_, fun a W hF hE hd => ?_, fun a W hF hE hd => ?_, fun a W hF hE hd => ?_, fun a W hF hE hd => ?_, fun a W hF hE hd => ?_, fun a W hF hE hd => ?_, fun a W hF hE hd => ?_, fun a W hF hE hd => ?_, fun a W hF hE hd => ?_, fun a W hF hE hd => ?_, fun a W hF hE hd => ?_, fun a W hF hE hd => ?_, fun a W hF hE hd => ?_, fun a W hF hE hd => ?_, fun a W hF hE hd => ?_, fun a W hF hE hd => ?_, fun a W hF hE hd => ?_, fun a W hF hE hd => ?_, fun a W hF hE hd => ?_, fun a W hF hE hd => ?_, fun a W hF hE hd => ?_, fun a W hF hE hd => ?_, fun a W hF hE hd => ?_, fun a W hF hE hd => ?_, fun a W hF hE hd => ?_, fun a W hF hE hd => ?_, fun a W hF hE hd => ?_, trivial⟩
                all_goals unfold StepAt
                · have t14 : a.tmps.getD 14 undef = .int .i64 (n : Nat) := hF.at 14 (by kernel_rfl)
                  rw [Array.getD_eq_getD_getElem?] at t14
                  refine .inl ⟨rfl, ?_⟩
                  go_simp
                  exact ⟨Below.refl _ _, rfl⟩
                · have t81 : a.tmps.getD 81 undef = .int .i64 (n : Nat) := hd { on := 0, ground := .data } (by simp) rfl
                  rw [Array.getD_eq_getD_getElem?] at t81
                  refine .inl ⟨rfl, ?_⟩
                  go_simp
                  exact ⟨Below.refl _ _, rfl⟩
                · have t82 : a.tmps.getD 82 undef = .bool false := hd { on := 1, ground := .data } (by simp) rfl
                  rw [Array.getD_eq_getD_getElem?] at t82
                  refine .inl ⟨rfl, ?_⟩
                  go_simp
                  exact ⟨Below.refl _ _, rfl⟩
                · have g83 : a.eval (.tmp 83) = .bool false := hd { on := 2, ground := .guard } (by simp) rfl
                  have t15 : a.tmps.getD 15 undef = .pointer (some ⟨tb, 0, none⟩) := hF.at 15 (by kernel_rfl)
                  rw [Array.getD_eq_getD_getElem?] at t15
                  refine .inl ⟨(by simp only [Region.wanted]; rw [yielded_of (d := 83) (by rfl) g83]; rfl), ?_⟩
                  clear g83
                  go_simp
                  exact ⟨Below.refl _ _, rfl⟩
                · have g83 : a.eval (.tmp 83) = .bool false := hd { on := 2, ground := .guard } (by simp) rfl
                  have t84 : a.tmps.getD 84 undef = .pointer (some ⟨tb, 0, none⟩) := hd { on := 3, ground := .data } (by simp) rfl
                  rw [Array.getD_eq_getD_getElem?] at t84
                  refine .inl ⟨(by simp only [Region.wanted]; rw [yielded_of (d := 83) (by rfl) g83]; rfl), ?_⟩
                  clear g83
                  obtain ⟨z0, z1, z2⟩ := HZt W hE
                  go_simp
                  exact ⟨Below.refl _ _, rfl⟩
                · have g83 : a.eval (.tmp 83) = .bool false := hd { on := 2, ground := .guard } (by simp) rfl
                  have t13 : a.tmps.getD 13 undef = .int .i64 2000 := hF.at 13 (by kernel_rfl)
                  rw [Array.getD_eq_getD_getElem?] at t13
                  refine .inl ⟨(by simp only [Region.wanted]; rw [yielded_of (d := 83) (by rfl) g83]; rfl), ?_⟩
                  clear g83
                  go_simp
                  exact ⟨Below.refl _ _, rfl⟩
                · have g83 : a.eval (.tmp 83) = .bool false := hd { on := 2, ground := .guard } (by simp) rfl
                  have t85 : a.tmps.getD 85 undef = .int .i64 xa := hd { on := 4, ground := .data } (by simp) rfl
                  rw [Array.getD_eq_getD_getElem?] at t85
                  have t86 : a.tmps.getD 86 undef = .int .i64 2000 := hd { on := 5, ground := .data } (by simp) rfl
                  rw [Array.getD_eq_getD_getElem?] at t86
                  refine .inl ⟨(by simp only [Region.wanted]; rw [yielded_of (d := 83) (by rfl) g83]; rfl), ?_⟩
                  clear g83
                  go_simp
                  exact ⟨Below.refl _ _, rfl⟩
                · have t83 : a.tmps.getD 83 undef = .bool false := hd { on := 2, ground := .data } (by simp) rfl
                  rw [Array.getD_eq_getD_getElem?] at t83
                  have t87 : a.tmps.getD 87 undef = .bool false := hd { on := 6, ground := .data } (by simp) rfl
                  rw [Array.getD_eq_getD_getElem?] at t87
                  refine .inl ⟨rfl, ?_⟩
                  go_simp
                  exact ⟨Below.refl _ _, rfl⟩
                · have t88 : a.tmps.getD 88 undef = .bool false := hd { on := 7, ground := .data } (by simp) rfl
                  rw [Array.getD_eq_getD_getElem?] at t88
                  refine .inl ⟨rfl, ?_⟩
                  go_simp
                  exact ⟨Below.refl _ _, rfl⟩
                · have g89 : a.eval (.tmp 89) = .bool false := hd { on := 8, ground := .guard } (by simp) rfl
                  have t12 : a.tmps.getD 12 undef = .int .i64 1 := hF.at 12 (by kernel_rfl)
                  rw [Array.getD_eq_getD_getElem?] at t12
                  refine .inl ⟨(by simp only [Region.wanted]; rw [yielded_of (d := 89) (by rfl) g89]; rfl), ?_⟩
                  clear g89
                  go_simp
                  exact ⟨Below.refl _ _, rfl⟩
                · have g89 : a.eval (.tmp 89) = .bool false := hd { on := 8, ground := .guard } (by simp) rfl
                  have t90 : a.tmps.getD 90 undef = .int .i64 1 := hd { on := 9, ground := .data } (by simp) rfl
                  rw [Array.getD_eq_getD_getElem?] at t90
                  refine .inl ⟨(by simp only [Region.wanted]; rw [yielded_of (d := 89) (by rfl) g89]; rfl), ?_⟩
                  clear g89
                  go_simp
                  exact ⟨Below.refl _ _, rfl⟩
                · have g89 : a.eval (.tmp 89) = .bool false := hd { on := 8, ground := .guard } (by simp) rfl
                  have t91 : a.tmps.getD 91 undef = .bool true := hd { on := 10, ground := .data } (by simp) rfl
                  rw [Array.getD_eq_getD_getElem?] at t91
                  refine .inl ⟨(by simp only [Region.wanted]; rw [yielded_of (d := 89) (by rfl) g89]; rfl), ?_⟩
                  clear g89
                  go_simp
                  exact ⟨Below.refl _ _, rfl⟩
                · have g92 : a.eval (.tmp 92) = .bool true := hd { on := 11, ground := .guard } (by simp) rfl
                  have t15 : a.tmps.getD 15 undef = .pointer (some ⟨tb, 0, none⟩) := hF.at 15 (by kernel_rfl)
                  rw [Array.getD_eq_getD_getElem?] at t15
                  refine .inl ⟨(by simp only [Region.wanted]; rw [yielded_of (d := 92) (by rfl) g92]; rfl), ?_⟩
                  clear g92
                  go_simp
                  exact ⟨Below.refl _ _, rfl⟩
                · have g92 : a.eval (.tmp 92) = .bool true := hd { on := 11, ground := .guard } (by simp) rfl
                  have t93 : a.tmps.getD 93 undef = .pointer (some ⟨tb, 0, none⟩) := hd { on := 12, ground := .data } (by simp) rfl
                  rw [Array.getD_eq_getD_getElem?] at t93
                  refine .inl ⟨(by simp only [Region.wanted]; rw [yielded_of (d := 92) (by rfl) g92]; rfl), ?_⟩
                  clear g92
                  obtain ⟨z0, z1, z2⟩ := HZt W hE
                  go_simp
                  exact ⟨Below.refl _ _, rfl⟩
                · have g92 : a.eval (.tmp 92) = .bool true := hd { on := 11, ground := .guard } (by simp) rfl
                  have t1 : a.tmps.getD 1 undef = .int .i64 (D : Int) := hF.at 1 (by kernel_rfl)
                  rw [Array.getD_eq_getD_getElem?] at t1
                  refine .inl ⟨(by simp only [Region.wanted]; rw [yielded_of (d := 92) (by rfl) g92]; rfl), ?_⟩
                  clear g92
                  go_simp
                  exact ⟨Below.refl _ _, rfl⟩
                · have g92 : a.eval (.tmp 92) = .bool true := hd { on := 11, ground := .guard } (by simp) rfl
                  have t94 : a.tmps.getD 94 undef = .int .i64 xa := hd { on := 13, ground := .data } (by simp) rfl
                  rw [Array.getD_eq_getD_getElem?] at t94
                  have t95 : a.tmps.getD 95 undef = .int .i64 (D : Int) := hd { on := 14, ground := .data } (by simp) rfl
                  rw [Array.getD_eq_getD_getElem?] at t95
                  refine .inl ⟨(by simp only [Region.wanted]; rw [yielded_of (d := 92) (by rfl) g92]; rfl), ?_⟩
                  clear g92
                  go_simp
                  exact ⟨Below.refl _ _, rfl⟩
                · have g89 : a.eval (.tmp 89) = .bool false := hd { on := 8, ground := .guard } (by simp) rfl
                  have t92 : a.tmps.getD 92 undef = .bool true := hd { on := 11, ground := .data } (by simp) rfl
                  rw [Array.getD_eq_getD_getElem?] at t92
                  have t96 : a.tmps.getD 96 undef = .bool false := hd { on := 15, ground := .data } (by simp) rfl
                  rw [Array.getD_eq_getD_getElem?] at t96
                  refine .inl ⟨(by simp only [Region.wanted]; rw [yielded_of (d := 89) (by rfl) g89]; rfl), ?_⟩
                  clear g89
                  go_simp
                  exact ⟨Below.refl _ _, rfl⟩
                · have t89 : a.tmps.getD 89 undef = .bool false := hd { on := 8, ground := .data } (by simp) rfl
                  rw [Array.getD_eq_getD_getElem?] at t89
                  have t97 : a.tmps.getD 97 undef = .bool false := hd { on := 16, ground := .data } (by simp) rfl
                  rw [Array.getD_eq_getD_getElem?] at t97
                  refine .inl ⟨rfl, ?_⟩
                  go_simp
                  exact ⟨Below.refl _ _, rfl⟩
                · have t98 : a.tmps.getD 98 undef = .bool false := hd { on := 17, ground := .data } (by simp) rfl
                  rw [Array.getD_eq_getD_getElem?] at t98
                  refine .inl ⟨rfl, ?_⟩
                  go_simp
                  exact ⟨Below.refl _ _, rfl⟩
                · have g99 : a.eval (.tmp 99) = .bool false := hd { on := 18, ground := .guard } (by simp) rfl
                  have t6 : a.tmps.getD 6 undef = .map (some M) := hF.at 6 (by kernel_rfl)
                  rw [Array.getD_eq_getD_getElem?] at t6
                  refine .inl ⟨(by simp only [Region.wanted]; rw [yielded_of (d := 99) (by rfl) g99]; rfl), ?_⟩
                  clear g99
                  go_simp
                  exact ⟨Below.refl _ _, rfl⟩
                · have g99 : a.eval (.tmp 99) = .bool false := hd { on := 18, ground := .guard } (by simp) rfl
                  have t15 : a.tmps.getD 15 undef = .pointer (some ⟨tb, 0, none⟩) := hF.at 15 (by kernel_rfl)
                  rw [Array.getD_eq_getD_getElem?] at t15
                  refine .inl ⟨(by simp only [Region.wanted]; rw [yielded_of (d := 99) (by rfl) g99]; rfl), ?_⟩
                  clear g99
                  obtain ⟨z0, z1, z2⟩ := HZt W hE
                  go_simp
                  exact ⟨Below.refl _ _, rfl⟩
                · have g99 : a.eval (.tmp 99) = .bool false := hd { on := 18, ground := .guard } (by simp) rfl
                  have t100 : a.tmps.getD 100 undef = .map (some M) := hd { on := 19, ground := .data } (by simp) rfl
                  rw [Array.getD_eq_getD_getElem?] at t100
                  have t101 : a.tmps.getD 101 undef = .agg #[.int .i64 xa, .int .i64 xk, .int .i64 xi] := hd { on := 20, ground := .data } (by simp) rfl
                  rw [Array.getD_eq_getD_getElem?] at t101
                  refine .inl ⟨(by simp only [Region.wanted]; rw [yielded_of (d := 99) (by rfl) g99]; rfl), ?_⟩
                  clear g99
                  have m0 := HLkx W hE
                  go_simp
                  exact ⟨Below.refl _ _, rfl⟩
                · have g99 : a.eval (.tmp 99) = .bool false := hd { on := 18, ground := .guard } (by simp) rfl
                  have t102 : a.tmps.getD 102 undef = .int .i64 1 := hd { on := 21, ground := .data } (by simp) rfl
                  rw [Array.getD_eq_getD_getElem?] at t102
                  refine .inl ⟨(by simp only [Region.wanted]; rw [yielded_of (d := 99) (by rfl) g99]; rfl), ?_⟩
                  clear g99
                  go_simp
                  exact ⟨Below.refl _ _, rfl⟩
                · have t99 : a.tmps.getD 99 undef = .bool false := hd { on := 18, ground := .data } (by simp) rfl
                  rw [Array.getD_eq_getD_getElem?] at t99
                  have t103 : a.tmps.getD 103 undef = .bool false := hd { on := 22, ground := .data } (by simp) rfl
                  rw [Array.getD_eq_getD_getElem?] at t103
                  refine .inl ⟨rfl, ?_⟩
                  go_simp
                  exact ⟨Below.refl _ _, rfl⟩
                · have t104 : a.tmps.getD 104 undef = .bool false := hd { on := 23, ground := .data } (by simp) rfl
                  rw [Array.getD_eq_getD_getElem?] at t104
                  refine .inl ⟨rfl, ?_⟩
                  go_simp
                  exact ⟨Below.refl _ _, rfl⟩
                · have g105 : a.eval (.tmp 105) = .bool false := hd { on := 24, ground := .guard } (by simp) rfl
                  have t5 : a.tmps.getD 5 undef = .pointer (some ⟨w.heap.size, 0, none⟩) := hF.at 5 (by kernel_rfl)
                  rw [Array.getD_eq_getD_getElem?] at t5
                  refine .inl ⟨(by simp only [Region.wanted]; rw [yielded_of (d := 105) (by rfl) g105]; rfl), ?_⟩
                  clear g105
                  go_simp
                  exact ⟨Below.refl _ _, rfl⟩
                · have g105 : a.eval (.tmp 105) = .bool false := hd { on := 24, ground := .guard } (by simp) rfl
                  have t106 : a.tmps.getD 106 undef = .pointer (some ⟨w.heap.size, 0, none⟩) := hd { on := 25, ground := .data } (by simp) rfl
                  rw [Array.getD_eq_getD_getElem?] at t106
                  refine .inl ⟨(by simp only [Region.wanted]; rw [yielded_of (d := 105) (by rfl) g105]; rfl), ?_⟩
                  clear g105
                  go_simp
                  exact (know (HCw W hE)).mono fun e w2 h => ⟨_, h.1, by rw [h.2]; exact Below.refl _ _, rfl⟩
                · have g105 : a.eval (.tmp 105) = .bool false := hd { on := 24, ground := .guard } (by simp) rfl
                  have t15 : a.tmps.getD 15 undef = .pointer (some ⟨tb, 0, none⟩) := hF.at 15 (by kernel_rfl)
                  rw [Array.getD_eq_getD_getElem?] at t15
                  refine .inl ⟨(by simp only [Region.wanted]; rw [yielded_of (d := 105) (by rfl) g105]; rfl), ?_⟩
                  clear g105
                  go_simp
                  exact ⟨Below.refl _ _, rfl⟩
                · have g105 : a.eval (.tmp 105) = .bool false := hd { on := 24, ground := .guard } (by simp) rfl
                  have t108 : a.tmps.getD 108 undef = .pointer (some ⟨tb, 0, none⟩) := hd { on := 27, ground := .data } (by simp) rfl
                  rw [Array.getD_eq_getD_getElem?] at t108
                  refine .inl ⟨(by simp only [Region.wanted]; rw [yielded_of (d := 105) (by rfl) g105]; rfl), ?_⟩
                  clear g105
                  obtain ⟨z0, z1, z2⟩ := HZt W hE
                  go_simp
                  exact ⟨Below.refl _ _, rfl⟩
                · have g105 : a.eval (.tmp 105) = .bool false := hd { on := 24, ground := .guard } (by simp) rfl
                  have t107 : a.tmps.getD 107 undef = .int .i64 xa := hd { on := 26, ground := .data } (by simp) rfl
                  rw [Array.getD_eq_getD_getElem?] at t107
                  have t109 : a.tmps.getD 109 undef = .int .i64 xa := hd { on := 28, ground := .data } (by simp) rfl
                  rw [Array.getD_eq_getD_getElem?] at t109
                  refine .inl ⟨(by simp only [Region.wanted]; rw [yielded_of (d := 105) (by rfl) g105]; rfl), ?_⟩
                  clear g105
                  go_simp
                  exact ⟨Below.refl _ _, rfl⟩
                · have t105 : a.tmps.getD 105 undef = .bool false := hd { on := 24, ground := .data } (by simp) rfl
                  rw [Array.getD_eq_getD_getElem?] at t105
                  have t110 : a.tmps.getD 110 undef = .bool false := hd { on := 29, ground := .data } (by simp) rfl
                  rw [Array.getD_eq_getD_getElem?] at t110
                  refine .inl ⟨rfl, ?_⟩
                  go_simp
                  exact ⟨Below.refl _ _, rfl⟩
                · have t111 : a.tmps.getD 111 undef = .bool false := hd { on := 30, ground := .data } (by simp) rfl
                  rw [Array.getD_eq_getD_getElem?] at t111
                  refine .inl ⟨rfl, ?_⟩
                  go_simp
                  exact ⟨Below.refl _ _, rfl⟩
                · have g112 : a.eval (.tmp 112) = .bool false := hd { on := 31, ground := .guard } (by simp) rfl
                  have t15 : a.tmps.getD 15 undef = .pointer (some ⟨tb, 0, none⟩) := hF.at 15 (by kernel_rfl)
                  rw [Array.getD_eq_getD_getElem?] at t15
                  refine .inl ⟨(by simp only [Region.wanted]; rw [yielded_of (d := 112) (by rfl) g112]; rfl), ?_⟩
                  clear g112
                  go_simp
                  exact ⟨Below.refl _ _, rfl⟩
                · have g112 : a.eval (.tmp 112) = .bool false := hd { on := 31, ground := .guard } (by simp) rfl
                  have t113 : a.tmps.getD 113 undef = .pointer (some ⟨tb, 0, none⟩) := hd { on := 32, ground := .data } (by simp) rfl
                  rw [Array.getD_eq_getD_getElem?] at t113
                  refine .inl ⟨(by simp only [Region.wanted]; rw [yielded_of (d := 112) (by rfl) g112]; rfl), ?_⟩
                  clear g112
                  obtain ⟨z0, z1, z2⟩ := HZt W hE
                  go_simp
                  exact ⟨Below.refl _ _, rfl⟩
                · have g112 : a.eval (.tmp 112) = .bool false := hd { on := 31, ground := .guard } (by simp) rfl
                  have t11 : a.tmps.getD 11 undef = .pointer (some ⟨lb, 0, none⟩) := hF.at 11 (by kernel_rfl)
                  rw [Array.getD_eq_getD_getElem?] at t11
                  refine .inl ⟨(by simp only [Region.wanted]; rw [yielded_of (d := 112) (by rfl) g112]; rfl), ?_⟩
                  clear g112
                  go_simp
                  exact ⟨Below.refl _ _, rfl⟩
                · have g112 : a.eval (.tmp 112) = .bool false := hd { on := 31, ground := .guard } (by simp) rfl
                  have t115 : a.tmps.getD 115 undef = .pointer (some ⟨lb, 0, none⟩) := hd { on := 34, ground := .data } (by simp) rfl
                  rw [Array.getD_eq_getD_getElem?] at t115
                  refine .inl ⟨(by simp only [Region.wanted]; rw [yielded_of (d := 112) (by rfl) g112]; rfl), ?_⟩
                  clear g112
                  obtain ⟨z0, z1, z2⟩ := HZl W hE
                  go_simp
                  exact ⟨Below.refl _ _, rfl⟩
                · have g112 : a.eval (.tmp 112) = .bool false := hd { on := 31, ground := .guard } (by simp) rfl
                  have t114 : a.tmps.getD 114 undef = .int .i64 xa := hd { on := 33, ground := .data } (by simp) rfl
                  rw [Array.getD_eq_getD_getElem?] at t114
                  have t116 : a.tmps.getD 116 undef = .int .i64 last.at_ := hd { on := 35, ground := .data } (by simp) rfl
                  rw [Array.getD_eq_getD_getElem?] at t116
                  refine .inl ⟨(by simp only [Region.wanted]; rw [yielded_of (d := 112) (by rfl) g112]; rfl), ?_⟩
                  clear g112
                  go_simp
                  exact ⟨Below.refl _ _, rfl⟩
                · have t112 : a.tmps.getD 112 undef = .bool false := hd { on := 31, ground := .data } (by simp) rfl
                  rw [Array.getD_eq_getD_getElem?] at t112
                  have t117 : a.tmps.getD 117 undef = .bool false := hd { on := 36, ground := .data } (by simp) rfl
                  rw [Array.getD_eq_getD_getElem?] at t117
                  refine .inl ⟨rfl, ?_⟩
                  go_simp
                  exact ⟨Below.refl _ _, rfl⟩
                · have t118 : a.tmps.getD 118 undef = .bool false := hd { on := 37, ground := .data } (by simp) rfl
                  rw [Array.getD_eq_getD_getElem?] at t118
                  refine .inl ⟨rfl, ?_⟩
                  go_simp
                  exact ⟨Below.refl _ _, rfl⟩
                · have g119 : a.eval (.tmp 119) = .bool false := hd { on := 38, ground := .guard } (by simp) rfl
                  have t15 : a.tmps.getD 15 undef = .pointer (some ⟨tb, 0, none⟩) := hF.at 15 (by kernel_rfl)
                  rw [Array.getD_eq_getD_getElem?] at t15
                  refine .inl ⟨(by simp only [Region.wanted]; rw [yielded_of (d := 119) (by rfl) g119]; rfl), ?_⟩
                  clear g119
                  go_simp
                  exact ⟨Below.refl _ _, rfl⟩
                · have g119 : a.eval (.tmp 119) = .bool false := hd { on := 38, ground := .guard } (by simp) rfl
                  have t120 : a.tmps.getD 120 undef = .pointer (some ⟨tb, 0, none⟩) := hd { on := 39, ground := .data } (by simp) rfl
                  rw [Array.getD_eq_getD_getElem?] at t120
                  refine .inl ⟨(by simp only [Region.wanted]; rw [yielded_of (d := 119) (by rfl) g119]; rfl), ?_⟩
                  clear g119
                  obtain ⟨z0, z1, z2⟩ := HZt W hE
                  go_simp
                  exact ⟨Below.refl _ _, rfl⟩
                · have g119 : a.eval (.tmp 119) = .bool false := hd { on := 38, ground := .guard } (by simp) rfl
                  have t11 : a.tmps.getD 11 undef = .pointer (some ⟨lb, 0, none⟩) := hF.at 11 (by kernel_rfl)
                  rw [Array.getD_eq_getD_getElem?] at t11
                  refine .inl ⟨(by simp only [Region.wanted]; rw [yielded_of (d := 119) (by rfl) g119]; rfl), ?_⟩
                  clear g119
                  go_simp
                  exact ⟨Below.refl _ _, rfl⟩
                · have g119 : a.eval (.tmp 119) = .bool false := hd { on := 38, ground := .guard } (by simp) rfl
                  have t122 : a.tmps.getD 122 undef = .pointer (some ⟨lb, 0, none⟩) := hd { on := 41, ground := .data } (by simp) rfl
                  rw [Array.getD_eq_getD_getElem?] at t122
                  refine .inl ⟨(by simp only [Region.wanted]; rw [yielded_of (d := 119) (by rfl) g119]; rfl), ?_⟩
                  clear g119
                  obtain ⟨z0, z1, z2⟩ := HZl W hE
                  go_simp
                  exact ⟨Below.refl _ _, rfl⟩
                · cases e1 with
                  | false =>
                    have g119 : a.eval (.tmp 119) = .bool false := hd { on := 38, ground := .guard } (by simp) rfl
                    have t121 : a.tmps.getD 121 undef = .int .i64 xa := hd { on := 40, ground := .data } (by simp) rfl
                    rw [Array.getD_eq_getD_getElem?] at t121
                    have t123 : a.tmps.getD 123 undef = .int .i64 last.at_ := hd { on := 42, ground := .data } (by simp) rfl
                    rw [Array.getD_eq_getD_getElem?] at t123
                    refine .inl ⟨(by simp only [Region.wanted]; rw [yielded_of (d := 119) (by rfl) g119]; rfl), ?_⟩
                    clear g119
                    go_simp
                    exact ⟨Below.refl _ _, rfl⟩
                  | true =>
                    have g119 : a.eval (.tmp 119) = .bool false := hd { on := 38, ground := .guard } (by simp) rfl
                    have t121 : a.tmps.getD 121 undef = .int .i64 xa := hd { on := 40, ground := .data } (by simp) rfl
                    rw [Array.getD_eq_getD_getElem?] at t121
                    have t123 : a.tmps.getD 123 undef = .int .i64 last.at_ := hd { on := 42, ground := .data } (by simp) rfl
                    rw [Array.getD_eq_getD_getElem?] at t123
                    refine .inl ⟨(by simp only [Region.wanted]; rw [yielded_of (d := 119) (by rfl) g119]; rfl), ?_⟩
                    clear g119
                    go_simp
                    exact ⟨Below.refl _ _, rfl⟩
                · cases e1 with
                  | false =>
                    have g119 : a.eval (.tmp 119) = .bool false := hd { on := 38, ground := .guard } (by simp) rfl
                    have t124 : a.tmps.getD 124 undef = .bool false := hd { on := 43, ground := .data } (by simp) rfl
                    rw [Array.getD_eq_getD_getElem?] at t124
                    refine .inl ⟨(by simp only [Region.wanted]; rw [yielded_of (d := 119) (by rfl) g119]; rfl), ?_⟩
                    clear g119
                    go_simp
                    exact ⟨Below.refl _ _, rfl⟩
                  | true =>
                    have g119 : a.eval (.tmp 119) = .bool false := hd { on := 38, ground := .guard } (by simp) rfl
                    have t124 : a.tmps.getD 124 undef = .bool true := hd { on := 43, ground := .data } (by simp) rfl
                    rw [Array.getD_eq_getD_getElem?] at t124
                    refine .inl ⟨(by simp only [Region.wanted]; rw [yielded_of (d := 119) (by rfl) g119]; rfl), ?_⟩
                    clear g119
                    go_simp
                    exact ⟨Below.refl _ _, rfl⟩
                · cases e1 with
                  | false =>
                    have g125 : a.eval (.tmp 125) = .bool false := hd { on := 44, ground := .guard } (by simp) rfl
                    exact .inr ⟨(by simp only [Region.wanted]; rw [yielded_of (d := 125) (by rfl) g125]; rfl), rfl⟩
                  | true =>
                    have g125 : a.eval (.tmp 125) = .bool true := hd { on := 44, ground := .guard } (by simp) rfl
                    have t15 : a.tmps.getD 15 undef = .pointer (some ⟨tb, 0, none⟩) := hF.at 15 (by kernel_rfl)
                    rw [Array.getD_eq_getD_getElem?] at t15
                    refine .inl ⟨(by simp only [Region.wanted]; rw [yielded_of (d := 125) (by rfl) g125]; rfl), ?_⟩
                    clear g125
                    go_simp
                    exact ⟨Below.refl _ _, rfl⟩
                · cases e1 with
                  | false =>
                    have g125 : a.eval (.tmp 125) = .bool false := hd { on := 44, ground := .guard } (by simp) rfl
                    exact .inr ⟨(by simp only [Region.wanted]; rw [yielded_of (d := 125) (by rfl) g125]; rfl), rfl⟩
                  | true =>
                    have g125 : a.eval (.tmp 125) = .bool true := hd { on := 44, ground := .guard } (by simp) rfl
                    have t126 : a.tmps.getD 126 undef = .pointer (some ⟨tb, 1, none⟩) := hd { on := 45, ground := .data } (by simp) rfl
                    rw [Array.getD_eq_getD_getElem?] at t126
                    refine .inl ⟨(by simp only [Region.wanted]; rw [yielded_of (d := 125) (by rfl) g125]; rfl), ?_⟩
                    clear g125
                    obtain ⟨z0, z1, z2⟩ := HZt W hE
                    go_simp
                    exact ⟨Below.refl _ _, rfl⟩
                · cases e1 with
                  | false =>
                    have g125 : a.eval (.tmp 125) = .bool false := hd { on := 44, ground := .guard } (by simp) rfl
                    exact .inr ⟨(by simp only [Region.wanted]; rw [yielded_of (d := 125) (by rfl) g125]; rfl), rfl⟩
                  | true =>
                    have g125 : a.eval (.tmp 125) = .bool true := hd { on := 44, ground := .guard } (by simp) rfl
                    have t11 : a.tmps.getD 11 undef = .pointer (some ⟨lb, 0, none⟩) := hF.at 11 (by kernel_rfl)
                    rw [Array.getD_eq_getD_getElem?] at t11
                    refine .inl ⟨(by simp only [Region.wanted]; rw [yielded_of (d := 125) (by rfl) g125]; rfl), ?_⟩
                    clear g125
                    go_simp
                    exact ⟨Below.refl _ _, rfl⟩
                · cases e1 with
                  | false =>
                    have g125 : a.eval (.tmp 125) = .bool false := hd { on := 44, ground := .guard } (by simp) rfl
                    exact .inr ⟨(by simp only [Region.wanted]; rw [yielded_of (d := 125) (by rfl) g125]; rfl), rfl⟩
                  | true =>
                    have g125 : a.eval (.tmp 125) = .bool true := hd { on := 44, ground := .guard } (by simp) rfl
                    have t128 : a.tmps.getD 128 undef = .pointer (some ⟨lb, 1, none⟩) := hd { on := 47, ground := .data } (by simp) rfl
                    rw [Array.getD_eq_getD_getElem?] at t128
                    refine .inl ⟨(by simp only [Region.wanted]; rw [yielded_of (d := 125) (by rfl) g125]; rfl), ?_⟩
                    clear g125
                    obtain ⟨z0, z1, z2⟩ := HZl W hE
                    go_simp
                    exact ⟨Below.refl _ _, rfl⟩
                · cases e1 with
                  | false =>
                    have g125 : a.eval (.tmp 125) = .bool false := hd { on := 44, ground := .guard } (by simp) rfl
                    exact .inr ⟨(by simp only [Region.wanted]; rw [yielded_of (d := 125) (by rfl) g125]; rfl), rfl⟩
                  | true =>
                    cases e2 with
                    | false =>
                      have g125 : a.eval (.tmp 125) = .bool true := hd { on := 44, ground := .guard } (by simp) rfl
                      have t127 : a.tmps.getD 127 undef = .int .i64 xk := hd { on := 46, ground := .data } (by simp) rfl
                      rw [Array.getD_eq_getD_getElem?] at t127
                      have t129 : a.tmps.getD 129 undef = .int .i64 last.kind := hd { on := 48, ground := .data } (by simp) rfl
                      rw [Array.getD_eq_getD_getElem?] at t129
                      refine .inl ⟨(by simp only [Region.wanted]; rw [yielded_of (d := 125) (by rfl) g125]; rfl), ?_⟩
                      clear g125
                      go_simp
                      exact ⟨Below.refl _ _, rfl⟩
                    | true =>
                      have g125 : a.eval (.tmp 125) = .bool true := hd { on := 44, ground := .guard } (by simp) rfl
                      have t127 : a.tmps.getD 127 undef = .int .i64 xk := hd { on := 46, ground := .data } (by simp) rfl
                      rw [Array.getD_eq_getD_getElem?] at t127
                      have t129 : a.tmps.getD 129 undef = .int .i64 last.kind := hd { on := 48, ground := .data } (by simp) rfl
                      rw [Array.getD_eq_getD_getElem?] at t129
                      refine .inl ⟨(by simp only [Region.wanted]; rw [yielded_of (d := 125) (by rfl) g125]; rfl), ?_⟩
                      clear g125
                      go_simp
                      exact ⟨Below.refl _ _, rfl⟩
                · cases e1 with
                  | false =>
                    have g125 : a.eval (.tmp 125) = .bool false := hd { on := 44, ground := .guard } (by simp) rfl
                    exact .inr ⟨(by simp only [Region.wanted]; rw [yielded_of (d := 125) (by rfl) g125]; rfl), rfl⟩
                  | true =>
                    cases e2 with
                    | false =>
                      have g125 : a.eval (.tmp 125) = .bool true := hd { on := 44, ground := .guard } (by simp) rfl
                      have t130 : a.tmps.getD 130 undef = .bool false := hd { on := 49, ground := .data } (by simp) rfl
                      rw [Array.getD_eq_getD_getElem?] at t130
                      refine .inl ⟨(by simp only [Region.wanted]; rw [yielded_of (d := 125) (by rfl) g125]; rfl), ?_⟩
                      clear g125
                      go_simp
                      exact ⟨Below.refl _ _, rfl⟩
                    | true =>
                      have g125 : a.eval (.tmp 125) = .bool true := hd { on := 44, ground := .guard } (by simp) rfl
                      have t130 : a.tmps.getD 130 undef = .bool true := hd { on := 49, ground := .data } (by simp) rfl
                      rw [Array.getD_eq_getD_getElem?] at t130
                      refine .inl ⟨(by simp only [Region.wanted]; rw [yielded_of (d := 125) (by rfl) g125]; rfl), ?_⟩
                      clear g125
                      go_simp
                      exact ⟨Below.refl _ _, rfl⟩
                · cases e1 with
                  | false =>
                    have g131 : a.eval (.tmp 131) = undef := hd { on := 50, ground := .guard } (by simp) rfl
                    exact .inr ⟨(by simp only [Region.wanted]; rw [yielded_undef (d := 131) (by rfl) g131]; rfl), rfl⟩
                  | true =>
                    cases e2 with
                    | false =>
                      have g131 : a.eval (.tmp 131) = .bool false := hd { on := 50, ground := .guard } (by simp) rfl
                      have t15 : a.tmps.getD 15 undef = .pointer (some ⟨tb, 0, none⟩) := hF.at 15 (by kernel_rfl)
                      rw [Array.getD_eq_getD_getElem?] at t15
                      refine .inl ⟨(by simp only [Region.wanted]; rw [yielded_of (d := 131) (by rfl) g131]; rfl), ?_⟩
                      clear g131
                      go_simp
                      exact ⟨Below.refl _ _, rfl⟩
                    | true =>
                      have g131 : a.eval (.tmp 131) = .bool true := hd { on := 50, ground := .guard } (by simp) rfl
                      exact .inr ⟨(by simp only [Region.wanted]; rw [yielded_of (d := 131) (by rfl) g131]; rfl), rfl⟩
                · cases e1 with
                  | false =>
                    have g131 : a.eval (.tmp 131) = undef := hd { on := 50, ground := .guard } (by simp) rfl
                    exact .inr ⟨(by simp only [Region.wanted]; rw [yielded_undef (d := 131) (by rfl) g131]; rfl), rfl⟩
                  | true =>
                    cases e2 with
                    | false =>
                      have g131 : a.eval (.tmp 131) = .bool false := hd { on := 50, ground := .guard } (by simp) rfl
                      have t132 : a.tmps.getD 132 undef = .pointer (some ⟨tb, 1, none⟩) := hd { on := 51, ground := .data } (by simp) rfl
                      rw [Array.getD_eq_getD_getElem?] at t132
                      refine .inl ⟨(by simp only [Region.wanted]; rw [yielded_of (d := 131) (by rfl) g131]; rfl), ?_⟩
                      clear g131
                      obtain ⟨z0, z1, z2⟩ := HZt W hE
                      go_simp
                      exact ⟨Below.refl _ _, rfl⟩
                    | true =>
                      have g131 : a.eval (.tmp 131) = .bool true := hd { on := 50, ground := .guard } (by simp) rfl
                      exact .inr ⟨(by simp only [Region.wanted]; rw [yielded_of (d := 131) (by rfl) g131]; rfl), rfl⟩
                · cases e1 with
                  | false =>
                    have g131 : a.eval (.tmp 131) = undef := hd { on := 50, ground := .guard } (by simp) rfl
                    exact .inr ⟨(by simp only [Region.wanted]; rw [yielded_undef (d := 131) (by rfl) g131]; rfl), rfl⟩
                  | true =>
                    cases e2 with
                    | false =>
                      have g131 : a.eval (.tmp 131) = .bool false := hd { on := 50, ground := .guard } (by simp) rfl
                      have t11 : a.tmps.getD 11 undef = .pointer (some ⟨lb, 0, none⟩) := hF.at 11 (by kernel_rfl)
                      rw [Array.getD_eq_getD_getElem?] at t11
                      refine .inl ⟨(by simp only [Region.wanted]; rw [yielded_of (d := 131) (by rfl) g131]; rfl), ?_⟩
                      clear g131
                      go_simp
                      exact ⟨Below.refl _ _, rfl⟩
                    | true =>
                      have g131 : a.eval (.tmp 131) = .bool true := hd { on := 50, ground := .guard } (by simp) rfl
                      exact .inr ⟨(by simp only [Region.wanted]; rw [yielded_of (d := 131) (by rfl) g131]; rfl), rfl⟩
                · cases e1 with
                  | false =>
                    have g131 : a.eval (.tmp 131) = undef := hd { on := 50, ground := .guard } (by simp) rfl
                    exact .inr ⟨(by simp only [Region.wanted]; rw [yielded_undef (d := 131) (by rfl) g131]; rfl), rfl⟩
                  | true =>
                    cases e2 with
                    | false =>
                      have g131 : a.eval (.tmp 131) = .bool false := hd { on := 50, ground := .guard } (by simp) rfl
                      have t134 : a.tmps.getD 134 undef = .pointer (some ⟨lb, 1, none⟩) := hd { on := 53, ground := .data } (by simp) rfl
                      rw [Array.getD_eq_getD_getElem?] at t134
                      refine .inl ⟨(by simp only [Region.wanted]; rw [yielded_of (d := 131) (by rfl) g131]; rfl), ?_⟩
                      clear g131
                      obtain ⟨z0, z1, z2⟩ := HZl W hE
                      go_simp
                      exact ⟨Below.refl _ _, rfl⟩
                    | true =>
                      have g131 : a.eval (.tmp 131) = .bool true := hd { on := 50, ground := .guard } (by simp) rfl
                      exact .inr ⟨(by simp only [Region.wanted]; rw [yielded_of (d := 131) (by rfl) g131]; rfl), rfl⟩
                · cases e1 with
                  | false =>
                    have g131 : a.eval (.tmp 131) = undef := hd { on := 50, ground := .guard } (by simp) rfl
                    exact .inr ⟨(by simp only [Region.wanted]; rw [yielded_undef (d := 131) (by rfl) g131]; rfl), rfl⟩
                  | true =>
                    cases e2 with
                    | false =>
                      cases e3 with
                      | false =>
                        have g131 : a.eval (.tmp 131) = .bool false := hd { on := 50, ground := .guard } (by simp) rfl
                        have t133 : a.tmps.getD 133 undef = .int .i64 xk := hd { on := 52, ground := .data } (by simp) rfl
                        rw [Array.getD_eq_getD_getElem?] at t133
                        have t135 : a.tmps.getD 135 undef = .int .i64 last.kind := hd { on := 54, ground := .data } (by simp) rfl
                        rw [Array.getD_eq_getD_getElem?] at t135
                        refine .inl ⟨(by simp only [Region.wanted]; rw [yielded_of (d := 131) (by rfl) g131]; rfl), ?_⟩
                        clear g131
                        go_simp
                        exact ⟨Below.refl _ _, rfl⟩
                      | true =>
                        have g131 : a.eval (.tmp 131) = .bool false := hd { on := 50, ground := .guard } (by simp) rfl
                        have t133 : a.tmps.getD 133 undef = .int .i64 xk := hd { on := 52, ground := .data } (by simp) rfl
                        rw [Array.getD_eq_getD_getElem?] at t133
                        have t135 : a.tmps.getD 135 undef = .int .i64 last.kind := hd { on := 54, ground := .data } (by simp) rfl
                        rw [Array.getD_eq_getD_getElem?] at t135
                        refine .inl ⟨(by simp only [Region.wanted]; rw [yielded_of (d := 131) (by rfl) g131]; rfl), ?_⟩
                        clear g131
                        go_simp
                        exact ⟨Below.refl _ _, rfl⟩
                    | true =>
                      have g131 : a.eval (.tmp 131) = .bool true := hd { on := 50, ground := .guard } (by simp) rfl
                      exact .inr ⟨(by simp only [Region.wanted]; rw [yielded_of (d := 131) (by rfl) g131]; rfl), rfl⟩
                · cases e1 with
                  | false =>
                    have g131 : a.eval (.tmp 131) = undef := hd { on := 50, ground := .guard } (by simp) rfl
                    exact .inr ⟨(by simp only [Region.wanted]; rw [yielded_undef (d := 131) (by rfl) g131]; rfl), rfl⟩
                  | true =>
                    cases e2 with
                    | false =>
                      cases e3 with
                      | false =>
                        have g131 : a.eval (.tmp 131) = .bool false := hd { on := 50, ground := .guard } (by simp) rfl
                        have t136 : a.tmps.getD 136 undef = .bool false := hd { on := 55, ground := .data } (by simp) rfl
                        rw [Array.getD_eq_getD_getElem?] at t136
                        refine .inl ⟨(by simp only [Region.wanted]; rw [yielded_of (d := 131) (by rfl) g131]; rfl), ?_⟩
                        clear g131
                        go_simp
                        exact ⟨Below.refl _ _, rfl⟩
                      | true =>
                        have g131 : a.eval (.tmp 131) = .bool false := hd { on := 50, ground := .guard } (by simp) rfl
                        have t136 : a.tmps.getD 136 undef = .bool true := hd { on := 55, ground := .data } (by simp) rfl
                        rw [Array.getD_eq_getD_getElem?] at t136
                        refine .inl ⟨(by simp only [Region.wanted]; rw [yielded_of (d := 131) (by rfl) g131]; rfl), ?_⟩
                        clear g131
                        go_simp
                        exact ⟨Below.refl _ _, rfl⟩
                    | true =>
                      have g131 : a.eval (.tmp 131) = .bool true := hd { on := 50, ground := .guard } (by simp) rfl
                      exact .inr ⟨(by simp only [Region.wanted]; rw [yielded_of (d := 131) (by rfl) g131]; rfl), rfl⟩
                · cases e1 with
                  | false =>
                    have g137 : a.eval (.tmp 137) = undef := hd { on := 56, ground := .guard } (by simp) rfl
                    exact .inr ⟨(by simp only [Region.wanted]; rw [yielded_undef (d := 137) (by rfl) g137]; rfl), rfl⟩
                  | true =>
                    cases e2 with
                    | false =>
                      cases e3 with
                      | false =>
                        have g137 : a.eval (.tmp 137) = .bool false := hd { on := 56, ground := .guard } (by simp) rfl
                        exact .inr ⟨(by simp only [Region.wanted]; rw [yielded_of (d := 137) (by rfl) g137]; rfl), rfl⟩
                      | true =>
                        have g137 : a.eval (.tmp 137) = .bool true := hd { on := 56, ground := .guard } (by simp) rfl
                        have t15 : a.tmps.getD 15 undef = .pointer (some ⟨tb, 0, none⟩) := hF.at 15 (by kernel_rfl)
                        rw [Array.getD_eq_getD_getElem?] at t15
                        refine .inl ⟨(by simp only [Region.wanted]; rw [yielded_of (d := 137) (by rfl) g137]; rfl), ?_⟩
                        clear g137
                        go_simp
                        exact ⟨Below.refl _ _, rfl⟩
                    | true =>
                      have g137 : a.eval (.tmp 137) = undef := hd { on := 56, ground := .guard } (by simp) rfl
                      exact .inr ⟨(by simp only [Region.wanted]; rw [yielded_undef (d := 137) (by rfl) g137]; rfl), rfl⟩
                · cases e1 with
                  | false =>
                    have g137 : a.eval (.tmp 137) = undef := hd { on := 56, ground := .guard } (by simp) rfl
                    exact .inr ⟨(by simp only [Region.wanted]; rw [yielded_undef (d := 137) (by rfl) g137]; rfl), rfl⟩
                  | true =>
                    cases e2 with
                    | false =>
                      cases e3 with
                      | false =>
                        have g137 : a.eval (.tmp 137) = .bool false := hd { on := 56, ground := .guard } (by simp) rfl
                        exact .inr ⟨(by simp only [Region.wanted]; rw [yielded_of (d := 137) (by rfl) g137]; rfl), rfl⟩
                      | true =>
                        have g137 : a.eval (.tmp 137) = .bool true := hd { on := 56, ground := .guard } (by simp) rfl
                        have t138 : a.tmps.getD 138 undef = .pointer (some ⟨tb, 2, none⟩) := hd { on := 57, ground := .data } (by simp) rfl
                        rw [Array.getD_eq_getD_getElem?] at t138
                        refine .inl ⟨(by simp only [Region.wanted]; rw [yielded_of (d := 137) (by rfl) g137]; rfl), ?_⟩
                        clear g137
                        obtain ⟨z0, z1, z2⟩ := HZt W hE
                        go_simp
                        exact ⟨Below.refl _ _, rfl⟩
                    | true =>
                      have g137 : a.eval (.tmp 137) = undef := hd { on := 56, ground := .guard } (by simp) rfl
                      exact .inr ⟨(by simp only [Region.wanted]; rw [yielded_undef (d := 137) (by rfl) g137]; rfl), rfl⟩
                · cases e1 with
                  | false =>
                    have g137 : a.eval (.tmp 137) = undef := hd { on := 56, ground := .guard } (by simp) rfl
                    exact .inr ⟨(by simp only [Region.wanted]; rw [yielded_undef (d := 137) (by rfl) g137]; rfl), rfl⟩
                  | true =>
                    cases e2 with
                    | false =>
                      cases e3 with
                      | false =>
                        have g137 : a.eval (.tmp 137) = .bool false := hd { on := 56, ground := .guard } (by simp) rfl
                        exact .inr ⟨(by simp only [Region.wanted]; rw [yielded_of (d := 137) (by rfl) g137]; rfl), rfl⟩
                      | true =>
                        have g137 : a.eval (.tmp 137) = .bool true := hd { on := 56, ground := .guard } (by simp) rfl
                        have t11 : a.tmps.getD 11 undef = .pointer (some ⟨lb, 0, none⟩) := hF.at 11 (by kernel_rfl)
                        rw [Array.getD_eq_getD_getElem?] at t11
                        refine .inl ⟨(by simp only [Region.wanted]; rw [yielded_of (d := 137) (by rfl) g137]; rfl), ?_⟩
                        clear g137
                        go_simp
                        exact ⟨Below.refl _ _, rfl⟩
                    | true =>
                      have g137 : a.eval (.tmp 137) = undef := hd { on := 56, ground := .guard } (by simp) rfl
                      exact .inr ⟨(by simp only [Region.wanted]; rw [yielded_undef (d := 137) (by rfl) g137]; rfl), rfl⟩
                · cases e1 with
                  | false =>
                    have g137 : a.eval (.tmp 137) = undef := hd { on := 56, ground := .guard } (by simp) rfl
                    exact .inr ⟨(by simp only [Region.wanted]; rw [yielded_undef (d := 137) (by rfl) g137]; rfl), rfl⟩
                  | true =>
                    cases e2 with
                    | false =>
                      cases e3 with
                      | false =>
                        have g137 : a.eval (.tmp 137) = .bool false := hd { on := 56, ground := .guard } (by simp) rfl
                        exact .inr ⟨(by simp only [Region.wanted]; rw [yielded_of (d := 137) (by rfl) g137]; rfl), rfl⟩
                      | true =>
                        have g137 : a.eval (.tmp 137) = .bool true := hd { on := 56, ground := .guard } (by simp) rfl
                        have t140 : a.tmps.getD 140 undef = .pointer (some ⟨lb, 2, none⟩) := hd { on := 59, ground := .data } (by simp) rfl
                        rw [Array.getD_eq_getD_getElem?] at t140
                        refine .inl ⟨(by simp only [Region.wanted]; rw [yielded_of (d := 137) (by rfl) g137]; rfl), ?_⟩
                        clear g137
                        obtain ⟨z0, z1, z2⟩ := HZl W hE
                        go_simp
                        exact ⟨Below.refl _ _, rfl⟩
                    | true =>
                      have g137 : a.eval (.tmp 137) = undef := hd { on := 56, ground := .guard } (by simp) rfl
                      exact .inr ⟨(by simp only [Region.wanted]; rw [yielded_undef (d := 137) (by rfl) g137]; rfl), rfl⟩
                · cases e1 with
                  | false =>
                    have g137 : a.eval (.tmp 137) = undef := hd { on := 56, ground := .guard } (by simp) rfl
                    exact .inr ⟨(by simp only [Region.wanted]; rw [yielded_undef (d := 137) (by rfl) g137]; rfl), rfl⟩
                  | true =>
                    cases e2 with
                    | false =>
                      cases e3 with
                      | false =>
                        have g137 : a.eval (.tmp 137) = .bool false := hd { on := 56, ground := .guard } (by simp) rfl
                        exact .inr ⟨(by simp only [Region.wanted]; rw [yielded_of (d := 137) (by rfl) g137]; rfl), rfl⟩
                      | true =>
                        cases e4 with
                        | false =>
                          have g137 : a.eval (.tmp 137) = .bool true := hd { on := 56, ground := .guard } (by simp) rfl
                          have t139 : a.tmps.getD 139 undef = .int .i64 xi := hd { on := 58, ground := .data } (by simp) rfl
                          rw [Array.getD_eq_getD_getElem?] at t139
                          have t141 : a.tmps.getD 141 undef = .int .i64 last.id := hd { on := 60, ground := .data } (by simp) rfl
                          rw [Array.getD_eq_getD_getElem?] at t141
                          refine .inl ⟨(by simp only [Region.wanted]; rw [yielded_of (d := 137) (by rfl) g137]; rfl), ?_⟩
                          clear g137
                          go_simp
                          exact ⟨Below.refl _ _, rfl⟩
                        | true =>
                          have g137 : a.eval (.tmp 137) = .bool true := hd { on := 56, ground := .guard } (by simp) rfl
                          have t139 : a.tmps.getD 139 undef = .int .i64 xi := hd { on := 58, ground := .data } (by simp) rfl
                          rw [Array.getD_eq_getD_getElem?] at t139
                          have t141 : a.tmps.getD 141 undef = .int .i64 last.id := hd { on := 60, ground := .data } (by simp) rfl
                          rw [Array.getD_eq_getD_getElem?] at t141
                          refine .inl ⟨(by simp only [Region.wanted]; rw [yielded_of (d := 137) (by rfl) g137]; rfl), ?_⟩
                          clear g137
                          go_simp
                          exact ⟨Below.refl _ _, rfl⟩
                    | true =>
                      have g137 : a.eval (.tmp 137) = undef := hd { on := 56, ground := .guard } (by simp) rfl
                      exact .inr ⟨(by simp only [Region.wanted]; rw [yielded_undef (d := 137) (by rfl) g137]; rfl), rfl⟩
                · cases e1 with
                  | false =>
                    have g131 : a.eval (.tmp 131) = undef := hd { on := 50, ground := .guard } (by simp) rfl
                    exact .inr ⟨(by simp only [Region.wanted]; rw [yielded_undef (d := 131) (by rfl) g131]; rfl), rfl⟩
                  | true =>
                    cases e2 with
                    | false =>
                      cases e3 with
                      | false =>
                        have g131 : a.eval (.tmp 131) = .bool false := hd { on := 50, ground := .guard } (by simp) rfl
                        have t137 : a.tmps.getD 137 undef = .bool false := hd { on := 56, ground := .data } (by simp) rfl
                        rw [Array.getD_eq_getD_getElem?] at t137
                        refine .inl ⟨(by simp only [Region.wanted]; rw [yielded_of (d := 131) (by rfl) g131]; rfl), ?_⟩
                        clear g131
                        go_simp
                        exact ⟨Below.refl _ _, rfl⟩
                      | true =>
                        cases e4 with
                        | false =>
                          have g131 : a.eval (.tmp 131) = .bool false := hd { on := 50, ground := .guard } (by simp) rfl
                          have t137 : a.tmps.getD 137 undef = .bool true := hd { on := 56, ground := .data } (by simp) rfl
                          rw [Array.getD_eq_getD_getElem?] at t137
                          have t142 : a.tmps.getD 142 undef = .bool false := hd { on := 61, ground := .data } (by simp) rfl
                          rw [Array.getD_eq_getD_getElem?] at t142
                          refine .inl ⟨(by simp only [Region.wanted]; rw [yielded_of (d := 131) (by rfl) g131]; rfl), ?_⟩
                          clear g131
                          go_simp
                          exact ⟨Below.refl _ _, rfl⟩
                        | true =>
                          have g131 : a.eval (.tmp 131) = .bool false := hd { on := 50, ground := .guard } (by simp) rfl
                          have t137 : a.tmps.getD 137 undef = .bool true := hd { on := 56, ground := .data } (by simp) rfl
                          rw [Array.getD_eq_getD_getElem?] at t137
                          have t142 : a.tmps.getD 142 undef = .bool true := hd { on := 61, ground := .data } (by simp) rfl
                          rw [Array.getD_eq_getD_getElem?] at t142
                          refine .inl ⟨(by simp only [Region.wanted]; rw [yielded_of (d := 131) (by rfl) g131]; rfl), ?_⟩
                          clear g131
                          go_simp
                          exact ⟨Below.refl _ _, rfl⟩
                    | true =>
                      have g131 : a.eval (.tmp 131) = .bool true := hd { on := 50, ground := .guard } (by simp) rfl
                      exact .inr ⟨(by simp only [Region.wanted]; rw [yielded_of (d := 131) (by rfl) g131]; rfl), rfl⟩
                · cases e1 with
                  | false =>
                    have g125 : a.eval (.tmp 125) = .bool false := hd { on := 44, ground := .guard } (by simp) rfl
                    exact .inr ⟨(by simp only [Region.wanted]; rw [yielded_of (d := 125) (by rfl) g125]; rfl), rfl⟩
                  | true =>
                    cases e2 with
                    | false =>
                      cases e3 with
                      | false =>
                        have g125 : a.eval (.tmp 125) = .bool true := hd { on := 44, ground := .guard } (by simp) rfl
                        have t131 : a.tmps.getD 131 undef = .bool false := hd { on := 50, ground := .data } (by simp) rfl
                        rw [Array.getD_eq_getD_getElem?] at t131
                        have t143 : a.tmps.getD 143 undef = .bool false := hd { on := 62, ground := .data } (by simp) rfl
                        rw [Array.getD_eq_getD_getElem?] at t143
                        refine .inl ⟨(by simp only [Region.wanted]; rw [yielded_of (d := 125) (by rfl) g125]; rfl), ?_⟩
                        clear g125
                        go_simp
                        exact ⟨Below.refl _ _, rfl⟩
                      | true =>
                        cases e4 with
                        | false =>
                          have g125 : a.eval (.tmp 125) = .bool true := hd { on := 44, ground := .guard } (by simp) rfl
                          have t131 : a.tmps.getD 131 undef = .bool false := hd { on := 50, ground := .data } (by simp) rfl
                          rw [Array.getD_eq_getD_getElem?] at t131
                          have t143 : a.tmps.getD 143 undef = .bool false := hd { on := 62, ground := .data } (by simp) rfl
                          rw [Array.getD_eq_getD_getElem?] at t143
                          refine .inl ⟨(by simp only [Region.wanted]; rw [yielded_of (d := 125) (by rfl) g125]; rfl), ?_⟩
                          clear g125
                          go_simp
                          exact ⟨Below.refl _ _, rfl⟩
                        | true =>
                          have g125 : a.eval (.tmp 125) = .bool true := hd { on := 44, ground := .guard } (by simp) rfl
                          have t131 : a.tmps.getD 131 undef = .bool false := hd { on := 50, ground := .data } (by simp) rfl
                          rw [Array.getD_eq_getD_getElem?] at t131
                          have t143 : a.tmps.getD 143 undef = .bool true := hd { on := 62, ground := .data } (by simp) rfl
                          rw [Array.getD_eq_getD_getElem?] at t143
                          refine .inl ⟨(by simp only [Region.wanted]; rw [yielded_of (d := 125) (by rfl) g125]; rfl), ?_⟩
                          clear g125
                          go_simp
                          exact ⟨Below.refl _ _, rfl⟩
                    | true =>
                      have g125 : a.eval (.tmp 125) = .bool true := hd { on := 44, ground := .guard } (by simp) rfl
                      have t131 : a.tmps.getD 131 undef = .bool true := hd { on := 50, ground := .data } (by simp) rfl
                      rw [Array.getD_eq_getD_getElem?] at t131
                      refine .inl ⟨(by simp only [Region.wanted]; rw [yielded_of (d := 125) (by rfl) g125]; rfl), ?_⟩
                      clear g125
                      go_simp
                      exact ⟨Below.refl _ _, rfl⟩
                · cases e1 with
                  | false =>
                    have g119 : a.eval (.tmp 119) = .bool false := hd { on := 38, ground := .guard } (by simp) rfl
                    have t125 : a.tmps.getD 125 undef = .bool false := hd { on := 44, ground := .data } (by simp) rfl
                    rw [Array.getD_eq_getD_getElem?] at t125
                    refine .inl ⟨(by simp only [Region.wanted]; rw [yielded_of (d := 119) (by rfl) g119]; rfl), ?_⟩
                    clear g119
                    go_simp
                    exact ⟨Below.refl _ _, rfl⟩
                  | true =>
                    cases e2 with
                    | false =>
                      cases e3 with
                      | false =>
                        have g119 : a.eval (.tmp 119) = .bool false := hd { on := 38, ground := .guard } (by simp) rfl
                        have t125 : a.tmps.getD 125 undef = .bool true := hd { on := 44, ground := .data } (by simp) rfl
                        rw [Array.getD_eq_getD_getElem?] at t125
                        have t144 : a.tmps.getD 144 undef = .bool false := hd { on := 63, ground := .data } (by simp) rfl
                        rw [Array.getD_eq_getD_getElem?] at t144
                        refine .inl ⟨(by simp only [Region.wanted]; rw [yielded_of (d := 119) (by rfl) g119]; rfl), ?_⟩
                        clear g119
                        go_simp
                        exact ⟨Below.refl _ _, rfl⟩
                      | true =>
                        cases e4 with
                        | false =>
                          have g119 : a.eval (.tmp 119) = .bool false := hd { on := 38, ground := .guard } (by simp) rfl
                          have t125 : a.tmps.getD 125 undef = .bool true := hd { on := 44, ground := .data } (by simp) rfl
                          rw [Array.getD_eq_getD_getElem?] at t125
                          have t144 : a.tmps.getD 144 undef = .bool false := hd { on := 63, ground := .data } (by simp) rfl
                          rw [Array.getD_eq_getD_getElem?] at t144
                          refine .inl ⟨(by simp only [Region.wanted]; rw [yielded_of (d := 119) (by rfl) g119]; rfl), ?_⟩
                          clear g119
                          go_simp
                          exact ⟨Below.refl _ _, rfl⟩
                        | true =>
                          have g119 : a.eval (.tmp 119) = .bool false := hd { on := 38, ground := .guard } (by simp) rfl
                          have t125 : a.tmps.getD 125 undef = .bool true := hd { on := 44, ground := .data } (by simp) rfl
                          rw [Array.getD_eq_getD_getElem?] at t125
                          have t144 : a.tmps.getD 144 undef = .bool true := hd { on := 63, ground := .data } (by simp) rfl
                          rw [Array.getD_eq_getD_getElem?] at t144
                          refine .inl ⟨(by simp only [Region.wanted]; rw [yielded_of (d := 119) (by rfl) g119]; rfl), ?_⟩
                          clear g119
                          go_simp
                          exact ⟨Below.refl _ _, rfl⟩
                    | true =>
                      have g119 : a.eval (.tmp 119) = .bool false := hd { on := 38, ground := .guard } (by simp) rfl
                      have t125 : a.tmps.getD 125 undef = .bool true := hd { on := 44, ground := .data } (by simp) rfl
                      rw [Array.getD_eq_getD_getElem?] at t125
                      have t144 : a.tmps.getD 144 undef = .bool true := hd { on := 63, ground := .data } (by simp) rfl
                      rw [Array.getD_eq_getD_getElem?] at t144
                      refine .inl ⟨(by simp only [Region.wanted]; rw [yielded_of (d := 119) (by rfl) g119]; rfl), ?_⟩
                      clear g119
                      go_simp
                      exact ⟨Below.refl _ _, rfl⟩
                · cases e1 with
                  | false =>
                    have g119 : a.eval (.tmp 119) = .bool false := hd { on := 38, ground := .guard } (by simp) rfl
                    have t145 : a.tmps.getD 145 undef = .bool false := hd { on := 64, ground := .data } (by simp) rfl
                    rw [Array.getD_eq_getD_getElem?] at t145
                    refine .inl ⟨(by simp only [Region.wanted]; rw [yielded_of (d := 119) (by rfl) g119]; rfl), ?_⟩
                    clear g119
                    go_simp
                    exact ⟨Below.refl _ _, rfl⟩
                  | true =>
                    cases e2 with
                    | false =>
                      cases e3 with
                      | false =>
                        have g119 : a.eval (.tmp 119) = .bool false := hd { on := 38, ground := .guard } (by simp) rfl
                        have t145 : a.tmps.getD 145 undef = .bool false := hd { on := 64, ground := .data } (by simp) rfl
                        rw [Array.getD_eq_getD_getElem?] at t145
                        refine .inl ⟨(by simp only [Region.wanted]; rw [yielded_of (d := 119) (by rfl) g119]; rfl), ?_⟩
                        clear g119
                        go_simp
                        exact ⟨Below.refl _ _, rfl⟩
                      | true =>
                        cases e4 with
                        | false =>
                          have g119 : a.eval (.tmp 119) = .bool false := hd { on := 38, ground := .guard } (by simp) rfl
                          have t145 : a.tmps.getD 145 undef = .bool false := hd { on := 64, ground := .data } (by simp) rfl
                          rw [Array.getD_eq_getD_getElem?] at t145
                          refine .inl ⟨(by simp only [Region.wanted]; rw [yielded_of (d := 119) (by rfl) g119]; rfl), ?_⟩
                          clear g119
                          go_simp
                          exact ⟨Below.refl _ _, rfl⟩
                        | true =>
                          have g119 : a.eval (.tmp 119) = .bool false := hd { on := 38, ground := .guard } (by simp) rfl
                          have t145 : a.tmps.getD 145 undef = .bool true := hd { on := 64, ground := .data } (by simp) rfl
                          rw [Array.getD_eq_getD_getElem?] at t145
                          refine .inl ⟨(by simp only [Region.wanted]; rw [yielded_of (d := 119) (by rfl) g119]; rfl), ?_⟩
                          clear g119
                          go_simp
                          exact ⟨Below.refl _ _, rfl⟩
                    | true =>
                      have g119 : a.eval (.tmp 119) = .bool false := hd { on := 38, ground := .guard } (by simp) rfl
                      have t145 : a.tmps.getD 145 undef = .bool true := hd { on := 64, ground := .data } (by simp) rfl
                      rw [Array.getD_eq_getD_getElem?] at t145
                      refine .inl ⟨(by simp only [Region.wanted]; rw [yielded_of (d := 119) (by rfl) g119]; rfl), ?_⟩
                      clear g119
                      go_simp
                      exact ⟨Below.refl _ _, rfl⟩
                · cases e1 with
                  | false =>
                    have g146 : a.eval (.tmp 146) = .bool false := hd { on := 65, ground := .guard } (by simp) rfl
                    exact .inr ⟨(by simp only [Region.wanted]; rw [yielded_of (d := 146) (by rfl) g146]; rfl), rfl⟩
                  | true =>
                    cases e2 with
                    | false =>
                      cases e3 with
                      | false =>
                        have g146 : a.eval (.tmp 146) = .bool false := hd { on := 65, ground := .guard } (by simp) rfl
                        exact .inr ⟨(by simp only [Region.wanted]; rw [yielded_of (d := 146) (by rfl) g146]; rfl), rfl⟩
                      | true =>
                        cases e4 with
                        | false =>
                          have g146 : a.eval (.tmp 146) = .bool false := hd { on := 65, ground := .guard } (by simp) rfl
                          exact .inr ⟨(by simp only [Region.wanted]; rw [yielded_of (d := 146) (by rfl) g146]; rfl), rfl⟩
                        | true =>
                          have g146 : a.eval (.tmp 146) = .bool true := hd { on := 65, ground := .guard } (by simp) rfl
                          have t6 : a.tmps.getD 6 undef = .map (some M) := hF.at 6 (by kernel_rfl)
                          rw [Array.getD_eq_getD_getElem?] at t6
                          refine .inl ⟨(by simp only [Region.wanted]; rw [yielded_of (d := 146) (by rfl) g146]; rfl), ?_⟩
                          clear g146
                          go_simp
                          exact ⟨Below.refl _ _, rfl⟩
                    | true =>
                      have g146 : a.eval (.tmp 146) = .bool true := hd { on := 65, ground := .guard } (by simp) rfl
                      have t6 : a.tmps.getD 6 undef = .map (some M) := hF.at 6 (by kernel_rfl)
                      rw [Array.getD_eq_getD_getElem?] at t6
                      refine .inl ⟨(by simp only [Region.wanted]; rw [yielded_of (d := 146) (by rfl) g146]; rfl), ?_⟩
                      clear g146
                      go_simp
                      exact ⟨Below.refl _ _, rfl⟩
                · cases e1 with
                  | false =>
                    have g146 : a.eval (.tmp 146) = .bool false := hd { on := 65, ground := .guard } (by simp) rfl
                    exact .inr ⟨(by simp only [Region.wanted]; rw [yielded_of (d := 146) (by rfl) g146]; rfl), rfl⟩
                  | true =>
                    cases e2 with
                    | false =>
                      cases e3 with
                      | false =>
                        have g146 : a.eval (.tmp 146) = .bool false := hd { on := 65, ground := .guard } (by simp) rfl
                        exact .inr ⟨(by simp only [Region.wanted]; rw [yielded_of (d := 146) (by rfl) g146]; rfl), rfl⟩
                      | true =>
                        cases e4 with
                        | false =>
                          have g146 : a.eval (.tmp 146) = .bool false := hd { on := 65, ground := .guard } (by simp) rfl
                          exact .inr ⟨(by simp only [Region.wanted]; rw [yielded_of (d := 146) (by rfl) g146]; rfl), rfl⟩
                        | true =>
                          have g146 : a.eval (.tmp 146) = .bool true := hd { on := 65, ground := .guard } (by simp) rfl
                          have t11 : a.tmps.getD 11 undef = .pointer (some ⟨lb, 0, none⟩) := hF.at 11 (by kernel_rfl)
                          rw [Array.getD_eq_getD_getElem?] at t11
                          refine .inl ⟨(by simp only [Region.wanted]; rw [yielded_of (d := 146) (by rfl) g146]; rfl), ?_⟩
                          clear g146
                          obtain ⟨z0, z1, z2⟩ := HZl W hE
                          go_simp
                          exact ⟨Below.refl _ _, rfl⟩
                    | true =>
                      have g146 : a.eval (.tmp 146) = .bool true := hd { on := 65, ground := .guard } (by simp) rfl
                      have t11 : a.tmps.getD 11 undef = .pointer (some ⟨lb, 0, none⟩) := hF.at 11 (by kernel_rfl)
                      rw [Array.getD_eq_getD_getElem?] at t11
                      refine .inl ⟨(by simp only [Region.wanted]; rw [yielded_of (d := 146) (by rfl) g146]; rfl), ?_⟩
                      clear g146
                      obtain ⟨z0, z1, z2⟩ := HZl W hE
                      go_simp
                      exact ⟨Below.refl _ _, rfl⟩
                · cases e1 with
                  | false =>
                    have g146 : a.eval (.tmp 146) = .bool false := hd { on := 65, ground := .guard } (by simp) rfl
                    exact .inr ⟨(by simp only [Region.wanted]; rw [yielded_of (d := 146) (by rfl) g146]; rfl), rfl⟩
                  | true =>
                    cases e2 with
                    | false =>
                      cases e3 with
                      | false =>
                        have g146 : a.eval (.tmp 146) = .bool false := hd { on := 65, ground := .guard } (by simp) rfl
                        exact .inr ⟨(by simp only [Region.wanted]; rw [yielded_of (d := 146) (by rfl) g146]; rfl), rfl⟩
                      | true =>
                        cases e4 with
                        | false =>
                          have g146 : a.eval (.tmp 146) = .bool false := hd { on := 65, ground := .guard } (by simp) rfl
                          exact .inr ⟨(by simp only [Region.wanted]; rw [yielded_of (d := 146) (by rfl) g146]; rfl), rfl⟩
                        | true =>
                          have g146 : a.eval (.tmp 146) = .bool true := hd { on := 65, ground := .guard } (by simp) rfl
                          have t147 : a.tmps.getD 147 undef = .map (some M) := hd { on := 66, ground := .data } (by simp) rfl
                          rw [Array.getD_eq_getD_getElem?] at t147
                          have t148 : a.tmps.getD 148 undef = .agg #[.int .i64 last.at_, .int .i64 last.kind, .int .i64 last.id] := hd { on := 67, ground := .data } (by simp) rfl
                          rw [Array.getD_eq_getD_getElem?] at t148
                          refine .inl ⟨(by simp only [Region.wanted]; rw [yielded_of (d := 146) (by rfl) g146]; rfl), ?_⟩
                          clear g146
                          have m0 := HLkl W hE
                          go_simp
                          exact ⟨Below.refl _ _, rfl⟩
                    | true =>
                      have g146 : a.eval (.tmp 146) = .bool true := hd { on := 65, ground := .guard } (by simp) rfl
                      have t147 : a.tmps.getD 147 undef = .map (some M) := hd { on := 66, ground := .data } (by simp) rfl
                      rw [Array.getD_eq_getD_getElem?] at t147
                      have t148 : a.tmps.getD 148 undef = .agg #[.int .i64 last.at_, .int .i64 last.kind, .int .i64 last.id] := hd { on := 67, ground := .data } (by simp) rfl
                      rw [Array.getD_eq_getD_getElem?] at t148
                      refine .inl ⟨(by simp only [Region.wanted]; rw [yielded_of (d := 146) (by rfl) g146]; rfl), ?_⟩
                      clear g146
                      have m0 := HLkl W hE
                      go_simp
                      exact ⟨Below.refl _ _, rfl⟩
                · cases e1 with
                  | false =>
                    have g146 : a.eval (.tmp 146) = .bool false := hd { on := 65, ground := .guard } (by simp) rfl
                    exact .inr ⟨(by simp only [Region.wanted]; rw [yielded_of (d := 146) (by rfl) g146]; rfl), rfl⟩
                  | true =>
                    cases e2 with
                    | false =>
                      cases e3 with
                      | false =>
                        have g146 : a.eval (.tmp 146) = .bool false := hd { on := 65, ground := .guard } (by simp) rfl
                        exact .inr ⟨(by simp only [Region.wanted]; rw [yielded_of (d := 146) (by rfl) g146]; rfl), rfl⟩
                      | true =>
                        cases e4 with
                        | false =>
                          have g146 : a.eval (.tmp 146) = .bool false := hd { on := 65, ground := .guard } (by simp) rfl
                          exact .inr ⟨(by simp only [Region.wanted]; rw [yielded_of (d := 146) (by rfl) g146]; rfl), rfl⟩
                        | true =>
                          have g146 : a.eval (.tmp 146) = .bool true := hd { on := 65, ground := .guard } (by simp) rfl
                          have t149 : a.tmps.getD 149 undef = .int .i64 gl := hd { on := 68, ground := .data } (by simp) rfl
                          rw [Array.getD_eq_getD_getElem?] at t149
                          refine .inl ⟨(by simp only [Region.wanted]; rw [yielded_of (d := 146) (by rfl) g146]; rfl), ?_⟩
                          clear g146
                          have hg2 : (gl == 2) = false := HK2.out (.inr ⟨by simpa using he3, by simpa using he4⟩) (by simpa using he1)
                          go_simp
                          exact ⟨Below.refl _ _, rfl⟩
                    | true =>
                      have g146 : a.eval (.tmp 146) = .bool true := hd { on := 65, ground := .guard } (by simp) rfl
                      have t149 : a.tmps.getD 149 undef = .int .i64 gl := hd { on := 68, ground := .data } (by simp) rfl
                      rw [Array.getD_eq_getD_getElem?] at t149
                      refine .inl ⟨(by simp only [Region.wanted]; rw [yielded_of (d := 146) (by rfl) g146]; rfl), ?_⟩
                      clear g146
                      have hg2 : (gl == 2) = false := HK2.out (.inl (by simpa using he2)) (by simpa using he1)
                      go_simp
                      exact ⟨Below.refl _ _, rfl⟩
                · cases e1 with
                  | false =>
                    have g119 : a.eval (.tmp 119) = .bool false := hd { on := 38, ground := .guard } (by simp) rfl
                    have t146 : a.tmps.getD 146 undef = .bool false := hd { on := 65, ground := .data } (by simp) rfl
                    rw [Array.getD_eq_getD_getElem?] at t146
                    refine .inl ⟨(by simp only [Region.wanted]; rw [yielded_of (d := 119) (by rfl) g119]; rfl), ?_⟩
                    clear g119
                    go_simp
                    exact ⟨Below.refl _ _, rfl⟩
                  | true =>
                    cases e2 with
                    | false =>
                      cases e3 with
                      | false =>
                        have g119 : a.eval (.tmp 119) = .bool false := hd { on := 38, ground := .guard } (by simp) rfl
                        have t146 : a.tmps.getD 146 undef = .bool false := hd { on := 65, ground := .data } (by simp) rfl
                        rw [Array.getD_eq_getD_getElem?] at t146
                        refine .inl ⟨(by simp only [Region.wanted]; rw [yielded_of (d := 119) (by rfl) g119]; rfl), ?_⟩
                        clear g119
                        go_simp
                        exact ⟨Below.refl _ _, rfl⟩
                      | true =>
                        cases e4 with
                        | false =>
                          have g119 : a.eval (.tmp 119) = .bool false := hd { on := 38, ground := .guard } (by simp) rfl
                          have t146 : a.tmps.getD 146 undef = .bool false := hd { on := 65, ground := .data } (by simp) rfl
                          rw [Array.getD_eq_getD_getElem?] at t146
                          refine .inl ⟨(by simp only [Region.wanted]; rw [yielded_of (d := 119) (by rfl) g119]; rfl), ?_⟩
                          clear g119
                          go_simp
                          exact ⟨Below.refl _ _, rfl⟩
                        | true =>
                          have g119 : a.eval (.tmp 119) = .bool false := hd { on := 38, ground := .guard } (by simp) rfl
                          have t146 : a.tmps.getD 146 undef = .bool true := hd { on := 65, ground := .data } (by simp) rfl
                          rw [Array.getD_eq_getD_getElem?] at t146
                          have t150 : a.tmps.getD 150 undef = .bool false := hd { on := 69, ground := .data } (by simp) rfl
                          rw [Array.getD_eq_getD_getElem?] at t150
                          refine .inl ⟨(by simp only [Region.wanted]; rw [yielded_of (d := 119) (by rfl) g119]; rfl), ?_⟩
                          clear g119
                          go_simp
                          exact ⟨Below.refl _ _, rfl⟩
                    | true =>
                      have g119 : a.eval (.tmp 119) = .bool false := hd { on := 38, ground := .guard } (by simp) rfl
                      have t146 : a.tmps.getD 146 undef = .bool true := hd { on := 65, ground := .data } (by simp) rfl
                      rw [Array.getD_eq_getD_getElem?] at t146
                      have t150 : a.tmps.getD 150 undef = .bool false := hd { on := 69, ground := .data } (by simp) rfl
                      rw [Array.getD_eq_getD_getElem?] at t150
                      refine .inl ⟨(by simp only [Region.wanted]; rw [yielded_of (d := 119) (by rfl) g119]; rfl), ?_⟩
                      clear g119
                      go_simp
                      exact ⟨Below.refl _ _, rfl⟩
                · have t119 : a.tmps.getD 119 undef = .bool false := hd { on := 38, ground := .data } (by simp) rfl
                  rw [Array.getD_eq_getD_getElem?] at t119
                  have t151 : a.tmps.getD 151 undef = .bool false := hd { on := 70, ground := .data } (by simp) rfl
                  rw [Array.getD_eq_getD_getElem?] at t151
                  refine .inl ⟨rfl, ?_⟩
                  go_simp
                  exact ⟨Below.refl _ _, rfl⟩
              · intro vs W hE hV
                have h71 : vs 71 = .bool false := hV 71 (by decide)
                have HWW : Hid (Below wc.heap.size wc W) := hE
                clear hV hE
                refine ‹∀ (a : Act) (w : World), Code.wp Try.prog (Code.cond _ _ _) _ a w → _› _ _ ?_
                refine put_run (fun a w => Code.wp Try.prog _ _ a w) 81 [vs 0, vs 1, vs 2, vs 3, vs 4, vs 5, vs 6, vs 7, vs 8, vs 9, vs 10, vs 11, vs 12, vs 13, vs 14, vs 15, vs 16, vs 17, vs 18, vs 19, vs 20, vs 21, vs 22, vs 23, vs 24, vs 25, vs 26, vs 27, vs 28, vs 29, vs 30, vs 31, vs 32, vs 33, vs 34, vs 35, vs 36, vs 37, vs 38, vs 39, vs 40, vs 41, vs 42, vs 43, vs 44, vs 45, vs 46, vs 47, vs 48, vs 49, vs 50, vs 51, vs 52, vs 53, vs 54, vs 55, vs 56, vs 57, vs 58, vs 59, vs 60, vs 61, vs 62, vs 63, vs 64, vs 65, vs 66, vs 67, vs 68, vs 69, vs 70, vs 71] [] rfl ?_
                rw [h71]
                clear h71
                generalize vs 0 = y0
                generalize vs 1 = y1
                generalize vs 2 = y2
                generalize vs 3 = y3
                generalize vs 4 = y4
                generalize vs 5 = y5
                generalize vs 6 = y6
                generalize vs 7 = y7
                generalize vs 8 = y8
                generalize vs 9 = y9
                generalize vs 10 = y10
                generalize vs 11 = y11
                generalize vs 12 = y12
                generalize vs 13 = y13
                generalize vs 14 = y14
                generalize vs 15 = y15
                generalize vs 16 = y16
                generalize vs 17 = y17
                generalize vs 18 = y18
                generalize vs 19 = y19
                generalize vs 20 = y20
                generalize vs 21 = y21
                generalize vs 22 = y22
                generalize vs 23 = y23
                generalize vs 24 = y24
                generalize vs 25 = y25
                generalize vs 26 = y26
                generalize vs 27 = y27
                generalize vs 28 = y28
                generalize vs 29 = y29
                generalize vs 30 = y30
                generalize vs 31 = y31
                generalize vs 32 = y32
                generalize vs 33 = y33
                generalize vs 34 = y34
                generalize vs 35 = y35
                generalize vs 36 = y36
                generalize vs 37 = y37
                generalize vs 38 = y38
                generalize vs 39 = y39
                generalize vs 40 = y40
                generalize vs 41 = y41
                generalize vs 42 = y42
                generalize vs 43 = y43
                generalize vs 44 = y44
                generalize vs 45 = y45
                generalize vs 46 = y46
                generalize vs 47 = y47
                generalize vs 48 = y48
                generalize vs 49 = y49
                generalize vs 50 = y50
                generalize vs 51 = y51
                generalize vs 52 = y52
                generalize vs 53 = y53
                generalize vs 54 = y54
                generalize vs 55 = y55
                generalize vs 56 = y56
                generalize vs 57 = y57
                generalize vs 58 = y58
                generalize vs 59 = y59
                generalize vs 60 = y60
                generalize vs 61 = y61
                generalize vs 62 = y62
                generalize vs 63 = y63
                generalize vs 64 = y64
                generalize vs 65 = y65
                generalize vs 66 = y66
                generalize vs 67 = y67
                generalize vs 68 = y68
                generalize vs 69 = y69
                generalize vs 70 = y70
                simp only [mergeAt_zero, mergeAt_succ, mergeAt_nil, setsL, List.foldl]
                clear HZt HZl HCw HK2 HLkx HLkl he1 he2 he3 he4 e1 e2 e3 e4
                have m3' := (HMc.out.below HWW.out).update timerMapT (by unfold maxLen; omega) hxi (c := 2) (by decide)
                obtain ⟨W5, m5, hm5, hg5⟩ := m3'
                replace m5 : (Instr.mapUpdate 47 (.map (some M)) (.agg #[.int .i64 xa, .int .i64 xk, .int .i64 xi]) (.int .i64 2)).run Try.prog W = .ok () W5 := m5
                have hdb : Below wc.heap.size wc W := HWW.out
                have i0 : W.cell? ⟨tb, 0, none⟩ = some (.int .i64 xa) := (HTc.out.below HWW.out).cell 0
                have i1 : W.cell? ⟨tb, 1, none⟩ = some (.int .i64 xk) := (HTc.out.below HWW.out).cell 1
                have i2 : W.cell? ⟨tb, 2, none⟩ = some (.int .i64 xi) := (HTc.out.below HWW.out).cell 2
                have HM5 : Hid (CountsT Try.prog 29 3 W5 M (m + 1) (fun z => if z = (⟨xa, xk, xi⟩ : TimerT) then 2 else f z)) := hm5
                have HT5 : Hid (HasBox W5 tb 29 (tcells ⟨xa, xk, xi⟩)) := (HTc.out.below hdb).grown hg5 (by simp; exact hMt)
                have HL5 : Hid (HasBox W5 lb 29 (tcells last)) := (HLc.out.below hdb).grown hg5 (by simp; exact hMl)
                have HC5 : Hid (Ck (fun b => b = M ∨ b = lb) w.heap.size w.heap.size xa r W5) := (HCc.out.below hdb).grown (.inl rfl) hg5
                have HB5 : Hid (Below w.heap.size w W5) := (HBc.out.trans (hdb.mono HBc.out.size)).grown hg5 (HBc.out.trans (hdb.mono HBc.out.size)).size (fun k hk => by cases hk; exact hMb)
                clear hm5 hg5 hdb
                have f0 : W5.cell? ⟨tb, 0, none⟩ = some (.int .i64 xa) := HT5.out.cell 0
                have f1 : W5.cell? ⟨tb, 1, none⟩ = some (.int .i64 xk) := HT5.out.cell 1
                have f2 : W5.cell? ⟨tb, 2, none⟩ = some (.int .i64 xi) := HT5.out.cell 2
                go_wp2_with (first | (refine wpList_store_row rfl 29 (.tmp 11) (.tmp 155) rfl lb (tcells ⟨xa, xk, xi⟩) rfl rfl 29 _ HL5.out sizeTimer rfl (by simp [Value.oneCell']) ?_) | fail)
                have HM6 : Hid (CountsT Try.prog 29 3 (W5.setRow lb (tcells ⟨xa, xk, xi⟩)) M (m + 1) (fun z => if z = (⟨xa, xk, xi⟩ : TimerT) then 2 else f z)) := HM5.out.block (setRow_other _ _ _ _ (Ne.symm hMl))
                have HL6 : Hid (HasBox (W5.setRow lb (tcells ⟨xa, xk, xi⟩)) lb 29 (tcells ⟨xa, xk, xi⟩)) := HL5.out.row
                have HC6 : Hid (Ck (fun b => b = M ∨ b = lb) w.heap.size w.heap.size xa r (W5.setRow lb (tcells ⟨xa, xk, xi⟩))) := HC5.out.row (.inr rfl) _
                have HB6 : Hid (Below w.heap.size w (W5.setRow lb (tcells ⟨xa, xk, xi⟩))) := below_row HB5.out hlb0 _
                generalize W5.setRow lb (tcells ⟨xa, xk, xi⟩) = W6 at HM6 HL6 HC6 HB6 ⊢
                clear f0 f1 f2 i0 i1 i2
                go_wp2
                go_roundw
                case rel => go_light; exact ⟨n + 1, xa, r, _, m + 1, ⟨xa, xk, xi⟩, by go_num, by simp at hnl; omega, hle, HC6.out, HM6.out, HMk2.out, HLt2.out, HL6.out, fun t ht => HOk.out t (by simp [ht]), by simp at hmL; omega, HB6.out, fun x hx => HEx.out x (by simp [hx])⟩
                case measure => go_light; simp [intOf]; simp at hnl; omega
            | false =>
              have e0 : nextT now L (2000 : Int) = (noTimer, false, now, L) := by unfold nextT; rw [hd]; rfl
              rw [e0] at KN
              have hgo : goOK now L (2000 : Int) = true := by
                unfold goOK top62
                rw [decide_eq_true hnowto, decide_eq_true (by omega), hd]; rfl
              have HLate : Hid (∀ x ∈ L, (2000 : Int) < x.at_) := HC.out.good.late hd
              clear e0 hd
              go_wp2_with fail
              refine KN.mono ?_
              rintro e w3 ⟨rfl, hC3, hp3⟩
              have HC3 : Hid (Ck (fun b => b = M ∨ b = lb) w.heap.size w.heap.size now L (w3.alloc (.cells (tcells noTimer) 29))) := hC3.below ((Below.refl _ _).alloc (Nat.le_refl _) _)
              have HM3 : Hid (CountsT Try.prog 29 3 (w3.alloc (.cells (tcells noTimer) 29)) M m f) := (HM.out.block (hp3.at_ M (.inl rfl))).below ((Below.refl _ _).alloc (Nat.le_refl _) _)
              have HL3 : Hid (HasBox (w3.alloc (.cells (tcells noTimer) 29)) lb 29 (tcells last)) := (hp3.box (.inr rfl) HLb.out).alloc _
              have HB3 : Hid (Below w.heap.size w (w3.alloc (.cells (tcells noTimer) 29))) := (HB.out.trans hp3.below).alloc (HB.out.trans hp3.below).size _
              have KG := kgo HC3.out hL1 (2000 : Int)
              rw [hgo, if_pos rfl] at KG
              clear hC3 hp3 KN HC HM HLb HB hgo
              go_wp2_with fail
              refine KG.mono ?_
              rintro e w4 ⟨rfl, hC4, hp4⟩
              have HC4 : Hid (Ck (fun b => b = M ∨ b = lb) w.heap.size w.heap.size (2000 : Int) L w4) := hC4
              have HM4 : Hid (CountsT Try.prog 29 3 w4 M m f) := HM3.out.block (hp4.at_ M (.inl rfl))
              have HL4 : Hid (HasBox w4 lb 29 (tcells last)) := hp4.box (.inr rfl) HL3.out
              have HB4 : Hid (Below w.heap.size w w4) := HB3.out.trans hp4.below
              clear hC4 hp4 KG HC3 HM3 HL3 HB3
              go_wp2
              go_roundw
              case rel => exact ⟨2, (2000 : Int), L, f, m, last, .inr (.inr rfl), by first | rfl | go_num, by omega, ⟨fun h => by omega, fun h => by omega, fun _ => ⟨rfl, late_none HOk.out HLate.out⟩⟩, HC4.out, HM4.out, HMk0.out, HLt.out, HL4.out, HOk.out, hmL, HB4.out⟩
              case measure => simp [intOf]
        · obtain ⟨hn, hLn⟩ := hq22 rfl
          subst hn
          subst hLn
          have HNo : Hid (∀ t, inT t → f t ≠ 1) := fun t ht h => by have := (HMk0.out t ht).1 h; simp at this
          clear hq0 hq1 hq22 HMk0 HLt HLb HOk
          generalize hwe : wr = we at HC HM HB ⊢
          clear hwe
          go_wp2
          go_loopw [163] (fun i wr => ∃ k : Nat, k ≤ l.length ∧ i = .int .i64 k ∧ Below we.heap.size we wr) (fun i _ => l.length - (intOf i).toNat)
          case atStart => exact ⟨0, Nat.zero_le _, rfl, Below.refl _ _⟩
          case round =>
            obtain ⟨j, hjl, rfl, hb⟩ := hrel
            have HBi : Hid (Below we.heap.size we wr) := hb
            clear hb
            by_cases hjlt : j < l.length
            · obtain ⟨xc, off, rfl, hbl, c0, c1, c2⟩ := (HL.out.below (HB.out.trans (HBi.out.mono HB.out.size))).at j hjlt
              have hxi : inT (l.getD j noTimer) := by
                rw [show l.getD j noTimer = l[j] by simp [hjlt]]
                exact HL.out.ok _ (List.getElem_mem _)
              generalize l.getD j noTimer = x at c0 c1 c2 hxi
              obtain ⟨xa, xk, xi⟩ := x
              simp only at c0 c1 c2
              obtain ⟨Y, hY, eY⟩ := u_mod9 xa 1000 (by decide)
              replace eY : (IntKind.u64.wrap xa).tmod 1000 = (Y : Int) := eY
              have htt : inT ⟨(Y : Int), xk, xi⟩ := inT_lit (by omega) hxi.2.1 hxi.2.2
              have hjI : (j : Int) < (l.length : Int) := by omega
              go_upto_region 36 with fail
              generalize hW : wr.alloc _ = wc
              have HXc : Hid (HasBox wc wr.heap.size 29 (tcells ⟨(Y : Int), xk, xi⟩)) := by show HasBox _ _ _ _; rw [← hW]; exact hasBox_new wr _ _
              have HBc : Hid (Below we.heap.size we wc) := by show Below _ _ _; rw [← hW]; exact HBi.out.alloc HBi.out.size _
              clear hW c0 c1 c2 eY
              generalize wr.heap.size = xb at HXc ⊢
              obtain ⟨gx, hgx⟩ : ∃ gx, f ⟨(Y : Int), xk, xi⟩ = gx := ⟨_, rfl⟩
              have hg1 : (gx == 1) = false := by rw [beq_eq_false_iff_ne, ← hgx]; exact HNo.out _ htt
              have m0 : (Instr.lookup 47 (.map (some M)) (.agg #[.int .i64 (Y : Int), .int .i64 xk, .int .i64 xi]) false).run Try.prog wc = .ok (.int .i64 gx) wc := by
                rw [← hgx]; exact (HM.out.below HBc.out).lookup timerMapT htt
              clear hgx
              have d0 : wc.cell? ⟨xb, 0, none⟩ = some (.int .i64 (Y : Int)) := HXc.out.cell 0
              have d1 : wc.cell? ⟨xb, 1, none⟩ = some (.int .i64 xk) := HXc.out.cell 1
              have d2 : wc.cell? ⟨xb, 2, none⟩ = some (.int .i64 xi) := HXc.out.cell 2
              go_wp2
              go_roundw
              case rel => exact ⟨j + 1, by omega, by go_num, HBc.out⟩
              case measure => simp [intOf]; omega
            · have HC9 : Hid (Ck (fun b => b = M ∨ b = lb) w.heap.size w.heap.size 2000 [] wr) := HC.out.below HBi.out
              have HB9 : Hid (Below w.heap.size w wr) := HB.out.trans (HBi.out.mono HB.out.size)
              have KL := kall HC9.out (by simp)
              go_wp2_with fail
              refine KL.mono ?_
              rintro e w7 ⟨tq, tc, rfl, _, hb⟩
              have KW := know (HC9.out.below hb)
              have HB7 : Hid (Below w.heap.size w w7) := HB9.out.trans (hb.mono HB9.out.size)
              clear hb KL
              go_wp2_with (first | (go_at_call 22; refine KW.mono ?_; rintro e wq ⟨rfl, hwq⟩; subst wq) | fail)
              refine (KA _).mono ?_
              rintro e w8 ⟨rfl, hb⟩
              have HB8 : Hid (Below w.heap.size w w8) := HB7.out.trans (hb.mono HB7.out.size)
              clear hb KW KA
              go_wp2
              go_ret
              exact ⟨rfl, HB8.out⟩


set_option maxRecDepth 100000 in
theorem lifted_ClockOrder (os : Os) (started : os.Started) (H : Type) (enc : TypeId × Value → H) :
    ReturnsInHanded {} Try.checked os 5 .any (Rows.clockOrderSpec.pre6 enc Try.prog Try.f5 Rows.clockOrderRow.domain false) (Rows.clockOrderSpec.post enc Try.prog Try.f5 false true false false) := by
  refine returnsInHanded_of_change (C := Try.checked) own started (by kernel_rfl) Try.func5
    (ChangeSpec.witness6 (enc := enc) (C := Try.checked) false ⟨#[], #[.slice none 0 0, .int .i64 0], []⟩ 8 (by kernel_rfl) (by kernel_rfl) (by kernel_rfl) (by kernel_rfl)) ?_
  intro W base args ds gs before hval0 hW hcnd _
  have hval : ∀ (j : Nat) t v, Try.f5.params[j]? = some t → args[j]? = some v → Value.okWide Try.prog W .any base t v := hval0
  have hW' := hW
  obtain ⟨p, q, hA0, hV, rfl, hfz, hnd⟩ := hW
  have hA : DataW.TrodAll enc Try.prog W 0 (fun _ => true) true Try.f5.params.toList args.toList ds p := hA0
  rw [Try.params5] at hA hval
  obtain ⟨v0, vs0, d0, ds0, p0, q0, hargs, rfl, rfl, h0, r0⟩ := trodAll_cons hA
  obtain ⟨v1, vs1, d1, ds1, p1, q1, rfl, rfl, rfl, h1, r1⟩ := trodAll_cons r0
  obtain ⟨rfl, rfl, rfl⟩ := trodAll_nil r1
  obtain rfl : args = #[v0, v1] := by cases args; simp_all
  obtain ⟨rfl, rfl⟩ := trodVars_none hV
  have k0 := h0
  have lt0 : ∀ x ∈ p0, x.block < W.heap.size := by obtain ⟨m, hm⟩ := k0; exact DataW.trod_lt m _ _ _ hm
  obtain ⟨c0, w0⟩ := open_timers (hval 0 40 v0 rfl rfl) h0
  obtain ⟨a1, rfl, rfl, rfl, w1⟩ := open_int Try.underlying3 (hval 1 3 v1 rfl rfl) h1
  clear hA0 hval0
  refine (walk_ClockOrder c0 v0 a1 (wf_i64 w1) W w0).mono fun e W' ⟨he, bel⟩ => ?_
  subst he
  exact ⟨_, rfl, _, _, _, [], _, [], hW', trodAll_mk1 (shut_bool Try.underlying4 _), (trodAll_cons_mk (Below.trod laidOut (by kernel_rfl) (of_decide_eq_true (by kernel_rfl)) k0 bel lt0) (trodAll_cons_mk (shut_int Try.underlying3 w1) trodAll_mk0)), rfl, bel.frame _, fun h => by cases h⟩

theorem over_ClockOrder : Rows.clockOrderRow.holds Try.pinned (OpenSpec.ofChange Rows.clockOrderSpec) :=
  OpenClaim.holds_of_wide 5 Try.f5 rfl rfl rfl rfl rfl rfl rfl ⟨rfl, rfl, rfl, rfl, rfl⟩ rfl rfl rfl rfl rfl (by kernel_rfl) Try.func5 (by kernel_rfl)
    (of_decide_eq_true (by kernel_rfl)) (by unfold Func.isWrapper; first | (rw [if_pos (by decide +kernel)]; kernel_rfl) | (rw [if_neg (by decide +kernel)]; exact ⟨rfl, rfl⟩))
    (fun os started H enc _ => lifted_ClockOrder os started H enc)

/-- The statement. -/
theorem clockOrder_holds : Rows.ClockOrderSaid := over_ClockOrder
#print axioms clockOrder_holds

end Go.Proofs.Ytelpdmaphmfkiaa

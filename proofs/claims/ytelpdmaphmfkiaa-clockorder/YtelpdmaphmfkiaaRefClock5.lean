/-
  The reference's answers to chapter 9: Next.
-/
import Derived.Test.YtelpdmaphmfkiaaRefClock4
import Derived.Handy
namespace Go.Proofs.Ytelpdmaphmfkiaa
open Go.RowKit

theorem results_cell_tmp_row {P : Program} {fn : Func} {p u : Tmp} {ty : TypeId} (h : fn.results = #[.cell p ty, .tmp u]) (tmps : Array Value) (w : World) (g : Nat) (t : TypeId) (cs : Array Value) (fr : Nat × Nat) (d : TypeDesc)
    (hp : tmps.getD p undef = .pointer (some ⟨g, 0, none⟩)) (hg : w.heap[g]? = some (.cells cs t fr))
    (hu : P.underlying ty = some d) (hd : (match d with | .struct _ | .array _ _ => true | _ => false) = true) (hi : (P.info? ty).map (·.size) = some cs.size) :
    (results fn tmps).run P w = .ok (.tuple #[.agg cs, tmps.getD u undef]) w := by
  rw [results_cell_tmp h, hp]
  simp only [asAddr, Sem.run_pure, Result.andThen_ok, run_loadVar_row w g t ty cs fr d hg hu hd hi]

theorem RClock.alloc {w : World} {base B tC tT : Nat} {v : Value} {now : Int} {L : List TimerT} (h : RClock w base B tC tT v now L) (o : Obj) : RClock (w.alloc o) base B tC tT v now L := h.below ((Below.refl _ _).alloc (Nat.le_refl _) _)

set_option maxRecDepth 100000 in
set_option maxHeartbeats 8000000 in
theorem rNext_any (base B : Nat) (v : Value) (now : Int) (L : List TimerT) (til : Int) (w : World) (hc : RClock w base B 42 29 v now L) (hlen : L.length ≤ 1000000) (hle : ∀ t ∈ L, 0 ≤ t.at_ ∧ t.at_ ≤ top62) :
    Calls Try.prog 17 #[.pointer (some ⟨B, 0, none⟩), .int .i64 til] w fun e w' => e = .returned (.tuple #[tval (nextT now L til).1, .bool (nextT now L til).2.1]) ∧ ∃ v', Turned w w' base B 42 29 v v' (nextT now L til).2.2.1 (nextT now L til).2.2.2 := by
  have ht := hc.timers
  obtain ⟨ao, cap, rfl⟩ := ht.shaped
  obtain ⟨i0, hi, hz0, hz1, hz2⟩ : ∃ i, Try.prog.info? 29 = some i ∧ i.zero = some (tval noTimer) ∧ i.size = 3 ∧ i.bytes = 24 := by
    have h := infoTimer
    cases hi : Try.prog.info? 29 with
    | none => rw [hi] at h; simp at h
    | some i =>
      rw [hi] at h
      simp only [Option.map_some, Option.some.injEq, Prod.mk.injEq] at h
      exact ⟨i, rfl, h.1, h.2.1, h.2.2⟩
  have HT : Hid (IsTimers w (.slice ao L.length cap) L) := ht
  have HC : Hid (RClock w base B 42 29 (.slice ao L.length cap) now L) := hc
  have hBl : B < w.heap.size := hc.box.lt
  have cl : w.cell? ⟨B, 1, none⟩ = some (.slice ao L.length cap) := hc.box.cell 1
  have hneB : B ≠ w.heap.size := by omega
  clear hc ht
  obtain ⟨R, hR⟩ : ∃ R, nextT now L til = R := ⟨_, rfl⟩
  rw [hR]
  have HR : Hid (nextT now L til = R) := hR
  clear hR
  by_cases h3 : L.length = 0
  · have h0 : L = [] := List.eq_nil_of_length_eq_zero h3
    have HF : Hid (R = (noTimer, false, now, L)) := by show R = _; rw [← HR.out]; unfold nextT; rw [h0]; rfl
    have h3' : ((L.length : Int) == 0) = true := by rw [beq_iff_eq]; omega
    clear h0 h3
    go_enter Try.func17, Try.ntmps17
    go_wp2
    go_returns
    exact ⟨by rw [HF.out], .slice ao L.length cap, by rw [HF.out]; exact ⟨HC.out.alloc _, ⟨rfl, rfl, rfl, by simp, fun k hk _ => Below.heap_alloc _ _ _ hk⟩, .inl rfl⟩⟩
  · have h3' : ((L.length : Int) == 0) = false := by rw [beq_eq_false_iff_ne]; omega
    obtain ⟨b, off, rfl, hbl, c0, c1, c2⟩ := HT.out.at 0 (by omega)
    have HD : Hid (dueT L til = decide ((L.getD 0 noTimer).at_ ≤ til)) := dueT_cons (by omega)
    have HIn : Hid (0 ≤ (L.getD 0 noTimer).at_ ∧ (L.getD 0 noTimer).at_ ≤ top62) := by
      have e : L.getD 0 noTimer = L[0]'(by omega) := by simp [show 0 < L.length by omega]
      show _ ∧ _
      rw [e]; exact hle _ (List.getElem_mem _)
    have HRx : Hid (R = if dueT L til then (L.getD 0 noTimer, true, (L.getD 0 noTimer).at_, L.drop 1) else (noTimer, false, now, L)) := HR.out.symm
    generalize L.getD 0 noTimer = x at c0 c1 c2 HD HIn HRx
    have x0 : w.cell? ⟨b, off, none⟩ = some (.int .i64 x.at_) := by simpa using c0
    have x1 : w.cell? ⟨b, off + 1, none⟩ = some (.int .i64 x.kind) := by simpa using c1
    have x2 : w.cell? ⟨b, off + 2, none⟩ = some (.int .i64 x.id) := by simpa using c2
    have hneb : b ≠ w.heap.size := by omega
    clear c0 c1 c2 HR
    by_cases h4 : til < x.at_
    · have HF : Hid (R = (noTimer, false, now, L)) := by show R = _; rw [HRx.out, HD.out, decide_eq_false (by omega)]; rfl
      go_enter Try.func17, Try.ntmps17
      go_wp2
      go_returns
      exact ⟨by rw [HF.out], .slice (some ⟨b, off, none⟩) L.length cap, by rw [HF.out]; exact ⟨HC.out.alloc _, ⟨rfl, rfl, rfl, by simp, fun k hk _ => Below.heap_alloc _ _ _ hk⟩, .inl rfl⟩⟩
    · have HF : Hid (R = (x, true, x.at_, L.drop 1)) := by show R = _; rw [HRx.out, HD.out, decide_eq_true (by omega)]; rfl
      obtain ⟨A, hA, HX⟩ : ∃ A : Addr, (if cap = 1 then some (⟨b, off, none⟩ : Addr) else some ⟨b, off + 3, none⟩) = some A ∧ Hid (∀ W, Below w.heap.size w W → IsTimers W (.slice (some A) (L.length - 1) (cap - 1)) (L.drop 1)) := by
        by_cases h : cap = 1
        · refine ⟨⟨b, off, none⟩, by simp [h], fun W q => ?_⟩
          have := (HT.out.below q).from 1 (by omega)
          rwa [if_pos h] at this
        · refine ⟨⟨b, off + 3, none⟩, by simp [h], fun W q => ?_⟩
          have := (HT.out.below q).from 1 (by omega)
          rw [if_neg h] at this
          have e : (⟨b, off, none⟩ : Addr).add (1 * 3) = ⟨b, off + 3, none⟩ := by unfold Addr.add; split <;> simp_all
          rw [Option.map_some, e] at this
          exact this
      have HXr := fun o1 o2 => ((HX.out ((w.alloc o1).alloc o2) (((Below.refl _ _).alloc (Nat.le_refl _) _).alloc (by simp) _)).row)
      rw [show (L.drop 1).length = L.length - 1 by simp] at HXr
      have hcap : L.length ≤ cap := HT.out.row.2.1.2.1
      have h1c : 1 ≤ L.length := by omega
      have h1i : (1 : Int) ≤ (L.length : Int) := by omega
      clear HRx
      go_enter Try.func17, Try.ntmps17
      have h1d : 0 < L.length := by omega
      go_wp2_with (at_builtin; refine wpList_append_row rfl (.const nilW) (.tmp 36) 40 rfl w.heap.size 29 i0 _ 3 24 Try.underlying40 hi hz0 hz1 hz2 rfl (by decide) nilW 0 [] rfl (World.ownsRow_nil _ _ _ _) _ (L.length - 1) (timerCells (L.drop 1)) rfl (HXr _ _) (timerCells_one _) (by unfold maxLen; omega) (by omega) (by simp; omega) ?_)
      intro v' w3 hown hgrow hat
      obtain ⟨vo, vc, rfl⟩ := (isRow_own hown).shaped
      have hgrow' : ((w.alloc (.cells (tcells noTimer) 29)).alloc (.cells (tcells x) 29)).grownBy w3 nilW.ownBlock := hgrow
      have HB3 : Hid (Below w.heap.size w w3) := (((Below.refl w.heap.size w).alloc (Nat.le_refl _) _).alloc (by simp) _).grown hgrow' (by simp; omega) (fun k hk => by simp [Value.ownBlock] at hk)
      have HY : Hid (HasBox w3 w.heap.size 29 (tcells noTimer)) := ((hasBox_new w 29 (tcells noTimer)).alloc _).grown hgrow' (by simp [Value.ownBlock])
      have HXb : Hid (HasBox w3 (w.heap.size + 1) 29 (tcells x)) := (hasBox_new' (w.alloc _) 29 (w.heap.size + 1) (tcells x) (by simp)).grown hgrow' (by simp [Value.ownBlock])
      have HO3 : Hid (w3.ownsRow w.heap.size 29 3 (.slice vo (L.length - 1) vc) (L.drop 1).length (timerCells (L.drop 1))) := by
        show World.ownsRow _ _ _ _ _ _ _
        rw [show (L.drop 1).length = L.length - 1 by simp, show L.drop 1 = L.tail by simp]
        exact hown
      have HCl3 : Hid (RClock w3 base B 42 29 (.slice (some ⟨b, off, none⟩) L.length cap) now L) := HC.out.below HB3.out
      have HAt : Hid ((Value.slice vo (L.length - 1) vc).ownBlock = none ∨ (Value.slice vo (L.length - 1) vc).ownBlock = some (w.heap.size + 1 + 1)) := hat
      have clr : w3.cell? ⟨B, 1, none⟩ = some (.slice (some ⟨b, off, none⟩) L.length cap) := HCl3.out.box.cell 1
      have fr : w3.frozen? ⟨B, 1, none⟩ = false := HCl3.out.box.frozen 1
      clear hown hgrow hgrow' hat HXr x0 x1 x2
      go_upto_region 5 with fail
      generalize hW4 : w3.setCell _ _ = W4
      have HT4 : Hid (Turned w W4 base B 42 29 (.slice (some ⟨b, off, none⟩) L.length cap) (.slice vo (L.length - 1) vc) now (L.drop 1)) := by
        show Turned _ _ _ _ _ _ _ _ _ _
        rw [← hW4]
        exact turned_store HC.out HCl3.out HB3.out HO3.out fun t ht => HC.out.ok t (List.mem_of_mem_drop ht)
      have HY4 : Hid (HasBox W4 w.heap.size 29 (tcells noTimer)) := by show HasBox _ _ _ _; rw [← hW4]; exact HY.out.setOther _ (by simp; omega) _
      have HX4 : Hid (HasBox W4 (w.heap.size + 1) 29 (tcells x)) := by show HasBox _ _ _ _; rw [← hW4]; exact HXb.out.setOther _ (by simp; omega) _
      have cx : W4.cell? ⟨w.heap.size + 1, 0, none⟩ = some (.int .i64 x.at_) := HX4.out.cell 0
      have cn : W4.cell? ⟨B, 0, none⟩ = some (.int .i64 now) := HT4.out.clock.box.cell 0
      have fn : W4.frozen? ⟨B, 0, none⟩ = false := HT4.out.clock.box.frozen 0
      clear hW4 clr fr HY HXb HCl3 HO3 HB3
      go_upto_region 6 with fail
      generalize hW5 : W4.setCell _ _ = W5
      have HT5 : Hid (Turned w W5 base B 42 29 (.slice (some ⟨b, off, none⟩) L.length cap) (.slice vo (L.length - 1) vc) x.at_ (L.drop 1)) := by
        show Turned _ _ _ _ _ _ _ _ _ _
        rw [← hW5]
        exact turned_now HT4.out HIn.out rfl
      have HY5 : Hid (HasBox W5 w.heap.size 29 (tcells noTimer)) := by show HasBox _ _ _ _; rw [← hW5]; exact HY4.out.setOther _ (by simp; omega) _
      have HX5 : Hid (HasBox W5 (w.heap.size + 1) 29 (tcells x)) := by show HasBox _ _ _ _; rw [← hW5]; exact HX4.out.setOther _ (by simp; omega) _
      clear hW5 cx cn fn HY4 HX4 HT4
      go_wp2_with (first | (refine wpList_load_row rfl 29 (.tmp 6) rfl (w.heap.size + 1) rfl 29 (tcells x) (0, 0) _ HX5.out Try.underlying29 rfl sizeTimer ?_) | (refine wpList_store_row rfl 29 (.tmp 4) (.tmp 45) rfl w.heap.size (tcells x) rfl rfl 29 _ HY5.out sizeTimer rfl (by simp [Value.oneCell']) ?_))
      refine bodyPost_ret (results_cell_tmp_row rfl _ _ w.heap.size 29 (tcells x) _ _ rfl HY5.out.row Try.underlying29 rfl sizeTimer) rfl ?_
      refine ⟨by rw [HF.out]; rfl, .slice vo (L.length - 1) vc, ?_⟩
      rw [HF.out]
      obtain ⟨hcl, hgr, hrow⟩ := HT5.out
      have hother : ∀ k, k ≠ w.heap.size → (W5.setRow w.heap.size (tcells x)).heap[k]? = W5.heap[k]? := fun k hk => setRow_other _ _ _ _ hk
      refine ⟨hcl.stands (hother B (by omega)) fun k hk => hother k fun e => ?_, ⟨hgr.os, hgr.tape, hgr.output, ?_, fun k hk hne => ?_⟩, hrow⟩
      · subst e
        rcases HAt.out with h | h
        · rw [h] at hk; cases hk
        · rw [h] at hk
          simp only [Option.some.injEq] at hk
          omega
      · have := hgr.size
        simpa [World.setRow] using this
      · rw [hother k (by omega), hgr.block k hk hne]

end Go.Proofs.Ytelpdmaphmfkiaa

/-
  The reference's answers to chapter 9: Set.
-/
import Derived.Test.YtelpdmaphmfkiaaRefClock2
import Derived.Test.YtelpdmaphmfkiaaRel6
import Derived.Test.YtelpdmaphmfkiaaRegionSplit
import Derived.Deep.RegionHeld3
import Derived.Deep.Light
namespace Go.Proofs.Ytelpdmaphmfkiaa
open Go.RowKit

theorem run_oboxT {P : Program} {w : World} (ρ : Operand → Value) (o : Oper) (ty : TypeId) (x : Operand) (ho : o.op = .load ty x) (g : Nat) (hx : ρ x = .pointer (some ⟨g, 0, none⟩)) (t : TypeId) (cs : Array Value) (d : TypeDesc) (hg : HasBox w g t cs)
    (hu : P.underlying ty = some d) (hd : (match d with | .struct _ | .array _ _ => true | _ => false) = true) (hi : (P.info? ty).map (·.size) = some cs.size) : (execOp ρ o).run P w = .ok (.value (.agg cs)) w := by
  unfold execOp
  simp only [ho, hx, Instr.loadAt, Instr.sureAddr, Sem.run_bind, Sem.run_pure, Result.andThen_ok, run_loadVar_row w g t ty cs _ d hg hu hd hi]

theorem turned_same {w w' : World} {base B tC tT : Nat} {v : Value} {now : Int} {L : List TimerT} (h : RClock w base B tC tT v now L) (hb : Below w.heap.size w w') : Turned w w' base B tC tT v v now L :=
  ⟨h.below hb, ⟨hb.os, hb.tape, hb.output, hb.size, fun k hk _ => hb.block k hk⟩, .inl rfl⟩

theorem turned_trans {w w2 w' : World} {base B tC tT : Nat} {v0 v2 v' : Value} {now : Int} {M N : List TimerT} (h1 : Turned w w2 base B tC tT v0 v2 now M) (h2 : Turned w2 w' base B tC tT v2 v' now N) : Turned w w' base B tC tT v0 v' now N := by
  refine ⟨h2.clock, ⟨h2.grown.os.trans h1.grown.os, h2.grown.tape.trans h1.grown.tape, h2.grown.output.trans h1.grown.output, Nat.le_trans h1.grown.size h2.grown.size, fun k hk hne => ?_⟩, ?_⟩
  · rw [h2.grown.block k (Nat.lt_of_lt_of_le hk h1.grown.size) hne, h1.grown.block k hk hne]
  · rcases h2.row with h | h
    · rw [h]; exact h1.row
    · exact .inr fun k hk => Nat.le_trans h1.grown.size (h k hk)

/-- Behind Cut and the new row. -/
theorem rSet_end {w W1 w2 W wr : World} {base B tC tT k : Nat} {v0 v2 v5 : Value} {now : Int} {M RL : List TimerT} {t : TimerT} (hB1 : Below w.heap.size w W1) (hT : Turned W1 w2 base B tC tT v0 v2 now M)
    (hW : Below w2.heap.size w2 W) (hb : Below W.heap.size W wr) (hkA : aheadT M t = k) (hRL : RL = putT M t) (hk : k ≤ M.length) (ht : inT t)
    (ho : wr.ownsRow W.heap.size tT 3 v5 (k + 1 + (M.length - k)) (timerCells (M.take k) ++ timerCells [t] ++ timerCells (M.drop k))) :
    Turned w (wr.setCell ⟨B, 1, none⟩ v5) base B tC tT v0 v5 now RL := by
  have e : RL = M.take k ++ [t] ++ M.drop k := by rw [hRL, ← hkA]; unfold putT; simp
  have hl : RL.length = k + 1 + (M.length - k) := by rw [e]; simp; omega
  rw [← timerCells_append, ← timerCells_append, ← e, ← hl] at ho
  have hbw : Below w2.heap.size w2 wr := hW.trans (hb.mono hW.size)
  have h2 : Turned w2 (wr.setCell ⟨B, 1, none⟩ v5) base B tC tT v2 v5 now RL := turned_store hT.clock (hT.clock.below hbw) hbw (own_from ho hW.size) fun x hx => by
    rw [e] at hx
    simp only [List.mem_append, List.mem_singleton] at hx
    rcases hx with (hx | rfl) | hx
    · exact hT.clock.ok x (List.mem_of_mem_take hx)
    · exact ht
    · exact hT.clock.ok x (List.mem_of_mem_drop hx)
  have h1 : Turned w w2 base B tC tT v0 v2 now M := ⟨hT.clock, ⟨hT.grown.os.trans hB1.os, hT.grown.tape.trans hB1.tape, hT.grown.output.trans hB1.output, Nat.le_trans hB1.size hT.grown.size, fun g hg hne => by rw [hT.grown.block g (Nat.lt_of_lt_of_le hg hB1.size) hne, hB1.block g hg]⟩, hT.row.imp id fun h g hg => Nat.le_trans hB1.size (h g hg)⟩
  exact turned_trans h1 h2

set_option maxRecDepth 100000 in
set_option maxHeartbeats 16000000 in
theorem rSet_any (base B : Nat) (v : Value) (now : Int) (L : List TimerT) (t : TimerT) (w : World) (hc : RClock w base B 42 29 v now L) (hlen : L.length ≤ 1000000) (ht0 : inT t) :
    Calls Try.prog 13 #[.pointer (some ⟨B, 0, none⟩), tval t] w fun e w' => e = .returned (.bool (setOK now t)) ∧ ∃ v', Turned w w' base B 42 29 v v' now (setT now L t) := by
  obtain ⟨ao, cap, rfl⟩ := hc.timers.shaped
  obtain ⟨i0, hi, hz0, hz1, hz2⟩ : ∃ i, Try.prog.info? 29 = some i ∧ i.zero = some (tval noTimer) ∧ i.size = 3 ∧ i.bytes = 24 := by
    have h := infoTimer
    cases hi : Try.prog.info? 29 with
    | none => rw [hi] at h; simp at h
    | some i =>
      rw [hi] at h
      simp only [Option.map_some, Option.some.injEq, Prod.mk.injEq] at h
      exact ⟨i, rfl, h.1, h.2.1, h.2.2⟩
  have HC : Hid (RClock w base B 42 29 (.slice ao L.length cap) now L) := hc
  have hBl : B < w.heap.size := hc.box.lt
  have hneB : B ≠ w.heap.size := by omega
  have cn : w.cell? ⟨B, 0, none⟩ = some (.int .i64 now) := hc.box.cell 0
  clear hc
  obtain ⟨R, hR⟩ : ∃ R, setOK now t = R := ⟨_, rfl⟩
  obtain ⟨RL, hRL⟩ : ∃ RL, setT now L t = RL := ⟨_, rfl⟩
  rw [hR, hRL]
  have HR : Hid (setOK now t = R) := hR
  have HRL : Hid (setT now L t = RL) := hRL
  clear hR hRL
  by_cases h1 : t.at_ < now
  · have hs : setOK now t = false := by unfold setOK; rw [decide_eq_false (by omega)]; rfl
    have HF : Hid (R = false ∧ RL = L) := ⟨by rw [← HR.out, hs], by rw [← HRL.out]; unfold setT; rw [hs]; rfl⟩
    clear hs
    go_enter Try.func13, Try.ntmps13
    go_wp2
    go_quiet (fail)
    go_wp2
    go_ret
    exact ⟨by rw [HF.out.1]; rfl, _, by rw [HF.out.2]; exact turned_same HC.out (below_drews ((Below.refl _ _).alloc (Nat.le_refl _) _) _)⟩
  by_cases h2 : (4611686018427387904 : Int) < t.at_
  · have hs : setOK now t = false := by unfold setOK top62; rw [decide_eq_false (show ¬ t.at_ ≤ 4611686018427387904 by omega), Bool.and_false]
    have HF : Hid (R = false ∧ RL = L) := ⟨by rw [← HR.out, hs], by rw [← HRL.out]; unfold setT; rw [hs]; rfl⟩
    clear hs
    go_enter Try.func13, Try.ntmps13
    go_wp2
    go_quiet (fail)
    go_wp2
    go_ret
    exact ⟨by rw [HF.out.1]; rfl, _, by rw [HF.out.2]; exact turned_same HC.out (below_drews ((Below.refl _ _).alloc (Nat.le_refl _) _) _)⟩
  have hs : setOK now t = true := by unfold setOK top62; rw [decide_eq_true (by omega), decide_eq_true (by omega)]; rfl
  have HF : Hid (R = true ∧ RL = putT (cutT L t.kind t.id) t) := ⟨by rw [← HR.out, hs], by rw [← HRL.out]; unfold setT; rw [hs]; rfl⟩
  clear hs HR HRL
  have HIt : Hid (inT t) := ht0
  clear ht0
  go_enter Try.func13, Try.ntmps13
  go_wp2
  go_quiet (fail)
  rename_i nq
  have HB1 : Hid (Below w.heap.size w ((w.alloc (.cells #[.int .i64 t.at_, .int .i64 t.kind, .int .i64 t.id] 29)).drewN nq)) := below_drews ((Below.refl _ _).alloc (Nat.le_refl _) _) _
  have HX1 : Hid (HasBox ((w.alloc (.cells #[.int .i64 t.at_, .int .i64 t.kind, .int .i64 t.id] 29)).drewN nq) w.heap.size 29 (tcells t)) := (hasBox_new w 29 (tcells t)).below (below_drews (Below.refl _ _) _)
  generalize (w.alloc (.cells #[.int .i64 t.at_, .int .i64 t.kind, .int .i64 t.id] 29)).drewN nq = W1 at HB1 HX1 ⊢
  have k1 : W1.cell? ⟨w.heap.size, 1, none⟩ = some (.int .i64 t.kind) := HX1.out.cell 1
  have k2 : W1.cell? ⟨w.heap.size, 2, none⟩ = some (.int .i64 t.id) := HX1.out.cell 2
  go_wp2_with fail
  refine (rCut_any base B _ now L t.kind t.id W1 (HC.out.below HB1.out) hlen).mono ?_
  rintro e w2 ⟨rfl, v2, hT⟩
  have hMl : (cutT L t.kind t.id).length ≤ 1000000 := Nat.le_trans (cutT_length _ _ _) hlen
  generalize cutT L t.kind t.id = M at hT hMl HF
  obtain ⟨ma, mc, rfl⟩ := hT.clock.timers.shaped
  have HT2 : Hid (Turned W1 w2 base B 42 29 (.slice ao L.length cap) (.slice ma M.length mc) now M) := hT
  have HX2 : Hid (HasBox w2 w.heap.size 29 (tcells t)) := HX1.out.grown hT.grown (by simp; omega)
  have hmc : M.length ≤ mc := hT.clock.timers.row.2.1.2.1
  have HClw : Hid (∀ W, Below w2.heap.size w2 W → RClock W base B 42 29 (.slice ma M.length mc) now M) := fun W q => HT2.out.clock.below q
  have HBw : Hid (∀ W, Below w2.heap.size w2 W → HasBox W w.heap.size 29 (tcells t)) := fun W q => HX2.out.below q
  clear hT k1 k2 HX1
  go_wp2
  go_loopw [5] (fun i wr => ∃ k : Nat, k ≤ M.length ∧ i = .int .i64 k ∧ (∀ j, j < k → ltT (M.getD j noTimer) t = true) ∧ Below w2.heap.size w2 wr) (fun i _ => M.length - (intOf i).toNat)
  case atStart => exact ⟨0, Nat.zero_le _, rfl, fun j h => by omega, Below.refl _ _⟩
  case round =>
    obtain ⟨k, hk, rfl, ha, hb⟩ := hrel
    have HA : Hid (∀ j, j < k → ltT (M.getD j noTimer) t = true) := ha
    have HBr : Hid (Below w2.heap.size w2 wr) := hb
    have HCl : ∀ W, Below wr.heap.size wr W → RClock W base B 42 29 (.slice ma M.length mc) now M := fun W q => HClw.out W (hb.trans (q.mono hb.size))
    have HBx : ∀ W, Below wr.heap.size wr W → HasBox W w.heap.size 29 (tcells t) := fun W q => HBw.out W (hb.trans (q.mono hb.size))
    have hkI : (k : Int) ≤ (M.length : Int) := by omega
    have hkI0 : (0 : Int) ≤ (k : Int) := by omega
    have hkc : (k : Int) ≤ (mc : Int) := by omega
    have hkc2 : k ≤ mc := by omega
    clear ha hb
    by_cases hlt : k < M.length
    · obtain ⟨mb, mo, rfl, hbl, c0, c1, c2⟩ := (HCl wr (Below.refl _ _)).timers.at k hlt
      have HXc : ∀ W, Below wr.heap.size wr W → W.cell? ⟨mb, mo + k * 3, none⟩ = some (.int .i64 (M.getD k noTimer).at_) ∧ W.cell? ⟨mb, mo + k * 3 + 1, none⟩ = some (.int .i64 (M.getD k noTimer).kind) ∧ W.cell? ⟨mb, mo + k * 3 + 2, none⟩ = some (.int .i64 (M.getD k noTimer).id) := fun W p => ⟨(p.cell (p := ⟨mb, _, none⟩) hbl).trans c0, (p.cell (p := ⟨mb, _, none⟩) hbl).trans c1, (p.cell (p := ⟨mb, _, none⟩) hbl).trans c2⟩
      have HN : Hid (ltT (M.getD k noTimer) t = true → ∀ j, j < k + 1 → ltT (M.getD j noTimer) t = true) := fun h j hj => by
        rcases Nat.lt_or_ge j k with h1 | h1
        · exact HA.out j h1
        · obtain rfl : j = k := by omega
          exact h
      have HE : Hid (ltT (M.getD k noTimer) t = false → aheadT M t = k) := fun h => aheadT_stop HA.out hk fun _ => h
      have KQ := fun W => ahead_any (M.getD k noTimer) t W
      generalize M.getD k noTimer = x at c0 c1 c2 HXc HN HE KQ
      have hltI : (k : Int) < (M.length : Int) := by omega
      clear c0 c1 c2
      cases hq : ltT x t with
      | true =>
        have HNx : Hid (∀ j, j < k + 1 → ltT (M.getD j noTimer) t = true) := HN.out hq
        rw [hq] at KQ
        clear hq HN HE
        go_upto_region 5 with fail
        refine wp_region_mp ([eqP (.int .i64 (k : Nat)), eqP (.pointer (some ⟨B, 0, none⟩)), eqP (.pointer (some ⟨B, 0, none⟩)), eqP (.pointer (some ⟨B, 1, none⟩)), eqP (.slice (some ⟨mb, mo, none⟩) M.length mc), eqP (.int .i64 (M.length : Nat)), eqP (.bool true), eqP (.bool true), eqP (.pointer (some ⟨B, 0, none⟩)), eqP (.pointer (some ⟨B, 0, none⟩)), eqP (.pointer (some ⟨B, 1, none⟩)), eqP (.slice (some ⟨mb, mo, none⟩) M.length mc), eqP (.int .i64 (k : Nat)), eqP (.pointer (some ⟨mb, mo + k * 3, none⟩)), eqP (tval x), eqP (tval t), eqP (.bool true), eqP (.bool true)]) (by kernel_rfl) (by kernel_rfl) ?_ ?_
        · go_light
          simp only [stepsAll3]
          refine ⟨fun a W hF hE hd => ?_, fun a W hF hE hd => ?_, fun a W hF hE hd => ?_, fun a W hF hE hd => ?_, fun a W hF hE hd => ?_, fun a W hF hE hd => ?_, fun a W hF hE hd => ?_, fun a W hF hE hd => ?_, fun a W hF hE hd => ?_, fun a W hF hE hd => ?_, fun a W hF hE hd => ?_, fun a W hF hE hd => ?_, fun a W hF hE hd => ?_, fun a W hF hE hd => ?_, fun a W hF hE hd => ?_, fun a W hF hE hd => ?_, fun a W hF hE hd => ?_, fun a W hF hE hd => ?_, trivial⟩
          all_goals unfold StepAt
          · have t5 : a.tmps.getD 5 undef = .int .i64 (k : Nat) := hF.at 5 (by kernel_rfl)
            rw [Array.getD_eq_getD_getElem?] at t5
            refine .inl ⟨rfl, ?_⟩
            go_simp
            exact ⟨Below.refl _ _, rfl⟩
          · have t0 : a.tmps.getD 0 undef = .pointer (some ⟨B, 0, none⟩) := hF.at 0 (by kernel_rfl)
            rw [Array.getD_eq_getD_getElem?] at t0
            refine .inl ⟨rfl, ?_⟩
            go_simp
            exact ⟨Below.refl _ _, rfl⟩
          · have t25 : a.tmps.getD 25 undef = .pointer (some ⟨B, 0, none⟩) := hd { on := 1, ground := .data } (by simp) rfl
            rw [Array.getD_eq_getD_getElem?] at t25
            refine .inl ⟨rfl, ?_⟩
            go_simp
            exact ⟨Below.refl _ _, rfl⟩
          · have t26 : a.tmps.getD 26 undef = .pointer (some ⟨B, 0, none⟩) := hd { on := 2, ground := .data } (by simp) rfl
            rw [Array.getD_eq_getD_getElem?] at t26
            refine .inl ⟨rfl, ?_⟩
            go_simp
            exact ⟨Below.refl _ _, rfl⟩
          · have t27 : a.tmps.getD 27 undef = .pointer (some ⟨B, 1, none⟩) := hd { on := 3, ground := .data } (by simp) rfl
            rw [Array.getD_eq_getD_getElem?] at t27
            refine .inl ⟨rfl, ?_⟩
            have cB : W.cell? ⟨B, 1, none⟩ = some (.slice (some ⟨mb, mo, none⟩) M.length mc) := (HCl W hE).box.cell 1
            go_simp
            exact ⟨Below.refl _ _, rfl⟩
          · have t28 : a.tmps.getD 28 undef = .slice (some ⟨mb, mo, none⟩) M.length mc := hd { on := 4, ground := .data } (by simp) rfl
            rw [Array.getD_eq_getD_getElem?] at t28
            refine .inl ⟨rfl, ?_⟩
            go_simp
            exact ⟨Below.refl _ _, rfl⟩
          · have t24 : a.tmps.getD 24 undef = .int .i64 (k : Nat) := hd { on := 0, ground := .data } (by simp) rfl
            rw [Array.getD_eq_getD_getElem?] at t24
            have t29 : a.tmps.getD 29 undef = .int .i64 (M.length : Nat) := hd { on := 5, ground := .data } (by simp) rfl
            rw [Array.getD_eq_getD_getElem?] at t29
            refine .inl ⟨rfl, ?_⟩
            go_simp
            exact ⟨Below.refl _ _, rfl⟩
          · have t30 : a.tmps.getD 30 undef = .bool true := hd { on := 6, ground := .data } (by simp) rfl
            rw [Array.getD_eq_getD_getElem?] at t30
            refine .inl ⟨rfl, ?_⟩
            go_simp
            exact ⟨Below.refl _ _, rfl⟩
          · have t0 : a.tmps.getD 0 undef = .pointer (some ⟨B, 0, none⟩) := hF.at 0 (by kernel_rfl)
            rw [Array.getD_eq_getD_getElem?] at t0
            have g31 : a.eval (.tmp 31) = .bool true := hd { on := 7, ground := .guard } (by simp) rfl
            refine .inl ⟨(by simp only [Region.wanted]; rw [yielded_of (d := 31) (by rfl) g31]; rfl), ?_⟩
            clear g31
            go_simp
            exact ⟨Below.refl _ _, rfl⟩
          · have t32 : a.tmps.getD 32 undef = .pointer (some ⟨B, 0, none⟩) := hd { on := 8, ground := .data } (by simp) rfl
            rw [Array.getD_eq_getD_getElem?] at t32
            have g31 : a.eval (.tmp 31) = .bool true := hd { on := 7, ground := .guard } (by simp) rfl
            refine .inl ⟨(by simp only [Region.wanted]; rw [yielded_of (d := 31) (by rfl) g31]; rfl), ?_⟩
            clear g31
            go_simp
            exact ⟨Below.refl _ _, rfl⟩
          · have t33 : a.tmps.getD 33 undef = .pointer (some ⟨B, 0, none⟩) := hd { on := 9, ground := .data } (by simp) rfl
            rw [Array.getD_eq_getD_getElem?] at t33
            have g31 : a.eval (.tmp 31) = .bool true := hd { on := 7, ground := .guard } (by simp) rfl
            refine .inl ⟨(by simp only [Region.wanted]; rw [yielded_of (d := 31) (by rfl) g31]; rfl), ?_⟩
            clear g31
            go_simp
            exact ⟨Below.refl _ _, rfl⟩
          · have t34 : a.tmps.getD 34 undef = .pointer (some ⟨B, 1, none⟩) := hd { on := 10, ground := .data } (by simp) rfl
            rw [Array.getD_eq_getD_getElem?] at t34
            have g31 : a.eval (.tmp 31) = .bool true := hd { on := 7, ground := .guard } (by simp) rfl
            refine .inl ⟨(by simp only [Region.wanted]; rw [yielded_of (d := 31) (by rfl) g31]; rfl), ?_⟩
            clear g31
            have cB : W.cell? ⟨B, 1, none⟩ = some (.slice (some ⟨mb, mo, none⟩) M.length mc) := (HCl W hE).box.cell 1
            go_simp
            exact ⟨Below.refl _ _, rfl⟩
          · have t5 : a.tmps.getD 5 undef = .int .i64 (k : Nat) := hF.at 5 (by kernel_rfl)
            rw [Array.getD_eq_getD_getElem?] at t5
            have g31 : a.eval (.tmp 31) = .bool true := hd { on := 7, ground := .guard } (by simp) rfl
            refine .inl ⟨(by simp only [Region.wanted]; rw [yielded_of (d := 31) (by rfl) g31]; rfl), ?_⟩
            clear g31
            go_simp
            exact ⟨Below.refl _ _, rfl⟩
          · have t35 : a.tmps.getD 35 undef = .slice (some ⟨mb, mo, none⟩) M.length mc := hd { on := 11, ground := .data } (by simp) rfl
            rw [Array.getD_eq_getD_getElem?] at t35
            have t36 : a.tmps.getD 36 undef = .int .i64 (k : Nat) := hd { on := 12, ground := .data } (by simp) rfl
            rw [Array.getD_eq_getD_getElem?] at t36
            have g31 : a.eval (.tmp 31) = .bool true := hd { on := 7, ground := .guard } (by simp) rfl
            refine .inl ⟨(by simp only [Region.wanted]; rw [yielded_of (d := 31) (by rfl) g31]; rfl), ?_⟩
            clear g31
            go_simp
            exact ⟨Below.refl _ _, rfl⟩
          · have t37 : a.tmps.getD 37 undef = .pointer (some ⟨mb, mo + k * 3, none⟩) := hd { on := 13, ground := .data } (by simp) rfl
            rw [Array.getD_eq_getD_getElem?] at t37
            have g31 : a.eval (.tmp 31) = .bool true := hd { on := 7, ground := .guard } (by simp) rfl
            refine .inl ⟨(by simp only [Region.wanted]; rw [yielded_of (d := 31) (by rfl) g31]; rfl), ?_⟩
            clear g31
            obtain ⟨x0, x1, x2⟩ := HXc W hE
            go_simp
            exact ⟨Below.refl _ _, rfl⟩
          · have t3 : a.tmps.getD 3 undef = .pointer (some ⟨w.heap.size, 0, none⟩) := hF.at 3 (by kernel_rfl)
            rw [Array.getD_eq_getD_getElem?] at t3
            have g31 : a.eval (.tmp 31) = .bool true := hd { on := 7, ground := .guard } (by simp) rfl
            refine .inl ⟨(by simp only [Region.wanted]; rw [yielded_of (d := 31) (by rfl) g31]; rfl), ?_⟩
            clear g31
            rw [run_oboxT _ _ 29 (.tmp 3) rfl (w.heap.size) (by simpa [Act.eval] using t3) 29 (tcells t) _ (HBx W hE) Try.underlying29 rfl sizeTimer]
            exact ⟨Below.refl _ _, rfl⟩
          · have t38 : a.tmps.getD 38 undef = tval x := hd { on := 14, ground := .data } (by simp) rfl
            rw [Array.getD_eq_getD_getElem?] at t38
            have t39 : a.tmps.getD 39 undef = tval t := hd { on := 15, ground := .data } (by simp) rfl
            rw [Array.getD_eq_getD_getElem?] at t39
            have g31 : a.eval (.tmp 31) = .bool true := hd { on := 7, ground := .guard } (by simp) rfl
            refine .inl ⟨(by simp only [Region.wanted]; rw [yielded_of (d := 31) (by rfl) g31]; rfl), ?_⟩
            clear g31
            go_simp
            exact (KQ W).mono fun e w2 h => ⟨_, h.1, h.2, rfl⟩
          · have t31 : a.tmps.getD 31 undef = .bool true := hd { on := 7, ground := .data } (by simp) rfl
            rw [Array.getD_eq_getD_getElem?] at t31
            have t40 : a.tmps.getD 40 undef = .bool true := hd { on := 16, ground := .data } (by simp) rfl
            rw [Array.getD_eq_getD_getElem?] at t40
            refine .inl ⟨rfl, ?_⟩
            go_simp
            exact ⟨Below.refl _ _, rfl⟩
        · intro vs W hE hV
          have h17 : vs 17 = .bool true := hV 17 (by decide)
          have HBf : Hid (Below w2.heap.size w2 W) := HBr.out.trans (hE.mono HBr.out.size)
          clear hV hE
          simp only [putsV, dstsV, List.foldl, h17, Act.put, List.setIfInBounds_toArray, List.set_cons_succ, List.set_cons_zero]
          clear h17
          generalize vs 0 = y0
          generalize vs 1 = y1
          generalize vs 2 = y2
          generalize vs 3 = y3
          generalize vs 4 = y4
          generalize vs 5 = y5
          generalize vs 6 = y6
          generalize vs 7 = y7
          generalize vs 8 = y8
          generalize vs 9 = y9
          generalize vs 10 = y10
          generalize vs 11 = y11
          generalize vs 12 = y12
          generalize vs 13 = y13
          generalize vs 14 = y14
          generalize vs 15 = y15
          generalize vs 16 = y16
          refine ‹∀ (a : Act) (w : World), Code.wp Try.prog (Code.cond _ _ _) _ a w → _› _ _ ?_
          go_wp2
          go_roundw
          case rel => exact ⟨k + 1, by omega, by go_num, HNx.out, HBf.out⟩
          case measure => simp [intOf]; omega
      | false =>
        have HEx : Hid (aheadT M t = k) := HE.out hq
        rw [hq] at KQ
        clear hq HN HE
        go_upto_region 5 with fail
        refine wp_region_mp ([eqP (.int .i64 (k : Nat)), eqP (.pointer (some ⟨B, 0, none⟩)), eqP (.pointer (some ⟨B, 0, none⟩)), eqP (.pointer (some ⟨B, 1, none⟩)), eqP (.slice (some ⟨mb, mo, none⟩) M.length mc), eqP (.int .i64 (M.length : Nat)), eqP (.bool true), eqP (.bool true), eqP (.pointer (some ⟨B, 0, none⟩)), eqP (.pointer (some ⟨B, 0, none⟩)), eqP (.pointer (some ⟨B, 1, none⟩)), eqP (.slice (some ⟨mb, mo, none⟩) M.length mc), eqP (.int .i64 (k : Nat)), eqP (.pointer (some ⟨mb, mo + k * 3, none⟩)), eqP (tval x), eqP (tval t), eqP (.bool false), eqP (.bool false)]) (by kernel_rfl) (by kernel_rfl) ?_ ?_
        · go_light
          simp only [stepsAll3]
          refine ⟨fun a W hF hE hd => ?_, fun a W hF hE hd => ?_, fun a W hF hE hd => ?_, fun a W hF hE hd => ?_, fun a W hF hE hd => ?_, fun a W hF hE hd => ?_, fun a W hF hE hd => ?_, fun a W hF hE hd => ?_, fun a W hF hE hd => ?_, fun a W hF hE hd => ?_, fun a W hF hE hd => ?_, fun a W hF hE hd => ?_, fun a W hF hE hd => ?_, fun a W hF hE hd => ?_, fun a W hF hE hd => ?_, fun a W hF hE hd => ?_, fun a W hF hE hd => ?_, fun a W hF hE hd => ?_, trivial⟩
          all_goals unfold StepAt
          · have t5 : a.tmps.getD 5 undef = .int .i64 (k : Nat) := hF.at 5 (by kernel_rfl)
            rw [Array.getD_eq_getD_getElem?] at t5
            refine .inl ⟨rfl, ?_⟩
            go_simp
            exact ⟨Below.refl _ _, rfl⟩
          · have t0 : a.tmps.getD 0 undef = .pointer (some ⟨B, 0, none⟩) := hF.at 0 (by kernel_rfl)
            rw [Array.getD_eq_getD_getElem?] at t0
            refine .inl ⟨rfl, ?_⟩
            go_simp
            exact ⟨Below.refl _ _, rfl⟩
          · have t25 : a.tmps.getD 25 undef = .pointer (some ⟨B, 0, none⟩) := hd { on := 1, ground := .data } (by simp) rfl
            rw [Array.getD_eq_getD_getElem?] at t25
            refine .inl ⟨rfl, ?_⟩
            go_simp
            exact ⟨Below.refl _ _, rfl⟩
          · have t26 : a.tmps.getD 26 undef = .pointer (some ⟨B, 0, none⟩) := hd { on := 2, ground := .data } (by simp) rfl
            rw [Array.getD_eq_getD_getElem?] at t26
            refine .inl ⟨rfl, ?_⟩
            go_simp
            exact ⟨Below.refl _ _, rfl⟩
          · have t27 : a.tmps.getD 27 undef = .pointer (some ⟨B, 1, none⟩) := hd { on := 3, ground := .data } (by simp) rfl
            rw [Array.getD_eq_getD_getElem?] at t27
            refine .inl ⟨rfl, ?_⟩
            have cB : W.cell? ⟨B, 1, none⟩ = some (.slice (some ⟨mb, mo, none⟩) M.length mc) := (HCl W hE).box.cell 1
            go_simp
            exact ⟨Below.refl _ _, rfl⟩
          · have t28 : a.tmps.getD 28 undef = .slice (some ⟨mb, mo, none⟩) M.length mc := hd { on := 4, ground := .data } (by simp) rfl
            rw [Array.getD_eq_getD_getElem?] at t28
            refine .inl ⟨rfl, ?_⟩
            go_simp
            exact ⟨Below.refl _ _, rfl⟩
          · have t24 : a.tmps.getD 24 undef = .int .i64 (k : Nat) := hd { on := 0, ground := .data } (by simp) rfl
            rw [Array.getD_eq_getD_getElem?] at t24
            have t29 : a.tmps.getD 29 undef = .int .i64 (M.length : Nat) := hd { on := 5, ground := .data } (by simp) rfl
            rw [Array.getD_eq_getD_getElem?] at t29
            refine .inl ⟨rfl, ?_⟩
            go_simp
            exact ⟨Below.refl _ _, rfl⟩
          · have t30 : a.tmps.getD 30 undef = .bool true := hd { on := 6, ground := .data } (by simp) rfl
            rw [Array.getD_eq_getD_getElem?] at t30
            refine .inl ⟨rfl, ?_⟩
            go_simp
            exact ⟨Below.refl _ _, rfl⟩
          · have t0 : a.tmps.getD 0 undef = .pointer (some ⟨B, 0, none⟩) := hF.at 0 (by kernel_rfl)
            rw [Array.getD_eq_getD_getElem?] at t0
            have g31 : a.eval (.tmp 31) = .bool true := hd { on := 7, ground := .guard } (by simp) rfl
            refine .inl ⟨(by simp only [Region.wanted]; rw [yielded_of (d := 31) (by rfl) g31]; rfl), ?_⟩
            clear g31
            go_simp
            exact ⟨Below.refl _ _, rfl⟩
          · have t32 : a.tmps.getD 32 undef = .pointer (some ⟨B, 0, none⟩) := hd { on := 8, ground := .data } (by simp) rfl
            rw [Array.getD_eq_getD_getElem?] at t32
            have g31 : a.eval (.tmp 31) = .bool true := hd { on := 7, ground := .guard } (by simp) rfl
            refine .inl ⟨(by simp only [Region.wanted]; rw [yielded_of (d := 31) (by rfl) g31]; rfl), ?_⟩
            clear g31
            go_simp
            exact ⟨Below.refl _ _, rfl⟩
          · have t33 : a.tmps.getD 33 undef = .pointer (some ⟨B, 0, none⟩) := hd { on := 9, ground := .data } (by simp) rfl
            rw [Array.getD_eq_getD_getElem?] at t33
            have g31 : a.eval (.tmp 31) = .bool true := hd { on := 7, ground := .guard } (by simp) rfl
            refine .inl ⟨(by simp only [Region.wanted]; rw [yielded_of (d := 31) (by rfl) g31]; rfl), ?_⟩
            clear g31
            go_simp
            exact ⟨Below.refl _ _, rfl⟩
          · have t34 : a.tmps.getD 34 undef = .pointer (some ⟨B, 1, none⟩) := hd { on := 10, ground := .data } (by simp) rfl
            rw [Array.getD_eq_getD_getElem?] at t34
            have g31 : a.eval (.tmp 31) = .bool true := hd { on := 7, ground := .guard } (by simp) rfl
            refine .inl ⟨(by simp only [Region.wanted]; rw [yielded_of (d := 31) (by rfl) g31]; rfl), ?_⟩
            clear g31
            have cB : W.cell? ⟨B, 1, none⟩ = some (.slice (some ⟨mb, mo, none⟩) M.length mc) := (HCl W hE).box.cell 1
            go_simp
            exact ⟨Below.refl _ _, rfl⟩
          · have t5 : a.tmps.getD 5 undef = .int .i64 (k : Nat) := hF.at 5 (by kernel_rfl)
            rw [Array.getD_eq_getD_getElem?] at t5
            have g31 : a.eval (.tmp 31) = .bool true := hd { on := 7, ground := .guard } (by simp) rfl
            refine .inl ⟨(by simp only [Region.wanted]; rw [yielded_of (d := 31) (by rfl) g31]; rfl), ?_⟩
            clear g31
            go_simp
            exact ⟨Below.refl _ _, rfl⟩
          · have t35 : a.tmps.getD 35 undef = .slice (some ⟨mb, mo, none⟩) M.length mc := hd { on := 11, ground := .data } (by simp) rfl
            rw [Array.getD_eq_getD_getElem?] at t35
            have t36 : a.tmps.getD 36 undef = .int .i64 (k : Nat) := hd { on := 12, ground := .data } (by simp) rfl
            rw [Array.getD_eq_getD_getElem?] at t36
            have g31 : a.eval (.tmp 31) = .bool true := hd { on := 7, ground := .guard } (by simp) rfl
            refine .inl ⟨(by simp only [Region.wanted]; rw [yielded_of (d := 31) (by rfl) g31]; rfl), ?_⟩
            clear g31
            go_simp
            exact ⟨Below.refl _ _, rfl⟩
          · have t37 : a.tmps.getD 37 undef = .pointer (some ⟨mb, mo + k * 3, none⟩) := hd { on := 13, ground := .data } (by simp) rfl
            rw [Array.getD_eq_getD_getElem?] at t37
            have g31 : a.eval (.tmp 31) = .bool true := hd { on := 7, ground := .guard } (by simp) rfl
            refine .inl ⟨(by simp only [Region.wanted]; rw [yielded_of (d := 31) (by rfl) g31]; rfl), ?_⟩
            clear g31
            obtain ⟨x0, x1, x2⟩ := HXc W hE
            go_simp
            exact ⟨Below.refl _ _, rfl⟩
          · have t3 : a.tmps.getD 3 undef = .pointer (some ⟨w.heap.size, 0, none⟩) := hF.at 3 (by kernel_rfl)
            rw [Array.getD_eq_getD_getElem?] at t3
            have g31 : a.eval (.tmp 31) = .bool true := hd { on := 7, ground := .guard } (by simp) rfl
            refine .inl ⟨(by simp only [Region.wanted]; rw [yielded_of (d := 31) (by rfl) g31]; rfl), ?_⟩
            clear g31
            rw [run_oboxT _ _ 29 (.tmp 3) rfl (w.heap.size) (by simpa [Act.eval] using t3) 29 (tcells t) _ (HBx W hE) Try.underlying29 rfl sizeTimer]
            exact ⟨Below.refl _ _, rfl⟩
          · have t38 : a.tmps.getD 38 undef = tval x := hd { on := 14, ground := .data } (by simp) rfl
            rw [Array.getD_eq_getD_getElem?] at t38
            have t39 : a.tmps.getD 39 undef = tval t := hd { on := 15, ground := .data } (by simp) rfl
            rw [Array.getD_eq_getD_getElem?] at t39
            have g31 : a.eval (.tmp 31) = .bool true := hd { on := 7, ground := .guard } (by simp) rfl
            refine .inl ⟨(by simp only [Region.wanted]; rw [yielded_of (d := 31) (by rfl) g31]; rfl), ?_⟩
            clear g31
            go_simp
            exact (KQ W).mono fun e w2 h => ⟨_, h.1, h.2, rfl⟩
          · have t31 : a.tmps.getD 31 undef = .bool true := hd { on := 7, ground := .data } (by simp) rfl
            rw [Array.getD_eq_getD_getElem?] at t31
            have t40 : a.tmps.getD 40 undef = .bool false := hd { on := 16, ground := .data } (by simp) rfl
            rw [Array.getD_eq_getD_getElem?] at t40
            refine .inl ⟨rfl, ?_⟩
            go_simp
            exact ⟨Below.refl _ _, rfl⟩
        · intro vs W hE hV
          have h17 : vs 17 = .bool false := hV 17 (by decide)
          have HBf : Hid (Below w2.heap.size w2 W) := HBr.out.trans (hE.mono HBr.out.size)
          clear hV hE
          simp only [putsV, dstsV, List.foldl, h17, Act.put, List.setIfInBounds_toArray, List.set_cons_succ, List.set_cons_zero]
          clear h17
          generalize vs 0 = y0
          generalize vs 1 = y1
          generalize vs 2 = y2
          generalize vs 3 = y3
          generalize vs 4 = y4
          generalize vs 5 = y5
          generalize vs 6 = y6
          generalize vs 7 = y7
          generalize vs 8 = y8
          generalize vs 9 = y9
          generalize vs 10 = y10
          generalize vs 11 = y11
          generalize vs 12 = y12
          generalize vs 13 = y13
          generalize vs 14 = y14
          generalize vs 15 = y15
          generalize vs 16 = y16
          refine ‹∀ (a : Act) (w : World), Code.wp Try.prog (Code.cond _ _ _) _ a w → _› _ _ ?_
          have hkA : aheadT M t = k := HEx.out
          have HKA : Hid (aheadT M t = k) := hkA
          clear hkA
          have HWr : Hid (Below w2.heap.size w2 W) := HBf.out
          have HM7 : Hid (∀ W', Below W.heap.size W W' → IsTimers W' (.slice (some ⟨mb, mo, none⟩) M.length mc) M) := fun W' q => (HClw.out W' (HWr.out.trans (q.mono HWr.out.size))).timers
          have HS7 : Hid (∀ W', Below W.heap.size W W' → W'.cell? ⟨B, 1, none⟩ = some (.slice (some ⟨mb, mo, none⟩) M.length mc) ∧ W'.cell? ⟨w.heap.size, 0, none⟩ = some (.int .i64 t.at_) ∧ W'.cell? ⟨w.heap.size, 1, none⟩ = some (.int .i64 t.kind) ∧ W'.cell? ⟨w.heap.size, 2, none⟩ = some (.int .i64 t.id)) := fun W' q => ⟨(HClw.out W' (HWr.out.trans (q.mono HWr.out.size))).box.cell 1, (HBw.out W' (HWr.out.trans (q.mono HWr.out.size))).cell 0, (HBw.out W' (HWr.out.trans (q.mono HWr.out.size))).cell 1, (HBw.out W' (HWr.out.trans (q.mono HWr.out.size))).cell 2⟩
          have HFr : Hid (∀ W', Below W.heap.size W W' → W'.frozen? ⟨B, 1, none⟩ = false) := fun W' q => (HClw.out W' (HWr.out.trans (q.mono HWr.out.size))).box.frozen 1
          have HU7 : Hid (∀ W', Below W.heap.size W W' → IsRow 3 W' (.slice (some ⟨mb, mo, none⟩) k mc) k (timerCells (M.take k))) := fun W' q => by
            have h := ((HM7.out W' q).upto k (by omega)).row
            rwa [show (M.take k).length = k by rw [List.length_take]; omega] at h
          have HD7 : Hid (∀ W', Below W.heap.size W W' → IsRow 3 W' (.slice (some ⟨mb, mo + k * 3, none⟩) (M.length - k) (mc - k)) (M.length - k) (timerCells (M.drop k))) := fun W' q => by
            have h := ((HM7.out W' q).from k (by omega)).row
            rw [show (M.drop k).length = M.length - k by simp, if_neg (by omega), Option.map_some] at h
            have e : (⟨mb, mo, none⟩ : Addr).add (k * 3) = ⟨mb, mo + k * 3, none⟩ := by unfold Addr.add; split <;> simp_all
            rwa [e] at h
          clear HCl HBx hltI
          have hmk : ¬ mc = k := by omega
          go_wp2
          refine wp_region_split 18 (fun W' => W'.cell? ⟨B, 1, none⟩ = some (.slice (some ⟨mb, mo, none⟩) M.length mc) ∧ W'.cell? ⟨w.heap.size, 0, none⟩ = some (.int .i64 t.at_) ∧ W'.cell? ⟨w.heap.size, 1, none⟩ = some (.int .i64 t.kind) ∧ W'.cell? ⟨w.heap.size, 2, none⟩ = some (.int .i64 t.id)) (by kernel_rfl) (by kernel_rfl) (HS7.out _ (Below.refl _ _).drew) (fun hS0 => ?_)
          simp only [List.take_succ_cons, List.take_zero, List.drop_succ_cons, List.drop_zero]
          refine takeH (i := 0) (v := .pointer (some ⟨B, 0, none⟩)) rfl (by kernel_rfl) (by kernel_rfl) (by kernel_rfl) (fun _ _ _ h => h) (Or.inl ⟨by rfl, ?_⟩) hS0 ?_
          · intro wS hSw
            go_simp
          go_frame
          refine takeH (i := 1) (v := .pointer (some ⟨B, 0, none⟩)) rfl (by kernel_rfl) (by kernel_rfl) (by kernel_rfl) (fun _ _ _ h => h) (Or.inl ⟨by rfl, ?_⟩) hS0 ?_
          · intro wS hSw
            go_simp
          go_frame
          refine takeH (i := 2) (v := .pointer (some ⟨B, 0, none⟩)) rfl (by kernel_rfl) (by kernel_rfl) (by kernel_rfl) (fun _ _ _ h => h) (Or.inl ⟨by rfl, ?_⟩) hS0 ?_
          · intro wS hSw
            go_simp
          go_frame
          refine takeH (i := 3) (v := .pointer (some ⟨B, 1, none⟩)) rfl (by kernel_rfl) (by kernel_rfl) (by kernel_rfl) (fun _ _ _ h => h) (Or.inl ⟨by rfl, ?_⟩) hS0 ?_
          · intro wS hSw
            go_simp
          go_frame
          refine takeH (i := 4) (v := .slice (some ⟨mb, mo, none⟩) M.length mc) rfl (by kernel_rfl) (by kernel_rfl) (by kernel_rfl) (fun _ _ _ h => h) (Or.inl ⟨by rfl, ?_⟩) hS0 ?_
          · intro wS hSw
            go_simp
          go_frame
          refine takeH (i := 5) (v := .int .i64 (k : Nat)) rfl (by kernel_rfl) (by kernel_rfl) (by kernel_rfl) (fun _ _ _ h => h) (Or.inl ⟨by rfl, ?_⟩) hS0 ?_
          · intro wS hSw
            go_simp
          go_frame
          refine takeH (i := 6) (v := .slice (some ⟨mb, mo, none⟩) k mc) rfl (by kernel_rfl) (by kernel_rfl) (by kernel_rfl) (fun _ _ _ h => h) (Or.inl ⟨by rfl, ?_⟩) hS0 ?_
          · intro wS hSw
            go_simp
          go_frame
          refine takeH (i := 8) (v := tval t) rfl (by kernel_rfl) (by kernel_rfl) (by kernel_rfl) (fun _ _ _ h => h) (Or.inl ⟨by rfl, ?_⟩) hS0 ?_
          · intro wS hSw
            go_simp
          go_frame
          refine takeH (i := 11) (v := .pointer (some ⟨B, 0, none⟩)) rfl (by kernel_rfl) (by kernel_rfl) (by kernel_rfl) (fun _ _ _ h => h) (Or.inl ⟨by rfl, ?_⟩) hS0 ?_
          · intro wS hSw
            go_simp
          go_frame
          refine takeH (i := 12) (v := .pointer (some ⟨B, 0, none⟩)) rfl (by kernel_rfl) (by kernel_rfl) (by kernel_rfl) (fun _ _ _ h => h) (Or.inl ⟨by rfl, ?_⟩) hS0 ?_
          · intro wS hSw
            go_simp
          go_frame
          refine takeH (i := 13) (v := .pointer (some ⟨B, 1, none⟩)) rfl (by kernel_rfl) (by kernel_rfl) (by kernel_rfl) (fun _ _ _ h => h) (Or.inl ⟨by rfl, ?_⟩) hS0 ?_
          · intro wS hSw
            go_simp
          go_frame
          refine takeH (i := 14) (v := .slice (some ⟨mb, mo, none⟩) M.length mc) rfl (by kernel_rfl) (by kernel_rfl) (by kernel_rfl) (fun _ _ _ h => h) (Or.inl ⟨by rfl, ?_⟩) hS0 ?_
          · intro wS hSw
            go_simp
          go_frame
          refine takeH (i := 15) (v := .int .i64 (k : Nat)) rfl (by kernel_rfl) (by kernel_rfl) (by kernel_rfl) (fun _ _ _ h => h) (Or.inl ⟨by rfl, ?_⟩) hS0 ?_
          · intro wS hSw
            go_simp
          go_frame
          refine takeH (i := 16) (v := .slice (some ⟨mb, mo + k * 3, none⟩) (M.length - k) (mc - k)) rfl (by kernel_rfl) (by kernel_rfl) (by kernel_rfl) (fun _ _ _ h => h) (Or.inl ⟨by rfl, ?_⟩) hS0 ?_
          · intro wS hSw
            go_simp
          go_frame
          refine wpAnyH_ready (rs := [7, 9]) (by kernel_rfl) (by simp) ?_
          refine readyH_cons rfl (fun K hK => ?_) (readyH_cons rfl (fun K hK => ?_) AllReadyH.nil)
          · refine step_append_row (by rfl) (.const nilW) (.tmp 50) 40 (by rfl) W.heap.size 29 i0 _ 3 24 Try.underlying40 hi hz0 hz1 hz2 (by rfl) (by decide) (nilW) 0 [] (by rfl) (World.ownsRow_nil _ _ _ _) (.slice (some ⟨mb, mo, none⟩) k mc) k (timerCells (M.take k)) (by rfl) (HU7.out _ (Below.refl _ _).drew) (timerCells_one _) (by unfold maxLen; omega) (by omega) (by simp) ?_
            intro v3 w3 hown hgrow hat
            rw [Nat.zero_add, List.nil_append] at hown
            obtain ⟨o3, c3, rfl⟩ := (isRow_own hown).shaped
            have HB3 : Hid (Below W.heap.size W w3) := (Below.refl _ _).drew.grown hgrow (by simp) (fun q hq => by simp [Value.ownBlock] at hq)
            have HO3 : Hid (w3.ownsRow W.heap.size 29 3 (.slice o3 k c3) k (timerCells (M.take k))) := hown
            clear hown hgrow hat
            refine hK.out _ _ (HS7.out _ HB3.out) (fun hS3 => ?_)
            clear hK K
            go_frame
            refine wpAnyH_ready (rs := [9]) (by kernel_rfl) (by simp) ?_
            refine readyH_cons rfl (fun K hK => ?_) AllReadyH.nil
            go_simp
            have HB4 : Hid (Below W.heap.size W (w3.alloc (.cells (tcells t) 29))) := HB3.out.alloc HB3.out.size _
            have HO4 : Hid ((w3.alloc (.cells (tcells t) 29)).ownsRow W.heap.size 29 3 (.slice o3 k c3) k (timerCells (M.take k))) := HO3.out.alloc _
            have HR4 : Hid (IsRow 3 (w3.alloc (.cells (tcells t) 29)) (.slice (some ⟨w3.heap.size, 0, none⟩) 1 1) 1 (timerCells [t])) := timer_row _ t _ _ rfl
            refine hK.out _ _ (HS7.out _ HB4.out) (fun hS4 => ?_)
            clear hK K
            generalize w3.heap.size = g4 at *
            generalize w3.alloc (.cells (tcells t) 29) = w4 at *
            refine wpAnyH_ready (rs := [10]) (by kernel_rfl) (by simp) ?_
            refine readyH_cons rfl (fun K hK => ?_) AllReadyH.nil
            refine step_append_row (by rfl) (.tmp 51) (.tmp 53) 40 (by rfl) W.heap.size 29 i0 _ 3 24 Try.underlying40 hi hz0 hz1 hz2 (by rfl) (by decide) (.slice o3 k c3) k _ (by rfl) (HO4.out) (.slice (some ⟨g4, 0, none⟩) 1 1) 1 (timerCells [t]) (by rfl) (HR4.out) (timerCells_one _) (by unfold maxLen; omega) (by omega) (HB4.out.size) ?_
            intro v5 w5 hown hgrow hat
            obtain ⟨o5, c5, rfl⟩ := (isRow_own hown).shaped
            have HO5 : Hid (w5.ownsRow W.heap.size 29 3 (.slice o5 (k + 1) c5) (k + 1) (timerCells (M.take k) ++ timerCells [t])) := hown
            have HB5 : Hid (Below W.heap.size W w5) := HB4.out.grown hgrow HB4.out.size (own_base HO4.out)
            clear hown hgrow hat
            refine hK.out _ _ (HS7.out _ HB5.out) (fun hS5 => ?_)
            clear hK K
            go_frame
            refine wpAnyH_ready (rs := [17]) (by kernel_rfl) (by simp) ?_
            refine readyH_cons rfl (fun K hK => ?_) AllReadyH.nil
            refine step_append_row (by rfl) (.tmp 54) (.tmp 60) 40 (by rfl) W.heap.size 29 i0 _ 3 24 Try.underlying40 hi hz0 hz1 hz2 (by rfl) (by decide) (.slice o5 (k + 1) c5) (k + 1) _ (by rfl) (HO5.out) (.slice (some ⟨mb, mo + k * 3, none⟩) (M.length - k) (mc - k)) (M.length - k) (timerCells (M.drop k)) (by rfl) (HD7.out _ HB5.out) (timerCells_one _) (by unfold maxLen; omega) (by omega) (HB5.out.size) ?_
            intro v6 w6 hown hgrow hat
            obtain ⟨o6, c6, rfl⟩ := (isRow_own hown).shaped
            have HO6 : Hid (w6.ownsRow W.heap.size 29 3 (.slice o6 (k + 1 + (M.length - k)) c6) (k + 1 + (M.length - k)) (timerCells (M.take k) ++ timerCells [t] ++ timerCells (M.drop k))) := hown
            have HB6 : Hid (Below W.heap.size W w6) := HB5.out.grown hgrow HB5.out.size (own_base HO5.out)
            clear hown hgrow hat
            refine hK.out _ _ (HS7.out _ HB6.out) (fun hS6 => ?_)
            clear hK K
            go_frame
            refine wpAnyH_done (by kernel_rfl) ?_ _
            have f6 : w6.frozen? ⟨B, 1, none⟩ = false := HFr.out _ HB6.out
            have c6B : w6.cell? ⟨B, 1, none⟩ = some (.slice (some ⟨mb, mo, none⟩) M.length mc) := hS6.1
            clear hS0 hS3 hS4 hS5 hS6
            unfold afterHead
            go_wp2
            all_goals (go_ret; exact ⟨by rw [HF.out.1]; rfl, _, rSet_end HB1.out HT2.out HWr.out HB6.out HKA.out HF.out.2 hk HIt.out HO6.out⟩)
          · go_simp
            have HB3 : Hid (Below W.heap.size W (W.alloc (.cells #[.int .i64 t.at_, .int .i64 t.kind, .int .i64 t.id] 29)).drew) := ((Below.refl _ _).alloc (Nat.le_refl _) _).drew
            have HR3 : Hid (IsRow 3 (W.alloc (.cells #[.int .i64 t.at_, .int .i64 t.kind, .int .i64 t.id] 29)).drew (.slice (some ⟨W.heap.size, 0, none⟩) 1 1) 1 (timerCells [t])) := (timer_row W t _ _ rfl).below (Below.refl _ _).drew
            refine hK.out _ _ (HS7.out _ HB3.out) (fun hS3 => ?_)
            clear hK K
            generalize (W.alloc (.cells #[.int .i64 t.at_, .int .i64 t.kind, .int .i64 t.id] 29)).drew = w3 at HB3 HR3 hS3 ⊢
            refine wpAnyH_ready (rs := [7]) (by kernel_rfl) (by simp) ?_
            refine readyH_cons rfl (fun K hK => ?_) AllReadyH.nil
            refine step_append_row (by rfl) (.const nilW) (.tmp 50) 40 (by rfl) W.heap.size 29 i0 _ 3 24 Try.underlying40 hi hz0 hz1 hz2 (by rfl) (by decide) (nilW) 0 [] (by rfl) (World.ownsRow_nil _ _ _ _) (.slice (some ⟨mb, mo, none⟩) k mc) k (timerCells (M.take k)) (by rfl) (HU7.out _ HB3.out) (timerCells_one _) (by unfold maxLen; omega) (by omega) (HB3.out.size) ?_
            intro v4 w4 hown hgrow hat
            rw [Nat.zero_add, List.nil_append] at hown
            obtain ⟨o3, c3, rfl⟩ := (isRow_own hown).shaped
            have HB4 : Hid (Below W.heap.size W w4) := HB3.out.grown hgrow HB3.out.size (fun q hq => by simp [Value.ownBlock] at hq)
            have HO4 : Hid (w4.ownsRow W.heap.size 29 3 (.slice o3 k c3) k (timerCells (M.take k))) := hown
            have HR4 : Hid (IsRow 3 w4 (.slice (some ⟨W.heap.size, 0, none⟩) 1 1) 1 (timerCells [t])) := HR3.out.grown hgrow (fun _ e => by cases e)
            clear hown hgrow hat
            refine hK.out _ _ (HS7.out _ HB4.out) (fun hS4 => ?_)
            clear hK K
            go_frame
            refine wpAnyH_ready (rs := [10]) (by kernel_rfl) (by simp) ?_
            refine readyH_cons rfl (fun K hK => ?_) AllReadyH.nil
            refine step_append_row (by rfl) (.tmp 51) (.tmp 53) 40 (by rfl) W.heap.size 29 i0 _ 3 24 Try.underlying40 hi hz0 hz1 hz2 (by rfl) (by decide) (.slice o3 k c3) k _ (by rfl) (HO4.out) (.slice (some ⟨W.heap.size, 0, none⟩) 1 1) 1 (timerCells [t]) (by rfl) (HR4.out) (timerCells_one _) (by unfold maxLen; omega) (by omega) (HB4.out.size) ?_
            intro v5 w5 hown hgrow hat
            obtain ⟨o5, c5, rfl⟩ := (isRow_own hown).shaped
            have HO5 : Hid (w5.ownsRow W.heap.size 29 3 (.slice o5 (k + 1) c5) (k + 1) (timerCells (M.take k) ++ timerCells [t])) := hown
            have HB5 : Hid (Below W.heap.size W w5) := HB4.out.grown hgrow HB4.out.size (own_base HO4.out)
            clear hown hgrow hat
            refine hK.out _ _ (HS7.out _ HB5.out) (fun hS5 => ?_)
            clear hK K
            go_frame
            refine wpAnyH_ready (rs := [17]) (by kernel_rfl) (by simp) ?_
            refine readyH_cons rfl (fun K hK => ?_) AllReadyH.nil
            refine step_append_row (by rfl) (.tmp 54) (.tmp 60) 40 (by rfl) W.heap.size 29 i0 _ 3 24 Try.underlying40 hi hz0 hz1 hz2 (by rfl) (by decide) (.slice o5 (k + 1) c5) (k + 1) _ (by rfl) (HO5.out) (.slice (some ⟨mb, mo + k * 3, none⟩) (M.length - k) (mc - k)) (M.length - k) (timerCells (M.drop k)) (by rfl) (HD7.out _ HB5.out) (timerCells_one _) (by unfold maxLen; omega) (by omega) (HB5.out.size) ?_
            intro v6 w6 hown hgrow hat
            obtain ⟨o6, c6, rfl⟩ := (isRow_own hown).shaped
            have HO6 : Hid (w6.ownsRow W.heap.size 29 3 (.slice o6 (k + 1 + (M.length - k)) c6) (k + 1 + (M.length - k)) (timerCells (M.take k) ++ timerCells [t] ++ timerCells (M.drop k))) := hown
            have HB6 : Hid (Below W.heap.size W w6) := HB5.out.grown hgrow HB5.out.size (own_base HO5.out)
            clear hown hgrow hat
            refine hK.out _ _ (HS7.out _ HB6.out) (fun hS6 => ?_)
            clear hK K
            go_frame
            refine wpAnyH_done (by kernel_rfl) ?_ _
            have f6 : w6.frozen? ⟨B, 1, none⟩ = false := HFr.out _ HB6.out
            have c6B : w6.cell? ⟨B, 1, none⟩ = some (.slice (some ⟨mb, mo, none⟩) M.length mc) := hS6.1
            clear hS0 hS3 hS4 hS5 hS6
            unfold afterHead
            go_wp2
            all_goals (go_ret; exact ⟨by rw [HF.out.1]; rfl, _, rSet_end HB1.out HT2.out HWr.out HB6.out HKA.out HF.out.2 hk HIt.out HO6.out⟩)
    · have HEx : Hid (aheadT M t = k) := aheadT_stop HA.out hk fun h => absurd h hlt
      have hltI : ¬ (k : Int) < (M.length : Int) := by omega
      go_upto_region 5 with fail
      refine wp_region_mp ([eqP (.int .i64 (k : Nat)), eqP (.pointer (some ⟨B, 0, none⟩)), eqP (.pointer (some ⟨B, 0, none⟩)), eqP (.pointer (some ⟨B, 1, none⟩)), eqP (.slice ma M.length mc), eqP (.int .i64 (M.length : Nat)), eqP (.bool false), eqP (.bool false), eqP (undef), eqP (undef), eqP (undef), eqP (undef), eqP (undef), eqP (undef), eqP (undef), eqP (undef), eqP (undef), eqP (.bool false)]) (by kernel_rfl) (by kernel_rfl) ?_ ?_
      · go_light
        simp only [stepsAll3]
        refine ⟨fun a W hF hE hd => ?_, fun a W hF hE hd => ?_, fun a W hF hE hd => ?_, fun a W hF hE hd => ?_, fun a W hF hE hd => ?_, fun a W hF hE hd => ?_, fun a W hF hE hd => ?_, fun a W hF hE hd => ?_, fun a W hF hE hd => ?_, fun a W hF hE hd => ?_, fun a W hF hE hd => ?_, fun a W hF hE hd => ?_, fun a W hF hE hd => ?_, fun a W hF hE hd => ?_, fun a W hF hE hd => ?_, fun a W hF hE hd => ?_, fun a W hF hE hd => ?_, fun a W hF hE hd => ?_, trivial⟩
        all_goals unfold StepAt
        · have t5 : a.tmps.getD 5 undef = .int .i64 (k : Nat) := hF.at 5 (by kernel_rfl)
          rw [Array.getD_eq_getD_getElem?] at t5
          refine .inl ⟨rfl, ?_⟩
          go_simp
          exact ⟨Below.refl _ _, rfl⟩
        · have t0 : a.tmps.getD 0 undef = .pointer (some ⟨B, 0, none⟩) := hF.at 0 (by kernel_rfl)
          rw [Array.getD_eq_getD_getElem?] at t0
          refine .inl ⟨rfl, ?_⟩
          go_simp
          exact ⟨Below.refl _ _, rfl⟩
        · have t25 : a.tmps.getD 25 undef = .pointer (some ⟨B, 0, none⟩) := hd { on := 1, ground := .data } (by simp) rfl
          rw [Array.getD_eq_getD_getElem?] at t25
          refine .inl ⟨rfl, ?_⟩
          go_simp
          exact ⟨Below.refl _ _, rfl⟩
        · have t26 : a.tmps.getD 26 undef = .pointer (some ⟨B, 0, none⟩) := hd { on := 2, ground := .data } (by simp) rfl
          rw [Array.getD_eq_getD_getElem?] at t26
          refine .inl ⟨rfl, ?_⟩
          go_simp
          exact ⟨Below.refl _ _, rfl⟩
        · have t27 : a.tmps.getD 27 undef = .pointer (some ⟨B, 1, none⟩) := hd { on := 3, ground := .data } (by simp) rfl
          rw [Array.getD_eq_getD_getElem?] at t27
          refine .inl ⟨rfl, ?_⟩
          have cB : W.cell? ⟨B, 1, none⟩ = some (.slice ma M.length mc) := (HCl W hE).box.cell 1
          go_simp
          exact ⟨Below.refl _ _, rfl⟩
        · have t28 : a.tmps.getD 28 undef = .slice ma M.length mc := hd { on := 4, ground := .data } (by simp) rfl
          rw [Array.getD_eq_getD_getElem?] at t28
          refine .inl ⟨rfl, ?_⟩
          go_simp
          exact ⟨Below.refl _ _, rfl⟩
        · have t24 : a.tmps.getD 24 undef = .int .i64 (k : Nat) := hd { on := 0, ground := .data } (by simp) rfl
          rw [Array.getD_eq_getD_getElem?] at t24
          have t29 : a.tmps.getD 29 undef = .int .i64 (M.length : Nat) := hd { on := 5, ground := .data } (by simp) rfl
          rw [Array.getD_eq_getD_getElem?] at t29
          refine .inl ⟨rfl, ?_⟩
          go_simp
          exact ⟨Below.refl _ _, rfl⟩
        · have t30 : a.tmps.getD 30 undef = .bool false := hd { on := 6, ground := .data } (by simp) rfl
          rw [Array.getD_eq_getD_getElem?] at t30
          refine .inl ⟨rfl, ?_⟩
          go_simp
          exact ⟨Below.refl _ _, rfl⟩
        · have g31 : a.eval (.tmp 31) = .bool false := hd { on := 7, ground := .guard } (by simp) rfl
          exact .inr ⟨(by simp only [Region.wanted]; rw [yielded_of (d := 31) (by rfl) g31]; rfl), rfl⟩
        · have g31 : a.eval (.tmp 31) = .bool false := hd { on := 7, ground := .guard } (by simp) rfl
          exact .inr ⟨(by simp only [Region.wanted]; rw [yielded_of (d := 31) (by rfl) g31]; rfl), rfl⟩
        · have g31 : a.eval (.tmp 31) = .bool false := hd { on := 7, ground := .guard } (by simp) rfl
          exact .inr ⟨(by simp only [Region.wanted]; rw [yielded_of (d := 31) (by rfl) g31]; rfl), rfl⟩
        · have g31 : a.eval (.tmp 31) = .bool false := hd { on := 7, ground := .guard } (by simp) rfl
          exact .inr ⟨(by simp only [Region.wanted]; rw [yielded_of (d := 31) (by rfl) g31]; rfl), rfl⟩
        · have g31 : a.eval (.tmp 31) = .bool false := hd { on := 7, ground := .guard } (by simp) rfl
          exact .inr ⟨(by simp only [Region.wanted]; rw [yielded_of (d := 31) (by rfl) g31]; rfl), rfl⟩
        · have g31 : a.eval (.tmp 31) = .bool false := hd { on := 7, ground := .guard } (by simp) rfl
          exact .inr ⟨(by simp only [Region.wanted]; rw [yielded_of (d := 31) (by rfl) g31]; rfl), rfl⟩
        · have g31 : a.eval (.tmp 31) = .bool false := hd { on := 7, ground := .guard } (by simp) rfl
          exact .inr ⟨(by simp only [Region.wanted]; rw [yielded_of (d := 31) (by rfl) g31]; rfl), rfl⟩
        · have g31 : a.eval (.tmp 31) = .bool false := hd { on := 7, ground := .guard } (by simp) rfl
          exact .inr ⟨(by simp only [Region.wanted]; rw [yielded_of (d := 31) (by rfl) g31]; rfl), rfl⟩
        · have g31 : a.eval (.tmp 31) = .bool false := hd { on := 7, ground := .guard } (by simp) rfl
          exact .inr ⟨(by simp only [Region.wanted]; rw [yielded_of (d := 31) (by rfl) g31]; rfl), rfl⟩
        · have t31 : a.tmps.getD 31 undef = .bool false := hd { on := 7, ground := .data } (by simp) rfl
          rw [Array.getD_eq_getD_getElem?] at t31
          refine .inl ⟨rfl, ?_⟩
          go_simp
          exact ⟨Below.refl _ _, rfl⟩
      · intro vs W hE hV
        have h17 : vs 17 = .bool false := hV 17 (by decide)
        have HBf : Hid (Below w2.heap.size w2 W) := HBr.out.trans (hE.mono HBr.out.size)
        clear hV hE
        simp only [putsV, dstsV, List.foldl, h17, Act.put, List.setIfInBounds_toArray, List.set_cons_succ, List.set_cons_zero]
        clear h17
        generalize vs 0 = y0
        generalize vs 1 = y1
        generalize vs 2 = y2
        generalize vs 3 = y3
        generalize vs 4 = y4
        generalize vs 5 = y5
        generalize vs 6 = y6
        generalize vs 7 = y7
        generalize vs 8 = y8
        generalize vs 9 = y9
        generalize vs 10 = y10
        generalize vs 11 = y11
        generalize vs 12 = y12
        generalize vs 13 = y13
        generalize vs 14 = y14
        generalize vs 15 = y15
        generalize vs 16 = y16
        refine ‹∀ (a : Act) (w : World), Code.wp Try.prog (Code.cond _ _ _) _ a w → _› _ _ ?_
        have hkA : aheadT M t = k := HEx.out
        have HKA : Hid (aheadT M t = k) := hkA
        clear hkA
        have HWr : Hid (Below w2.heap.size w2 W) := HBf.out
        have HM7 : Hid (∀ W', Below W.heap.size W W' → IsTimers W' (.slice ma M.length mc) M) := fun W' q => (HClw.out W' (HWr.out.trans (q.mono HWr.out.size))).timers
        have HS7 : Hid (∀ W', Below W.heap.size W W' → W'.cell? ⟨B, 1, none⟩ = some (.slice ma M.length mc) ∧ W'.cell? ⟨w.heap.size, 0, none⟩ = some (.int .i64 t.at_) ∧ W'.cell? ⟨w.heap.size, 1, none⟩ = some (.int .i64 t.kind) ∧ W'.cell? ⟨w.heap.size, 2, none⟩ = some (.int .i64 t.id)) := fun W' q => ⟨(HClw.out W' (HWr.out.trans (q.mono HWr.out.size))).box.cell 1, (HBw.out W' (HWr.out.trans (q.mono HWr.out.size))).cell 0, (HBw.out W' (HWr.out.trans (q.mono HWr.out.size))).cell 1, (HBw.out W' (HWr.out.trans (q.mono HWr.out.size))).cell 2⟩
        have HFr : Hid (∀ W', Below W.heap.size W W' → W'.frozen? ⟨B, 1, none⟩ = false) := fun W' q => (HClw.out W' (HWr.out.trans (q.mono HWr.out.size))).box.frozen 1
        have HU7 : Hid (∀ W', Below W.heap.size W W' → IsRow 3 W' (.slice ma k mc) k (timerCells (M.take k))) := fun W' q => by
          have h := ((HM7.out W' q).upto k (by omega)).row
          rwa [show (M.take k).length = k by rw [List.length_take]; omega] at h
        have HD7 : Hid (∀ W', Below W.heap.size W W' → IsRow 3 W' (.slice (if mc = k then ma else Option.map (fun x => x.add (k * 3)) ma) (M.length - k) (mc - k)) (M.length - k) (timerCells (M.drop k))) := fun W' q => by
          have h := ((HM7.out W' q).from k (by omega)).row
          rwa [show (M.drop k).length = M.length - k by simp] at h
        clear HCl HBx hltI
        go_wp2
        refine wp_region_split 18 (fun W' => W'.cell? ⟨B, 1, none⟩ = some (.slice ma M.length mc) ∧ W'.cell? ⟨w.heap.size, 0, none⟩ = some (.int .i64 t.at_) ∧ W'.cell? ⟨w.heap.size, 1, none⟩ = some (.int .i64 t.kind) ∧ W'.cell? ⟨w.heap.size, 2, none⟩ = some (.int .i64 t.id)) (by kernel_rfl) (by kernel_rfl) (HS7.out _ (Below.refl _ _).drew) (fun hS0 => ?_)
        simp only [List.take_succ_cons, List.take_zero, List.drop_succ_cons, List.drop_zero]
        refine takeH (i := 0) (v := .pointer (some ⟨B, 0, none⟩)) rfl (by kernel_rfl) (by kernel_rfl) (by kernel_rfl) (fun _ _ _ h => h) (Or.inl ⟨by rfl, ?_⟩) hS0 ?_
        · intro wS hSw
          go_simp
        go_frame
        refine takeH (i := 1) (v := .pointer (some ⟨B, 0, none⟩)) rfl (by kernel_rfl) (by kernel_rfl) (by kernel_rfl) (fun _ _ _ h => h) (Or.inl ⟨by rfl, ?_⟩) hS0 ?_
        · intro wS hSw
          go_simp
        go_frame
        refine takeH (i := 2) (v := .pointer (some ⟨B, 0, none⟩)) rfl (by kernel_rfl) (by kernel_rfl) (by kernel_rfl) (fun _ _ _ h => h) (Or.inl ⟨by rfl, ?_⟩) hS0 ?_
        · intro wS hSw
          go_simp
        go_frame
        refine takeH (i := 3) (v := .pointer (some ⟨B, 1, none⟩)) rfl (by kernel_rfl) (by kernel_rfl) (by kernel_rfl) (fun _ _ _ h => h) (Or.inl ⟨by rfl, ?_⟩) hS0 ?_
        · intro wS hSw
          go_simp
        go_frame
        refine takeH (i := 4) (v := .slice ma M.length mc) rfl (by kernel_rfl) (by kernel_rfl) (by kernel_rfl) (fun _ _ _ h => h) (Or.inl ⟨by rfl, ?_⟩) hS0 ?_
        · intro wS hSw
          go_simp
        go_frame
        refine takeH (i := 5) (v := .int .i64 (k : Nat)) rfl (by kernel_rfl) (by kernel_rfl) (by kernel_rfl) (fun _ _ _ h => h) (Or.inl ⟨by rfl, ?_⟩) hS0 ?_
        · intro wS hSw
          go_simp
        go_frame
        refine takeH (i := 6) (v := .slice ma k mc) rfl (by kernel_rfl) (by kernel_rfl) (by kernel_rfl) (fun _ _ _ h => h) (Or.inl ⟨by rfl, ?_⟩) hS0 ?_
        · intro wS hSw
          go_simp
        go_frame
        refine takeH (i := 8) (v := tval t) rfl (by kernel_rfl) (by kernel_rfl) (by kernel_rfl) (fun _ _ _ h => h) (Or.inl ⟨by rfl, ?_⟩) hS0 ?_
        · intro wS hSw
          go_simp
        go_frame
        refine takeH (i := 11) (v := .pointer (some ⟨B, 0, none⟩)) rfl (by kernel_rfl) (by kernel_rfl) (by kernel_rfl) (fun _ _ _ h => h) (Or.inl ⟨by rfl, ?_⟩) hS0 ?_
        · intro wS hSw
          go_simp
        go_frame
        refine takeH (i := 12) (v := .pointer (some ⟨B, 0, none⟩)) rfl (by kernel_rfl) (by kernel_rfl) (by kernel_rfl) (fun _ _ _ h => h) (Or.inl ⟨by rfl, ?_⟩) hS0 ?_
        · intro wS hSw
          go_simp
        go_frame
        refine takeH (i := 13) (v := .pointer (some ⟨B, 1, none⟩)) rfl (by kernel_rfl) (by kernel_rfl) (by kernel_rfl) (fun _ _ _ h => h) (Or.inl ⟨by rfl, ?_⟩) hS0 ?_
        · intro wS hSw
          go_simp
        go_frame
        refine takeH (i := 14) (v := .slice ma M.length mc) rfl (by kernel_rfl) (by kernel_rfl) (by kernel_rfl) (fun _ _ _ h => h) (Or.inl ⟨by rfl, ?_⟩) hS0 ?_
        · intro wS hSw
          go_simp
        go_frame
        refine takeH (i := 15) (v := .int .i64 (k : Nat)) rfl (by kernel_rfl) (by kernel_rfl) (by kernel_rfl) (fun _ _ _ h => h) (Or.inl ⟨by rfl, ?_⟩) hS0 ?_
        · intro wS hSw
          go_simp
        go_frame
        refine takeH (i := 16) (v := .slice (if mc = k then ma else Option.map (fun x => x.add (k * 3)) ma) (M.length - k) (mc - k)) rfl (by kernel_rfl) (by kernel_rfl) (by kernel_rfl) (fun _ _ _ h => h) (Or.inl ⟨by rfl, ?_⟩) hS0 ?_
        · intro wS hSw
          go_simp
        go_frame
        refine wpAnyH_ready (rs := [7, 9]) (by kernel_rfl) (by simp) ?_
        refine readyH_cons rfl (fun K hK => ?_) (readyH_cons rfl (fun K hK => ?_) AllReadyH.nil)
        · refine step_append_row (by rfl) (.const nilW) (.tmp 50) 40 (by rfl) W.heap.size 29 i0 _ 3 24 Try.underlying40 hi hz0 hz1 hz2 (by rfl) (by decide) (nilW) 0 [] (by rfl) (World.ownsRow_nil _ _ _ _) (.slice ma k mc) k (timerCells (M.take k)) (by rfl) (HU7.out _ (Below.refl _ _).drew) (timerCells_one _) (by unfold maxLen; omega) (by omega) (by simp) ?_
          intro v3 w3 hown hgrow hat
          rw [Nat.zero_add, List.nil_append] at hown
          obtain ⟨o3, c3, rfl⟩ := (isRow_own hown).shaped
          have HB3 : Hid (Below W.heap.size W w3) := (Below.refl _ _).drew.grown hgrow (by simp) (fun q hq => by simp [Value.ownBlock] at hq)
          have HO3 : Hid (w3.ownsRow W.heap.size 29 3 (.slice o3 k c3) k (timerCells (M.take k))) := hown
          clear hown hgrow hat
          refine hK.out _ _ (HS7.out _ HB3.out) (fun hS3 => ?_)
          clear hK K
          go_frame
          refine wpAnyH_ready (rs := [9]) (by kernel_rfl) (by simp) ?_
          refine readyH_cons rfl (fun K hK => ?_) AllReadyH.nil
          go_simp
          have HB4 : Hid (Below W.heap.size W (w3.alloc (.cells (tcells t) 29))) := HB3.out.alloc HB3.out.size _
          have HO4 : Hid ((w3.alloc (.cells (tcells t) 29)).ownsRow W.heap.size 29 3 (.slice o3 k c3) k (timerCells (M.take k))) := HO3.out.alloc _
          have HR4 : Hid (IsRow 3 (w3.alloc (.cells (tcells t) 29)) (.slice (some ⟨w3.heap.size, 0, none⟩) 1 1) 1 (timerCells [t])) := timer_row _ t _ _ rfl
          refine hK.out _ _ (HS7.out _ HB4.out) (fun hS4 => ?_)
          clear hK K
          generalize w3.heap.size = g4 at *
          generalize w3.alloc (.cells (tcells t) 29) = w4 at *
          refine wpAnyH_ready (rs := [10]) (by kernel_rfl) (by simp) ?_
          refine readyH_cons rfl (fun K hK => ?_) AllReadyH.nil
          refine step_append_row (by rfl) (.tmp 51) (.tmp 53) 40 (by rfl) W.heap.size 29 i0 _ 3 24 Try.underlying40 hi hz0 hz1 hz2 (by rfl) (by decide) (.slice o3 k c3) k _ (by rfl) (HO4.out) (.slice (some ⟨g4, 0, none⟩) 1 1) 1 (timerCells [t]) (by rfl) (HR4.out) (timerCells_one _) (by unfold maxLen; omega) (by omega) (HB4.out.size) ?_
          intro v5 w5 hown hgrow hat
          obtain ⟨o5, c5, rfl⟩ := (isRow_own hown).shaped
          have HO5 : Hid (w5.ownsRow W.heap.size 29 3 (.slice o5 (k + 1) c5) (k + 1) (timerCells (M.take k) ++ timerCells [t])) := hown
          have HB5 : Hid (Below W.heap.size W w5) := HB4.out.grown hgrow HB4.out.size (own_base HO4.out)
          clear hown hgrow hat
          refine hK.out _ _ (HS7.out _ HB5.out) (fun hS5 => ?_)
          clear hK K
          go_frame
          refine wpAnyH_ready (rs := [17]) (by kernel_rfl) (by simp) ?_
          refine readyH_cons rfl (fun K hK => ?_) AllReadyH.nil
          refine step_append_row (by rfl) (.tmp 54) (.tmp 60) 40 (by rfl) W.heap.size 29 i0 _ 3 24 Try.underlying40 hi hz0 hz1 hz2 (by rfl) (by decide) (.slice o5 (k + 1) c5) (k + 1) _ (by rfl) (HO5.out) (.slice (if mc = k then ma else Option.map (fun x => x.add (k * 3)) ma) (M.length - k) (mc - k)) (M.length - k) (timerCells (M.drop k)) (by rfl) (HD7.out _ HB5.out) (timerCells_one _) (by unfold maxLen; omega) (by omega) (HB5.out.size) ?_
          intro v6 w6 hown hgrow hat
          obtain ⟨o6, c6, rfl⟩ := (isRow_own hown).shaped
          have HO6 : Hid (w6.ownsRow W.heap.size 29 3 (.slice o6 (k + 1 + (M.length - k)) c6) (k + 1 + (M.length - k)) (timerCells (M.take k) ++ timerCells [t] ++ timerCells (M.drop k))) := hown
          have HB6 : Hid (Below W.heap.size W w6) := HB5.out.grown hgrow HB5.out.size (own_base HO5.out)
          clear hown hgrow hat
          refine hK.out _ _ (HS7.out _ HB6.out) (fun hS6 => ?_)
          clear hK K
          go_frame
          refine wpAnyH_done (by kernel_rfl) ?_ _
          have f6 : w6.frozen? ⟨B, 1, none⟩ = false := HFr.out _ HB6.out
          have c6B : w6.cell? ⟨B, 1, none⟩ = some (.slice ma M.length mc) := hS6.1
          clear hS0 hS3 hS4 hS5 hS6
          unfold afterHead
          go_wp2
          all_goals (go_ret; exact ⟨by rw [HF.out.1]; rfl, _, rSet_end HB1.out HT2.out HWr.out HB6.out HKA.out HF.out.2 hk HIt.out HO6.out⟩)
        · go_simp
          have HB3 : Hid (Below W.heap.size W (W.alloc (.cells #[.int .i64 t.at_, .int .i64 t.kind, .int .i64 t.id] 29)).drew) := ((Below.refl _ _).alloc (Nat.le_refl _) _).drew
          have HR3 : Hid (IsRow 3 (W.alloc (.cells #[.int .i64 t.at_, .int .i64 t.kind, .int .i64 t.id] 29)).drew (.slice (some ⟨W.heap.size, 0, none⟩) 1 1) 1 (timerCells [t])) := (timer_row W t _ _ rfl).below (Below.refl _ _).drew
          refine hK.out _ _ (HS7.out _ HB3.out) (fun hS3 => ?_)
          clear hK K
          generalize (W.alloc (.cells #[.int .i64 t.at_, .int .i64 t.kind, .int .i64 t.id] 29)).drew = w3 at HB3 HR3 hS3 ⊢
          refine wpAnyH_ready (rs := [7]) (by kernel_rfl) (by simp) ?_
          refine readyH_cons rfl (fun K hK => ?_) AllReadyH.nil
          refine step_append_row (by rfl) (.const nilW) (.tmp 50) 40 (by rfl) W.heap.size 29 i0 _ 3 24 Try.underlying40 hi hz0 hz1 hz2 (by rfl) (by decide) (nilW) 0 [] (by rfl) (World.ownsRow_nil _ _ _ _) (.slice ma k mc) k (timerCells (M.take k)) (by rfl) (HU7.out _ HB3.out) (timerCells_one _) (by unfold maxLen; omega) (by omega) (HB3.out.size) ?_
          intro v4 w4 hown hgrow hat
          rw [Nat.zero_add, List.nil_append] at hown
          obtain ⟨o3, c3, rfl⟩ := (isRow_own hown).shaped
          have HB4 : Hid (Below W.heap.size W w4) := HB3.out.grown hgrow HB3.out.size (fun q hq => by simp [Value.ownBlock] at hq)
          have HO4 : Hid (w4.ownsRow W.heap.size 29 3 (.slice o3 k c3) k (timerCells (M.take k))) := hown
          have HR4 : Hid (IsRow 3 w4 (.slice (some ⟨W.heap.size, 0, none⟩) 1 1) 1 (timerCells [t])) := HR3.out.grown hgrow (fun _ e => by cases e)
          clear hown hgrow hat
          refine hK.out _ _ (HS7.out _ HB4.out) (fun hS4 => ?_)
          clear hK K
          go_frame
          refine wpAnyH_ready (rs := [10]) (by kernel_rfl) (by simp) ?_
          refine readyH_cons rfl (fun K hK => ?_) AllReadyH.nil
          refine step_append_row (by rfl) (.tmp 51) (.tmp 53) 40 (by rfl) W.heap.size 29 i0 _ 3 24 Try.underlying40 hi hz0 hz1 hz2 (by rfl) (by decide) (.slice o3 k c3) k _ (by rfl) (HO4.out) (.slice (some ⟨W.heap.size, 0, none⟩) 1 1) 1 (timerCells [t]) (by rfl) (HR4.out) (timerCells_one _) (by unfold maxLen; omega) (by omega) (HB4.out.size) ?_
          intro v5 w5 hown hgrow hat
          obtain ⟨o5, c5, rfl⟩ := (isRow_own hown).shaped
          have HO5 : Hid (w5.ownsRow W.heap.size 29 3 (.slice o5 (k + 1) c5) (k + 1) (timerCells (M.take k) ++ timerCells [t])) := hown
          have HB5 : Hid (Below W.heap.size W w5) := HB4.out.grown hgrow HB4.out.size (own_base HO4.out)
          clear hown hgrow hat
          refine hK.out _ _ (HS7.out _ HB5.out) (fun hS5 => ?_)
          clear hK K
          go_frame
          refine wpAnyH_ready (rs := [17]) (by kernel_rfl) (by simp) ?_
          refine readyH_cons rfl (fun K hK => ?_) AllReadyH.nil
          refine step_append_row (by rfl) (.tmp 54) (.tmp 60) 40 (by rfl) W.heap.size 29 i0 _ 3 24 Try.underlying40 hi hz0 hz1 hz2 (by rfl) (by decide) (.slice o5 (k + 1) c5) (k + 1) _ (by rfl) (HO5.out) (.slice (if mc = k then ma else Option.map (fun x => x.add (k * 3)) ma) (M.length - k) (mc - k)) (M.length - k) (timerCells (M.drop k)) (by rfl) (HD7.out _ HB5.out) (timerCells_one _) (by unfold maxLen; omega) (by omega) (HB5.out.size) ?_
          intro v6 w6 hown hgrow hat
          obtain ⟨o6, c6, rfl⟩ := (isRow_own hown).shaped
          have HO6 : Hid (w6.ownsRow W.heap.size 29 3 (.slice o6 (k + 1 + (M.length - k)) c6) (k + 1 + (M.length - k)) (timerCells (M.take k) ++ timerCells [t] ++ timerCells (M.drop k))) := hown
          have HB6 : Hid (Below W.heap.size W w6) := HB5.out.grown hgrow HB5.out.size (own_base HO5.out)
          clear hown hgrow hat
          refine hK.out _ _ (HS7.out _ HB6.out) (fun hS6 => ?_)
          clear hK K
          go_frame
          refine wpAnyH_done (by kernel_rfl) ?_ _
          have f6 : w6.frozen? ⟨B, 1, none⟩ = false := HFr.out _ HB6.out
          have c6B : w6.cell? ⟨B, 1, none⟩ = some (.slice ma M.length mc) := hS6.1
          clear hS0 hS3 hS4 hS5 hS6
          unfold afterHead
          go_wp2
          all_goals (go_ret; exact ⟨by rw [HF.out.1]; rfl, _, rSet_end HB1.out HT2.out HWr.out HB6.out HKA.out HF.out.2 hk HIt.out HO6.out⟩)

end Go.Proofs.Ytelpdmaphmfkiaa

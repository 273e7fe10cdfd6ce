/-
  The contract of package config's readLine.
-/
import Derived.Test.YtkninlahlgipoaaDoorConf4
import Derived.Test.YtkninlahlgipoaaDoorRels
namespace Go.Proofs.YtkninlahlgipoaaDoor
open Go.RowKit

theorem tab_cell {w : World} (h : TabC w) (i j : Nat) (hi : i < 23) (hj : j < 5) : w.cell? ⟨0, i * 5 + j, none⟩ = (rowL i)[j]? := by
  obtain ⟨t, fr, hg⟩ := h
  rw [cell_of_row w _ _ _ t fr hg, ← tab_row i hi]
  unfold tabArr
  simp [hj]

/-- What stands in the place of readLine's last test. -/
def readV (b : Nat) (cs' : Array Value) (row : Value) (wv : Value) (wa : Addr) (s : ByteArray) (q m : Bool) : Nat → Value → World → Prop
  | 0, v, _ => v = row
  | 1, v, _ => v = .pointer (some ⟨b, 0, none⟩)
  | 2, v, _ => v = wv
  | 3, v, _ => v = .pointer (some wa)
  | 4, v, _ => v = .string s
  | 5, v, w => v = .bool q ∧ CellsAt w b cs'
  | 6, v, w => v = .bool (!q) ∧ CellsAt w b cs'
  | 7, v, w => v = .bool (!q) ∧ CellsAt w b cs'
  | 8, v, _ => q = true → v = row
  | 9, v, _ => q = true → v = .pointer (some ⟨b, 0, none⟩)
  | 10, v, _ => q = true → v = .pointer (some ⟨b, 0, none⟩)
  | 11, v, _ => q = true → v = .agg cs'
  | 12, v, _ => q = true → v = .bool m
  | 13, v, _ => q = true → v = .bool (!m)
  | _, v, w => v = .bool (!(q && m)) ∧ CellsAt w b cs'
/-- What goes on there: all but the caller's configuration stands; that one is as it was, or read. -/
def readE (b : Nat) (cs cs' : Array Value) (w w' : World) : Prop := w.grownBy w' (some b) ∧ (CellsAt w b cs' → CellsAt w' b cs') ∧ (CellsAt w b cs → CellsAt w' b cs ∨ CellsAt w' b cs')
theorem readE_refl (b : Nat) (cs cs' : Array Value) (w : World) : readE b cs cs' w w := ⟨grown_below (Below.refl _ _) _, id, .inl⟩
theorem readE_trans {b : Nat} {cs cs' : Array Value} {w w' w'' : World} (h : readE b cs cs' w w') (h2 : readE b cs cs' w' w'') : readE b cs cs' w w'' :=
  ⟨h.1.trans h2.1, fun x => h2.2.1 (h.2.1 x), fun x => (h.2.2 x).elim h2.2.2 fun y => .inr (h2.2.1 y)⟩
theorem readE_below {b : Nat} {cs cs' : Array Value} {w w' : World} (h : Below w.heap.size w w') : readE b cs cs' w w' := ⟨grown_below h _, fun x => x.below h, fun x => .inl (x.below h)⟩
theorem readV_stays {b : Nat} {cs cs' : Array Value} {row wv : Value} {wa : Addr} {s : ByteArray} {q m : Bool} : ∀ i v w w', readV b cs' row wv wa s q m i v w → readE b cs cs' w w' → readV b cs' row wv wa s q m i v w' := by
  intro i v w w' h hE
  match i with
  | 0 | 1 | 2 | 3 | 4 => exact h
  | 5 | 6 | 7 => exact ⟨h.1, hE.2.1 h.2⟩
  | 8 | 9 | 10 | 11 | 12 | 13 => exact h
  | n + 14 => exact ⟨h.1, hE.2.1 h.2⟩

/-- A load of a whole row, as an operation's run. -/
theorem run_oload {P : Program} {w : World} (ρ : Operand → Value) (o : Oper) (ty : TypeId) (x : Operand) (ho : o.op = .load ty x) (g : Nat) (hx : ρ x = .pointer (some ⟨g, 0, none⟩)) (t : TypeId) (cs : Array Value) (fr : Nat × Nat) (d : TypeDesc) (hg : w.heap[g]? = some (.cells cs t fr))
    (hu : P.underlying ty = some d) (hd : (match d with | .struct _ | .array _ _ => true | _ => false) = true) (hi : (P.info? ty).map (·.size) = some cs.size) : (execOp ρ o).run P w = .ok (.value (.agg cs)) w := by
  unfold execOp
  simp only [ho, hx, Instr.loadAt, Instr.sureAddr, Sem.run_bind, Sem.run_pure, Result.andThen_ok, run_loadVar_row w g t ty cs fr d hg hu hd hi]
theorem words_none {ws : List ByteArray} (h : ws.length ≠ 2) : wordsC ws = none := by
  unfold wordsC
  match ws with
  | [] => rfl
  | [_] => rfl
  | [_, _] => simp at h
  | _ :: _ :: _ :: _ => rfl

/-- What readLine's answer says. -/
def LineSays (R : Option (Nat × Int × ByteArray)) (n : List Int) (z : ByteArray) (b : Nat) (e : Ending) (w' : World) : Prop := match R with
  | none => e = .returned (.tuple #[.int .i64 0, .bool false])
  | some (i, k, zz) => e = .returned (.tuple #[.int .i64 i, .bool true]) ∧ CellsAt w' b (ofNums (n.set i k) (if i = 21 then zz else z)).arr

set_option maxRecDepth 100000 in
set_option maxHeartbeats 1000000 in
theorem readLine_short (ws : List ByteArray) (hws : ws.length ≠ 2) (p v : Value) (w : World) (hv : IsStrs w v ws) :
    Calls Tryd.prog 14 #[p, v] w fun e w' => e = .returned (.tuple #[.int .i64 0, .bool false]) ∧ w' = w := by
  obtain ⟨ao, cap, rfl⟩ := hv.shaped
  have h1 : ((ws.length : Int) == 2) = false := by rw [beq_eq_false_iff_ne]; omega
  clear hv
  go_enter Tryd.func14, Tryd.ntmps14
  go_wp2
  go_ret2
  exact ⟨rfl, rfl⟩

set_option maxRecDepth 100000 in
set_option maxHeartbeats 1000000 in
theorem readLine_noname (a s : ByteArray) (hf : findC a = none) (p v : Value) (w : World) (htab : TabC w) (hv : IsStrs w v [a, s]) :
    Calls Tryd.prog 14 #[p, v] w fun e w' => e = .returned (.tuple #[.int .i64 0, .bool false]) ∧ Below w.heap.size w w' := by
  obtain ⟨ao, cap, rfl⟩ := hv.shaped
  obtain ⟨g, off, rfl, hlt, hc⟩ := strsAt hv 0 (by simp)
  have hc0 : w.cell? ⟨g, off, none⟩ = some (.string a) := by simpa using hc
  have hfa := find_any a w htab
  rw [hf] at hfa
  clear hv hc htab hf
  simp only [List.length_cons, List.length_nil]
  go_enter Tryd.func14, Tryd.ntmps14
  go_wp2_with fail
  refine hfa.mono ?_
  rintro e w1 ⟨rfl, hb⟩
  have HB : Hid (Below w.heap.size w w1) := hb
  clear hb
  go_wp2
  go_ret2
  exact ⟨rfl, HB.out⟩

set_option maxRecDepth 100000 in
set_option maxHeartbeats 2000000 in
theorem readLine_two (a s : ByteArray) (i : Nat) (hf : findC a = some i) (n : List Int) (hl : n.length = 23) (z : ByteArray) (b : Nat) (v : Value) (w : World) (htab : TabC w) (h : CellsAt w b (ofNums n z).arr) (hv : IsStrs w v [a, s]) (hne : blkOf v ≠ some b)
    (hs : s.size ≤ 9223372036854775807) (hz : z.size ≤ 9223372036854775807) :
    Calls Tryd.prog 14 #[.pointer (some ⟨b, 0, none⟩), v] w fun e w' => w.grownBy w' (some b) ∧ CellsAt w' b (ofNums (n.set i (numR i s)) (zonR z i s)).arr ∧
      e = .returned (if okR i s && mayK (ofNums (n.set i (numR i s)) (zonR z i s)) i then .tuple #[.int .i64 i, .bool true] else .tuple #[.int .i64 0, .bool false]) := by
  have hi := findC_lt hf
  obtain ⟨ao, cap, rfl⟩ := hv.shaped
  obtain ⟨g, off, rfl, hlt, hc⟩ := strsAt hv 0 (by simp)
  obtain ⟨g', off', e1, _, hc1⟩ := strsAt hv 1 (by simp)
  cases e1
  have hc0 : w.cell? ⟨g, off, none⟩ = some (.string a) := by simpa using hc
  have HC1 : Hid (w.cell? ⟨g, off + 1, none⟩ = some (.string s)) := by
    show _ = _
    simpa using hc1
  have HGB : Hid (g ≠ b) := fun e => hne (by rw [e]; rfl)
  have hfa := find_any a w htab
  rw [hf] at hfa
  have HT : Hid (TabC w) := htab
  have HA : Hid (CellsAt w b (ofNums n z).arr) := h
  have HLt : Hid (g < w.heap.size) := hlt
  clear hv hc hc1 htab hf h hlt hne
  obtain ⟨cs, hcs⟩ : ∃ cs, (ofNums n z).arr = cs := ⟨_, rfl⟩
  obtain ⟨cs', hcs'⟩ : ∃ cs', (ofNums (n.set i (numR i s)) (zonR z i s)).arr = cs' := ⟨_, rfl⟩
  obtain ⟨q, hq0⟩ : ∃ q, okR i s = q := ⟨_, rfl⟩
  obtain ⟨m, hm0⟩ : ∃ m, mayK (ofNums (n.set i (numR i s)) (zonR z i s)) i = m := ⟨_, rfl⟩
  obtain ⟨r, hr⟩ : ∃ r, (q && m) = r := ⟨_, rfl⟩
  rw [hq0, hm0, hcs', hr]
  have HR : Hid ((q && m) = r) := hr
  clear hr
  have HCs : Hid ((ofNums n z).arr = cs) := hcs
  have HCs' : Hid ((ofNums (n.set i (numR i s)) (zonR z i s)).arr = cs') := hcs'
  have HQ0 : Hid (okR i s = q) := hq0
  have HM0 : Hid (mayK (ofNums (n.set i (numR i s)) (zonR z i s)) i = m) := hm0
  clear hcs hcs' hq0 hm0
  simp only [List.length_cons, List.length_nil]
  go_enter Tryd.func14, Tryd.ntmps14
  go_wp2_with fail
  refine hfa.mono ?_
  rintro e w1 ⟨rfl, hb⟩
  have HB : Hid (Below w.heap.size w w1) := hb
  have HT1 : Hid (TabC w1) := HT.out.below hb
  clear hb hfa hc0
  have t0 : w1.cell? ⟨0, i * 5, none⟩ = some (.string (nameC i)) := tab_cell HT1.out i 0 hi (by omega)
  have t1 : w1.cell? ⟨0, i * 5 + 1, none⟩ = some (.int .i64 (rowK i).1) := tab_cell HT1.out i 1 hi (by omega)
  have t2 : w1.cell? ⟨0, i * 5 + 2, none⟩ = some (.int .i64 (rowK i).2.1) := tab_cell HT1.out i 2 hi (by omega)
  have t3 : w1.cell? ⟨0, i * 5 + 3, none⟩ = some (.int .i64 (rowK i).2.2.1) := tab_cell HT1.out i 3 hi (by omega)
  have t4 : w1.cell? ⟨0, i * 5 + 4, none⟩ = some (.string (mkS (rowK i).2.2.2)) := tab_cell HT1.out i 4 hi (by omega)
  have HRow : Hid (rowA i = rowOf (nameC i) (rowK i).1 (rowK i).2.1 (rowK i).2.2.1 (mkS (rowK i).2.2.2)) := rfl
  generalize nameC i = nm at t0 HRow
  generalize (rowK i).1 = k1 at t1 HRow
  generalize (rowK i).2.1 = k2 at t2 HRow
  generalize (rowK i).2.2.1 = k3 at t3 HRow
  generalize mkS (rowK i).2.2.2 = k4 at t4 HRow
  go_wp2
  generalize hW0 : w1.alloc _ = W0
  have HS' : Hid ((Tryd.prog.info? 23).map (·.size) = some cs'.size) := by
    show _ = _
    rw [← HCs'.out, arr_size]; kernel_rfl
  have hA0 : CellsAt W0 b cs := by rw [← hW0, ← HCs.out]; exact (HA.out.below HB.out).alloc _
  have hg0 : w.grownBy W0 (some b) := by rw [← hW0]; exact grown_below (HB.out.alloc HB.out.size _) _
  have hbne : w1.heap.size ≠ b := by have := HA.out.lt; have := HB.out.size; omega
  have hlt0 : w1.heap.size < W0.heap.size := by rw [← hW0]; simp
  have hcell : ∀ W (j : Nat), readE b cs cs' W0 W → W.cell? ⟨w1.heap.size, j, none⟩ = (#[Value.string nm, .int .i64 k1, .int .i64 k2, .int .i64 k3, .string k4] : Array Value)[j]? := fun W j hE => by
    rw [hE.1.cell_far ⟨w1.heap.size, j, none⟩ hlt0 (fun e => hbne (by simpa using e)), ← hW0]
    exact World.cell?_alloc_at _ _ _ _ rfl
  have hword : ∀ W, readE b cs cs' W0 W → W.cell? ⟨g, off + 1, none⟩ = some (.string s) := fun W hE => by
    have h1 : g < w1.heap.size := by have := HLt.out; have := HB.out.size; omega
    rw [hE.1.cell_far ⟨g, off + 1, none⟩ (by show g < _; omega) (fun e => HGB.out (by simpa using e)), ← hW0, World.cell?_alloc_past _ _ _ h1]
    exact (HB.out.cell (p := ⟨g, off + 1, none⟩) HLt.out).trans HC1.out
  have hread : ∀ W, readE b cs cs' W0 W → Calls Tryd.prog 26 #[rowOf nm k1 k2 k3 k4, .pointer (some ⟨b, 0, none⟩), .string s] W fun e w'' => ∃ v, e = .returned v ∧ readE b cs cs' W w'' ∧ v = .bool q ∧ CellsAt w'' b cs' := fun W hE => by
    rw [← HRow.out]
    rcases hE.2.2 hA0 with hA | hA
    · rw [← HCs.out] at hA
      refine (row_read i hi n hl z s b W hA hs).mono ?_
      rintro e w2 ⟨rfl, h1, h2⟩
      rw [HCs'.out] at h1
      exact ⟨_, rfl, ⟨h2, fun _ => h1, fun _ => .inr h1⟩, by rw [HQ0.out], h1⟩
    · rw [← HCs'.out] at hA
      refine (row_read i hi (n.set i (numR i s)) (by rw [List.length_set]; exact hl) (zonR z i s) s b W hA hs).mono ?_
      rintro e w2 ⟨rfl, h1, h2⟩
      have e1 : (n.set i (numR i s)).set i (numR i s) = n.set i (numR i s) := by simp
      have e2 : zonR (zonR z i s) i s = zonR z i s := by unfold zonR; split <;> rfl
      rw [e1, e2, HCs'.out] at h1
      exact ⟨_, rfl, ⟨h2, fun _ => h1, fun _ => .inr h1⟩, by rw [HQ0.out], h1⟩
  have hmay : ∀ W, Calls Tryd.prog 25 #[rowOf nm k1 k2 k3 k4, .agg cs'] W fun e w' => e = .returned (.bool m) ∧ Below W.heap.size W w' := fun W => by
    rw [← HRow.out, ← HCs'.out, ← HM0.out]
    exact row_may i hi _ W (by
      show (zonR z i s).size ≤ _
      unfold zonR
      split
      · split
        · decide
        · exact hs
      · exact hz)
  clear hW0 HT HA HT1 HRow t0 t1 t2 t3 t4 HQ0 HM0 HCs HCs' HB HC1 hi hl
  refine wp_region_any3 (readE b cs cs') (readV b cs' (rowOf nm k1 k2 k3 k4) (.slice (some ⟨g, off, none⟩) 2 cap) ⟨g, off + 1, none⟩ s q m) (by kernel_rfl) (by kernel_rfl) (readE_below (Below.refl _ _).drew) (readE_refl _ _ _) (fun _ _ _ h1 h2 => readE_trans h1 h2) readV_stays ?_ ?_
  · simp only [stepsAll2]
    refine ⟨fun a W hF hE hd => ?_, fun a W hF hE hd => ?_, fun a W hF hE hd => ?_, fun a W hF hE hd => ?_, fun a W hF hE hd => ?_, fun a W hF hE hd => ?_, fun a W hF hE hd => ?_, fun a W hF hE hd => ?_, fun a W hF hE hd => ?_, fun a W hF hE hd => ?_, fun a W hF hE hd => ?_, fun a W hF hE hd => ?_, fun a W hF hE hd => ?_, fun a W hF hE hd => ?_, fun a W hF hE hd => ?_, trivial⟩
    all_goals unfold StepOk
    · have t8 : a.tmps.getD 8 undef = .pointer (some ⟨w1.heap.size, 0, none⟩) := hF.at 8 (by kernel_rfl)
      rw [Array.getD_eq_getD_getElem?] at t8
      have c0 := hcell W 0 hE
      have c1 := hcell W 1 hE
      have c2 := hcell W 2 hE
      have c3 := hcell W 3 hE
      have c4 := hcell W 4 hE
      left
      refine ⟨rfl, ?_⟩
      go_simp
      exact ⟨readE_refl _ _ _ _, rfl⟩
    · have t0 : a.tmps.getD 0 undef = .pointer (some ⟨b, 0, none⟩) := hF.at 0 (by kernel_rfl)
      rw [Array.getD_eq_getD_getElem?] at t0
      left
      refine ⟨rfl, ?_⟩
      go_simp
      exact ⟨readE_refl _ _ _ _, rfl⟩
    · have t1 : a.tmps.getD 1 undef = .slice (some ⟨g, off, none⟩) 2 cap := hF.at 1 (by kernel_rfl)
      rw [Array.getD_eq_getD_getElem?] at t1
      left
      refine ⟨rfl, ?_⟩
      go_simp
      exact ⟨readE_refl _ _ _ _, rfl⟩
    · have t26 : a.tmps.getD 26 undef = .slice (some ⟨g, off, none⟩) 2 cap := hd { on := 2, ground := .data } (by simp) rfl
      rw [Array.getD_eq_getD_getElem?] at t26
      left
      refine ⟨rfl, ?_⟩
      go_simp
      exact ⟨readE_refl _ _ _ _, rfl⟩
    · have t27 : a.tmps.getD 27 undef = .pointer (some ⟨g, off + 1, none⟩) := hd { on := 3, ground := .data } (by simp) rfl
      rw [Array.getD_eq_getD_getElem?] at t27
      have c0 : W.cell? ⟨g, off + 1, none⟩ = some (.string s) := hword W hE
      left
      refine ⟨rfl, ?_⟩
      go_simp
      exact ⟨readE_refl _ _ _ _, rfl⟩
    · have t24 : a.tmps.getD 24 undef = rowOf nm k1 k2 k3 k4 := hd { on := 0, ground := .data } (by simp) rfl
      rw [Array.getD_eq_getD_getElem?] at t24
      have t25 : a.tmps.getD 25 undef = .pointer (some ⟨b, 0, none⟩) := hd { on := 1, ground := .data } (by simp) rfl
      rw [Array.getD_eq_getD_getElem?] at t25
      have t28 : a.tmps.getD 28 undef = .string s := hd { on := 4, ground := .data } (by simp) rfl
      rw [Array.getD_eq_getD_getElem?] at t28
      left
      refine ⟨rfl, ?_⟩
      go_simp
      exact hread W hE
    · obtain ⟨t29, hca⟩ : a.tmps.getD 29 undef = .bool q ∧ CellsAt W b cs' := hd { on := 5, ground := .data } (by simp) rfl
      rw [Array.getD_eq_getD_getElem?] at t29
      left
      refine ⟨rfl, ?_⟩
      go_simp
      exact ⟨readE_refl _ _ _ _, rfl, hca⟩
    · obtain ⟨t30, hca⟩ : a.tmps.getD 30 undef = .bool (!q) ∧ CellsAt W b cs' := hd { on := 6, ground := .data } (by simp) rfl
      rw [Array.getD_eq_getD_getElem?] at t30
      left
      refine ⟨rfl, ?_⟩
      go_simp
      exact ⟨readE_refl _ _ _ _, rfl, hca⟩
    · have t8 : a.tmps.getD 8 undef = .pointer (some ⟨w1.heap.size, 0, none⟩) := hF.at 8 (by kernel_rfl)
      rw [Array.getD_eq_getD_getElem?] at t8
      have c0 := hcell W 0 hE
      have c1 := hcell W 1 hE
      have c2 := hcell W 2 hE
      have c3 := hcell W 3 hE
      have c4 := hcell W 4 hE
      obtain ⟨t31, hca⟩ : a.tmps.getD 31 undef = .bool (!q) ∧ CellsAt W b cs' := hd { on := 7, ground := .guard } (by simp) rfl
      by_cases hqf : q = false
      · right
        refine ⟨?_, fun h => by rw [hqf] at h; cases h⟩
        simp only [Region.wanted]
        rw [yielded_of (d := 31) (by rfl) t31, hqf]
        rfl
      have hq : q = true := by simpa using hqf
      left
      refine ⟨by simp only [Region.wanted]; rw [yielded_of (d := 31) (by rfl) t31, hq]; rfl, ?_⟩
      rw [Array.getD_eq_getD_getElem?] at t31
      go_simp
      exact ⟨readE_refl _ _ _ _, fun _ => rfl⟩
    · have t0 : a.tmps.getD 0 undef = .pointer (some ⟨b, 0, none⟩) := hF.at 0 (by kernel_rfl)
      rw [Array.getD_eq_getD_getElem?] at t0
      obtain ⟨t31, hca⟩ : a.tmps.getD 31 undef = .bool (!q) ∧ CellsAt W b cs' := hd { on := 7, ground := .guard } (by simp) rfl
      by_cases hqf : q = false
      · right
        refine ⟨?_, fun h => by rw [hqf] at h; cases h⟩
        simp only [Region.wanted]
        rw [yielded_of (d := 31) (by rfl) t31, hqf]
        rfl
      have hq : q = true := by simpa using hqf
      left
      refine ⟨by simp only [Region.wanted]; rw [yielded_of (d := 31) (by rfl) t31, hq]; rfl, ?_⟩
      rw [Array.getD_eq_getD_getElem?] at t31
      go_simp
      exact ⟨readE_refl _ _ _ _, fun _ => rfl⟩
    · obtain ⟨t31, hca⟩ : a.tmps.getD 31 undef = .bool (!q) ∧ CellsAt W b cs' := hd { on := 7, ground := .guard } (by simp) rfl
      by_cases hqf : q = false
      · right
        refine ⟨?_, fun h => by rw [hqf] at h; cases h⟩
        simp only [Region.wanted]
        rw [yielded_of (d := 31) (by rfl) t31, hqf]
        rfl
      have hq : q = true := by simpa using hqf
      left
      refine ⟨by simp only [Region.wanted]; rw [yielded_of (d := 31) (by rfl) t31, hq]; rfl, ?_⟩
      rw [Array.getD_eq_getD_getElem?] at t31
      have t33 : a.tmps.getD 33 undef = .pointer (some ⟨b, 0, none⟩) := hd { on := 9, ground := .data } (by simp) rfl hq
      rw [Array.getD_eq_getD_getElem?] at t33
      go_simp
      exact ⟨readE_refl _ _ _ _, fun _ => rfl⟩
    · obtain ⟨t31, hca⟩ : a.tmps.getD 31 undef = .bool (!q) ∧ CellsAt W b cs' := hd { on := 7, ground := .guard } (by simp) rfl
      by_cases hqf : q = false
      · right
        refine ⟨?_, fun h => by rw [hqf] at h; cases h⟩
        simp only [Region.wanted]
        rw [yielded_of (d := 31) (by rfl) t31, hqf]
        rfl
      have hq : q = true := by simpa using hqf
      left
      refine ⟨by simp only [Region.wanted]; rw [yielded_of (d := 31) (by rfl) t31, hq]; rfl, ?_⟩
      rw [Array.getD_eq_getD_getElem?] at t31
      have t34 : a.tmps.getD 34 undef = .pointer (some ⟨b, 0, none⟩) := hd { on := 10, ground := .data } (by simp) rfl hq
      rw [Array.getD_eq_getD_getElem?] at t34
      rw [run_oload _ _ 23 (.tmp 34) rfl b (by simpa [Act.eval] using t34) 23 cs' (0, 0) _ hca Tryd.underlying23 rfl HS'.out]
      exact ⟨readE_refl _ _ _ _, fun _ => rfl⟩
    · obtain ⟨t31, hca⟩ : a.tmps.getD 31 undef = .bool (!q) ∧ CellsAt W b cs' := hd { on := 7, ground := .guard } (by simp) rfl
      by_cases hqf : q = false
      · right
        refine ⟨?_, fun h => by rw [hqf] at h; cases h⟩
        simp only [Region.wanted]
        rw [yielded_of (d := 31) (by rfl) t31, hqf]
        rfl
      have hq : q = true := by simpa using hqf
      left
      refine ⟨by simp only [Region.wanted]; rw [yielded_of (d := 31) (by rfl) t31, hq]; rfl, ?_⟩
      rw [Array.getD_eq_getD_getElem?] at t31
      have t32 : a.tmps.getD 32 undef = rowOf nm k1 k2 k3 k4 := hd { on := 8, ground := .data } (by simp) rfl hq
      rw [Array.getD_eq_getD_getElem?] at t32
      have t35 : a.tmps.getD 35 undef = .agg cs' := hd { on := 11, ground := .data } (by simp) rfl hq
      rw [Array.getD_eq_getD_getElem?] at t35
      go_simp
      exact (hmay W).mono fun e w2 h => ⟨_, h.1, readE_below h.2, fun _ => rfl⟩
    · obtain ⟨t31, hca⟩ : a.tmps.getD 31 undef = .bool (!q) ∧ CellsAt W b cs' := hd { on := 7, ground := .guard } (by simp) rfl
      by_cases hqf : q = false
      · right
        refine ⟨?_, fun h => by rw [hqf] at h; cases h⟩
        simp only [Region.wanted]
        rw [yielded_of (d := 31) (by rfl) t31, hqf]
        rfl
      have hq : q = true := by simpa using hqf
      left
      refine ⟨by simp only [Region.wanted]; rw [yielded_of (d := 31) (by rfl) t31, hq]; rfl, ?_⟩
      rw [Array.getD_eq_getD_getElem?] at t31
      have t36 : a.tmps.getD 36 undef = .bool m := hd { on := 12, ground := .data } (by simp) rfl hq
      rw [Array.getD_eq_getD_getElem?] at t36
      go_simp
      exact ⟨readE_refl _ _ _ _, fun _ => rfl⟩
    · obtain ⟨t31, hca⟩ : a.tmps.getD 31 undef = .bool (!q) ∧ CellsAt W b cs' := hd { on := 7, ground := .data } (by simp) rfl
      have t37 : q = true → a.tmps.getD 37 undef = .bool (!m) := hd { on := 13, ground := .data } (by simp) rfl
      rw [Array.getD_eq_getD_getElem?] at t31 t37
      left
      refine ⟨rfl, ?_⟩
      cases q with
      | false =>
        go_simp
        exact ⟨readE_refl _ _ _ _, rfl, hca⟩
      | true =>
        have t37' := t37 rfl
        clear t37
        go_simp
        exact ⟨readE_refl _ _ _ _, rfl, hca⟩
  · intro vs W hE hV
    obtain ⟨h38, hca⟩ : vs 14 = .bool (!(q && m)) ∧ CellsAt W b cs' := hV 14 (by decide)
    have hgr := hg0.trans hE.1
    rw [HR.out] at h38
    clear hV hread hmay hcell hword hE hA0 hg0
    simp only [putsV, dstsV, List.foldl, h38, Act.put, List.setIfInBounds_toArray, List.set_cons_succ, List.set_cons_zero]
    clear h38
    generalize vs 0 = u0
    generalize vs 1 = u1
    generalize vs 2 = u2
    generalize vs 3 = u3
    generalize vs 4 = u4
    generalize vs 5 = u5
    generalize vs 6 = u6
    generalize vs 7 = u7
    generalize vs 8 = u8
    generalize vs 9 = u9
    generalize vs 10 = u10
    generalize vs 11 = u11
    generalize vs 12 = u12
    generalize vs 13 = u13
    refine ‹∀ (a : Act) (w : World), Code.wp Tryd.prog (Code.cond _ _ _) _ a w → _› _ _ ?_
    clear HR
    cases r with
    | true =>
      go_wp2
      go_ret2
      exact ⟨hgr, hca, rfl⟩
    | false =>
      go_wp2
      go_ret2
      exact ⟨hgr, hca, rfl⟩

/-- readLine: what its line's words say. -/
theorem readLine_any (ws : List ByteArray) (n : List Int) (hl : n.length = 23) (z : ByteArray) (b : Nat) (v : Value) (w : World) (htab : TabC w) (h : CellsAt w b (ofNums n z).arr) (hv : IsStrs w v ws) (hne : 0 < ws.length → blkOf v ≠ some b)
    (hs : ∀ s ∈ ws, s.size ≠ 0 ∧ s.size ≤ 9223372036854775807) (hz : z.size ≤ 9223372036854775807) :
    Calls Tryd.prog 14 #[.pointer (some ⟨b, 0, none⟩), v] w fun e w' => w.grownBy w' (some b) ∧ LineSays (wordsC ws) n z b e w' := by
  by_cases h2 : ws.length = 2
  · obtain ⟨a, s, rfl⟩ : ∃ a s, ws = [a, s] := by
      match ws, h2 with
      | [a, s], _ => exact ⟨a, s, rfl⟩
    cases hf : findC a with
    | none =>
      have e : wordsC [a, s] = none := by unfold wordsC; simp only [hf]
      rw [e]
      refine (readLine_noname a s hf _ v w htab hv).mono ?_
      rintro e w1 ⟨rfl, hb⟩
      exact ⟨grown_below hb _, rfl⟩
    | some i =>
      have hi := findC_lt hf
      refine (readLine_two a s i hf n hl z b v w htab h hv (hne (by simp)) (hs s (by simp)).2 hz).mono ?_
      rintro e w1 ⟨hg, hc, rfl⟩
      refine ⟨hg, ?_⟩
      have hb := read_both i hi n hl z s (hs s (by simp)).1
      cases hr : readC i s with
      | none =>
        have e : wordsC [a, s] = none := by unfold wordsC; simp only [hf, hr]
        rw [hr] at hb
        simp only at hb
        rw [e, hb]
        rfl
      | some p =>
        obtain ⟨k, zz⟩ := p
        have e : wordsC [a, s] = some (i, k, zz) := by unfold wordsC; simp only [hf, hr]
        rw [hr] at hb
        simp only at hb
        rw [e, hb.1]
        refine ⟨rfl, ?_⟩
        rw [← hb.2.2, ← hb.2.1]
        exact hc
  · rw [words_none h2]
    refine (readLine_short ws h2 _ v w hv).mono ?_
    rintro e w1 ⟨rfl, rfl⟩
    exact ⟨grown_below (Below.refl _ _) _, rfl⟩

end Go.Proofs.YtkninlahlgipoaaDoor

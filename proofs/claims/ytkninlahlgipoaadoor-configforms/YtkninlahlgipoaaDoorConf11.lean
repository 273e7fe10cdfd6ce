/-
  The statements' own function of stage 6: awake.
-/
import Derived.Test.YtkninlahlgipoaaDoorConf10
namespace Go.Proofs.YtkninlahlgipoaaDoor
open Go.RowKit

theorem wpList_load_want {P : Program} {ops : Array Oper} {rest : List Oper} {o : Oper} {a : Act} {w : World} {Q : Exit → Act → World → Prop} (hw : Region.wanted o (yielded ops a.tmps) = true) (ty : TypeId) (x : Operand) (ho : o.op = .load ty x)
    (g : Nat) (hx : a.eval x = .pointer (some ⟨g, 0, none⟩)) (t : TypeId) (cs : Array Value) (fr : Nat × Nat) (d : TypeDesc) (hg : w.heap[g]? = some (.cells cs t fr))
    (hu : P.underlying ty = some d) (hd : (match d with | .struct _ | .array _ _ => true | _ => false) = true) (hi : (P.info? ty).map (·.size) = some cs.size)
    (h : wpList P ops Q rest (a.put o.dst (.agg cs)) w) : wpList P ops Q (o :: rest) a w :=
  BigFrame.wpList_want hw fun _ hK => wp_load_row ty x ho g hx t cs fr d hg hu hd hi (hK _ _ h)

theorem arr_info (c : Cfg) : (Tryd.prog.info? 23).map (·.size) = some c.arr.size := by rw [arr_size]; kernel_rfl
theorem arr_one (c : Cfg) : c.arr.all (·.oneCell') = true := by unfold Cfg.arr Cfg.cells; simp [Value.oneCell']

/-- "rise 4", "zone a", "policy ring". -/
def wakeS : ByteArray := ⟨#[114, 105, 115, 101, 32, 52, 10, 122, 111, 110, 101, 32, 97, 10, 112, 111, 108, 105, 99, 121, 32, 114, 105, 110, 103]⟩
def wakeC : Cfg := { defC with f3 := 4, zone := mkS [97], f20 := 3 }
set_option maxRecDepth 100000 in
theorem wake_parse : parseV wakeS = (wakeC, 0, 0) := by decide +kernel
theorem wake_may : mayC wakeC = true := by decide +kernel
theorem def_may : mayC defC = true := by decide +kernel
theorem text_pos {c : Cfg} (h : mayC c = true) : ∃ b r, textC c = b :: r := by
  rw [textC_may h]
  have e : List.range 23 = 0 :: (List.range 22).map (· + 1) := by decide
  unfold someC
  rw [e, List.flatMap_cons]
  exact ⟨105, _, rfl⟩

theorem wake_facts {w w3 : World} {g : Nat} {A D : Array Value} {o : Array Value} (h : CellsAt w3 g A) (hb : Below w.heap.size w w3) :
    CellsAt ((w3.alloc (.cells o 23 (0, 0))).setRow w3.heap.size D) g A ∧ CellsAt ((w3.alloc (.cells o 23 (0, 0))).setRow w3.heap.size D) w3.heap.size D ∧ Below w.heap.size w ((w3.alloc (.cells o 23 (0, 0))).setRow w3.heap.size D) :=
  ⟨(setRow_other _ _ _ _ (by have := h.lt; omega)).trans (h.alloc _), setRow_heap _ _ _ _ _ _ (heap_alloc_new w3 _), below_setRow (hb.alloc hb.size _) hb.size _⟩

set_option maxRecDepth 100000 in
set_option maxHeartbeats 2000000 in
theorem awake_any (w : World) (ht : Tabs w) :
    Calls Tryd.prog 4 #[] w fun e w' => e = .returned (.bool true) ∧ Below w.heap.size w w' := by
  have HT : Hid (Tabs w) := ht
  have HP := fun W h => parse_any wakeS W h (by decide)
  rw [wake_parse] at HP
  simp only at HP
  have HD := fun W h => default_any W h
  have HM := fun W h => may_any wakeC W h (by decide)
  rw [wake_may] at HM
  obtain ⟨tb, tr, htx⟩ := text_pos def_may
  have HX := fun W h => text_any defC W h (by decide)
  rw [htx] at HX
  have hnx : ((mkS (tb :: tr)).toList == []) = false := by rw [ByteArray.toList_eq]; rfl
  have hnx2 : (mkS (tb :: tr)).toList.isEmpty = false := by rw [ByteArray.toList_eq]; rfl
  generalize mkS (tb :: tr) = TX at HX hnx hnx2
  have HA3 : Hid (wakeC.arr[3]? = some (.int .i64 4)) := rfl
  have HA21 : Hid (wakeC.arr[21]? = some (.string ⟨#[97]⟩)) := rfl
  have HA20 : Hid (wakeC.arr[20]? = some (.int .i64 3)) := rfl
  have HD0 : Hid (defC.arr[0]? = some (.int .i64 100)) := rfl
  have HD15 : Hid (defC.arr[15]? = some (.bool true)) := rfl
  have HI1 : Hid _ := arr_info wakeC
  have HI2 : Hid _ := arr_info defC
  have HO1 : Hid _ := arr_one wakeC
  have HO2 : Hid _ := arr_one defC
  have HS1 : Hid (wakeC.arr.size = 23) := rfl
  have HS2 : Hid (defC.arr.size = 23) := rfl
  unfold wakeS at HP
  clear ht htx
  generalize wakeC.arr = A at HP HM HA3 HA20 HA21 HI1 HO1 HS1
  generalize defC.arr = D at HD HX HD0 HD15 HI2 HO2 HS2
  go_enter Tryd.func4, Tryd.ntmps4
  go_wp2_with fail
  refine (HP _ HT.out.1).mono ?_
  rintro e w1 ⟨rfl, hb⟩
  have HB1 : Hid (Below w.heap.size w w1) := hb
  clear hb HP
  go_wp2_with (first | (refine wpList_store_row rfl 23 (.tmp 1) (.tmp 7) rfl w1.heap.size A rfl rfl 23 _ (heap_alloc_new w1 _) HI1.out HS1.out.symm HO1.out ?_) | fail)
  generalize hW : World.setRow _ _ _ = W2
  have HA2 : Hid (CellsAt W2 w1.heap.size A) := by show CellsAt _ _ _; rw [← hW]; exact setRow_heap (w1.alloc _) _ _ _ _ _ (heap_alloc_new w1 _)
  have HB2 : Hid (Below w.heap.size w W2) := by show Below _ _ _; rw [← hW]; exact below_setRow (HB1.out.alloc HB1.out.size _) HB1.out.size _
  clear hW
  refine (HD _ (HT.out.below HB2.out).1).mono ?_
  rintro e w3 ⟨rfl, hb⟩
  have HA3' : Hid (CellsAt w3 w1.heap.size A) := HA2.out.below hb
  have HB3 : Hid (Below w.heap.size w w3) := HB2.out.trans (hb.mono HB2.out.size)
  clear hb HD HA2 HB2
  have HF := fun o => wake_facts HA3'.out HB3.out (A := A) (D := D) (o := o)
  go_wp2_with (first | (refine wpList_store_row rfl 23 (.tmp 4) (.tmp 10) rfl w3.heap.size D rfl rfl 23 _ (heap_alloc_new w3 _) HI2.out HS2.out.symm HO2.out ?_; obtain ⟨hf1, hf2, hf3⟩ := HF _; generalize World.setRow _ _ _ = W4 at hf1 hf2 hf3 ⊢; have hc3 := hf1.cell.trans HA3.out; have hc21 := hf1.cell.trans HA21.out; have hc20 := hf1.cell.trans HA20.out; have hd0 := hf2.cell.trans HD0.out; have hd15 := hf2.cell.trans HD15.out; have HF1 : Hid _ := hf1; have HF2 : Hid _ := hf2; have HF3 : Hid _ := hf3; clear hf1 hf2 hf3 HF) | (refine wpList_load_want rfl 23 (.tmp 1) rfl w1.heap.size rfl 23 A (0, 0) _ HF1.out Tryd.underlying23 rfl HI1.out ?_) | fail)
  refine (HM _ (HT.out.below HF3.out).1).mono ?_
  rintro e w5 ⟨rfl, hb⟩
  have HF5 : Hid (CellsAt w5 w3.heap.size D) := CellsAt.below HF2.out hb
  have HB5 : Hid (Below w.heap.size w w5) := HF3.out.trans (hb.mono HF3.out.size)
  clear hb HM hc3 hc21 hc20 hd0 hd15
  go_wp2_with (first | (refine wpList_load_want rfl 23 (.tmp 4) rfl w3.heap.size rfl 23 D (0, 0) _ HF5.out Tryd.underlying23 rfl HI2.out ?_) | fail)
  refine (HX _ (HT.out.below HB5.out)).mono ?_
  rintro e w6 ⟨rfl, hb⟩
  have HB6 : Hid (Below w.heap.size w w6) := HB5.out.trans (hb.mono HB5.out.size)
  clear hb HX
  go_wp2
  go_ret
  exact ⟨rfl, HB6.out⟩

end Go.Proofs.YtkninlahlgipoaaDoor

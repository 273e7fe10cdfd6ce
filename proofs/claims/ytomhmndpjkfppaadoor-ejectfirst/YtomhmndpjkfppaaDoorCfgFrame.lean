/-
  What every proof of a tied card of a seat that reaches a configuration's table uses: the tables, as the row lays them; a world for the witness; how a configuration that came in is opened.
-/
import Derived.Test.YtomhmndpjkfppaaDoorConf4
import Derived.Lib.SmallJoins
import Derived.Test.YtomhmndpjkfppaaDoorRows
import Derived.Test.YtomhmndpjkfppaaDoorCards
import Derived.Test.YtomhmndpjkfppaaDoorTie
import Derived.WalkKit
import Derived.ProofKit
import Derived.OpenShut
import Derived.ShutString
import Derived.ChangeOld
import Derived.Below
import Derived.BigQuiet
import Derived.SizedLaws
import Derived.LaidMore
import Derived.Stop.LaidErr
import Derived.Deep.DeepHandedRow
import Derived.Lib.LaidTab
import Derived.Lib.ItoaNum
namespace Go.Proofs.YtomhmndpjkfppaaDoor
open Go.ChangeShapes Go.WideShapes Go.ChangeAt Go.RowKit

theorem own : ownKnob Tryd.prog.godebug = none := by kernel_rfl
theorem laidOut : laidOutB Tryd.prog = true := by kernel_rfl
theorem gTabC : Tryd.prog.globalNamed "triage/config.table" = some 0 := by kernel_rfl
theorem gTabCType : (Tryd.prog.globals[0]?).map (·.type) = some 65 := by kernel_rfl

theorem list5 {l : List Value} (h : l.length = 5) : ∃ v0 v1 v2 v3 v4, l = [v0, v1, v2, v3, v4] := by
  match l, h with
  | [v0, v1, v2, v3, v4], _ => exact ⟨v0, v1, v2, v3, v4, rfl⟩
set_option maxRecDepth 100000 in
/-- A row that reads as told holds what is told. -/
theorem row_of_datum {W : World} {fuel : Nat} {l : List Value} {s z : List UInt8} {k lo hi : Int} {p : List MemPlace}
    (h : DataW.trod (fun _ => ()) Tryd.prog W 0 (fun _ => true) false fuel 64 l = some (.agg [.lit (.string s), .lit (.int .i64 k), .lit (.int .i64 lo), .lit (.int .i64 hi), .lit (.string z)], p)) :
    l = [.string (mkS s), .int .i64 k, .int .i64 lo, .int .i64 hi, .string (mkS z)] := by
  obtain ⟨xs, n, _, hx, hl, hlen, hF⟩ := DataW.trod_struct Tryd.underlying64 h
  obtain ⟨v0, v1, v2, v3, v4, rfl⟩ := list5 (hl.trans c_row)
  have f0 := hF 0 _ rfl
  have f1 := hF 1 _ rfl
  have f2 := hF 2 _ rfl
  have f3 := hF 3 _ rfl
  have f4 := hF 4 _ rfl
  match xs, hlen with
  | [x0, x1, x2, x3, x4], _ =>
    simp only [Prod.mk.injEq, List.map_cons, List.map_nil, DataW.agg.injEq, List.cons.injEq, and_true] at hx
    obtain ⟨⟨e0, e1, e2, e3, e4⟩, _⟩ := hx
    obtain ⟨s0, g0, h0, _⟩ := DataW.trod_string (x := x0) Tryd.underlying9 f0
    obtain ⟨n1, g1, h1, _⟩ := DataW.trod_int (x := x1) Tryd.underlying3 f1
    obtain ⟨n2, g2, h2, _⟩ := DataW.trod_int (x := x2) Tryd.underlying3 f2
    obtain ⟨n3, g3, h3, _⟩ := DataW.trod_int (x := x3) Tryd.underlying3 f3
    obtain ⟨s4, g4, h4, _⟩ := DataW.trod_string (x := x4) Tryd.underlying9 f4
    rw [h0] at e0
    rw [h1] at e1
    rw [h2] at e2
    rw [h3] at e3
    rw [h4] at e4
    simp only [DataW.lit.injEq, Lit.string.injEq, Lit.int.injEq, true_and] at e0 e1 e2 e3 e4
    have k0 : [v0] = [Value.string s0] := g0
    have k1 : [v1] = [Value.int .i64 n1] := g1
    have k2 : [v2] = [Value.int .i64 n2] := g2
    have k3 : [v3] = [Value.int .i64 n3] := g3
    have k4 : [v4] = [Value.string s4] := g4
    simp only [List.cons.injEq, and_true] at k0 k1 k2 k3 k4
    rw [k0, k1, k2, k3, k4, e0, e1, e2, e3, e4, mkS_data, mkS_data]

/-- The datum of the table, row by row. -/
def rowD {H : Type} (i : Nat) : DataW H := .agg [.lit (.string (rowC i).1), .lit (.int .i64 (rowK i).1), .lit (.int .i64 (rowK i).2.1), .lit (.int .i64 (rowK i).2.2.1), .lit (.string (rowK i).2.2.2)]
theorem table_datum {H : Type} : (Rows.laid_triage_config_table : DataW H) = .agg ((List.range 23).map rowD) := rfl
theorem tableC {W : World} (h : laidMetH Tryd.prog [("triage/config.table", Rows.laid_triage_config_table)] W) : TabC W := by
  have h' : laidMet Tryd.prog (("triage/config.table", Rows.laid_triage_config_table) :: []) W := h
  obtain ⟨ps, ⟨g', t', cs, fuel, p, q, hg', ht', hvar, hd, _, _⟩, _⟩ := h'
  obtain rfl := Option.some.inj (gTabC.symm.trans hg')
  obtain rfl := Option.some.inj (gTabCType.symm.trans ht')
  rw [table_datum] at hd
  obtain ⟨xs, m, _, hx, hl, hlen, hF⟩ := DataW.trod_array u_tab hd
  have hcs : cs.toList = tabL := by
    refine list_of_fives 23 (hl.trans c_tab) tabL_length fun i hi => ?_
    rw [tab_row i hi]
    have h1 := hF i hi
    rw [c_row] at h1
    simp only [Prod.mk.injEq, DataW.agg.injEq] at hx
    have h2 : xs[i]? = some (rowD i, (xs[i]'(by omega)).2) := by
      have h3 := congrArg (fun l => l[i]?) hx.1
      simp only [List.getElem?_map, List.getElem?_range hi, Option.map_some] at h3
      rw [List.getElem?_eq_getElem (by omega : i < xs.length)] at h3 ⊢
      simp only [Option.map_some, Option.some.injEq] at h3
      rw [Option.some.injEq]
      exact Prod.ext h3.symm rfl
    rw [h2] at h1
    exact row_of_datum h1
  unfold World.var? at hvar
  rw [gTabC, Option.bind_some] at hvar
  split at hvar
  · rename_i cs' t fr hh
    simp only [Option.some.injEq] at hvar
    refine ⟨t, fr, ?_⟩
    rw [hh, hvar]
    congr 2
    exact Array.toList_inj.1 hcs
  · simp at hvar
theorem table {W : World} (h : laidMetH Tryd.prog [("triage/config.table", Rows.laid_triage_config_table)] W) : TabC W := tableC h

/-- A world for the witness: the settled one, its heap as the program's own text lays the variables. -/
noncomputable def laidWorld (os : Os) : World := World.doorLaid Tryd.prog 37 os
theorem laid_met (os : Os) (args : Array Value) : laidMetH Tryd.prog [("triage/config.table", Rows.laid_triage_config_table)] ((laidWorld os).forCall (fun _ _ => 0) ⟨#[], args, []⟩).memory :=
  laidMet_of_run' 8 (by kernel_rfl) (by kernel_rfl)

theorem list23v {l : List Value} (h : l.length = 23) : ∃ v0 v1 v2 v3 v4 v5 v6 v7 v8 v9 v10 v11 v12 v13 v14 v15 v16 v17 v18 v19 v20 v21 v22, l = [v0, v1, v2, v3, v4, v5, v6, v7, v8, v9, v10, v11, v12, v13, v14, v15, v16, v17, v18, v19, v20, v21, v22] := by
  match l, h with
  | [v0, v1, v2, v3, v4, v5, v6, v7, v8, v9, v10, v11, v12, v13, v14, v15, v16, v17, v18, v19, v20, v21, v22], _ => exact ⟨v0, v1, v2, v3, v4, v5, v6, v7, v8, v9, v10, v11, v12, v13, v14, v15, v16, v17, v18, v19, v20, v21, v22, rfl⟩
theorem c_int : Tryd.prog.cellsOf 3 = 1 := by kernel_rfl
theorem c_bool : Tryd.prog.cellsOf 4 = 1 := by kernel_rfl
theorem c_str : Tryd.prog.cellsOf 9 = 1 := by kernel_rfl
theorem cells_cfg : Tryd.prog.cellsOf 23 = 23 := by kernel_rfl
set_option maxRecDepth 100000 in
/-- A configuration that came in. -/
theorem open_cfg {H : Type} {enc : TypeId × Value → H} {W : World} {r : Reach} {b0 : Nat} {v : Value} {d : DataW H} {p : List MemPlace} (hval : Value.okWide Tryd.prog W r b0 23 v) (h : DataW.Trod enc Tryd.prog W 0 (fun _ => true) true 23 v d p) :
    ∃ c : Cfg, v = .agg c.arr ∧ c.zone.size ≤ 9223372036854775807 := by
  obtain ⟨cs, rfl, _⟩ := okWide_struct Tryd.underlying23 hval
  obtain ⟨fuel, hf⟩ := h
  have hf' : DataW.trod enc Tryd.prog W 0 (fun _ => true) true fuel 23 cs.toList = some (d, p) := hf
  obtain ⟨xs, n, _, hx, hl, hlen, hF⟩ := DataW.trod_struct Tryd.underlying23 hf'
  obtain ⟨v0, v1, v2, v3, v4, v5, v6, v7, v8, v9, v10, v11, v12, v13, v14, v15, v16, v17, v18, v19, v20, v21, v22, hcs⟩ := list23v (hl.trans cells_cfg)
  rw [hcs] at hF
  have hg : ∀ i, i < 23 → ∃ x, xs[i]? = some x := fun i hi => by
    have h23 : xs.length = 23 := hlen
    exact ⟨_, List.getElem?_eq_getElem (by omega)⟩
  obtain ⟨x0, y0⟩ := hg 0 (by omega)
  obtain ⟨n0, g0, _, _⟩ := DataW.trod_int (k := .i64) Tryd.underlying3 ((hF 0 _ rfl).trans y0)
  have e0 : v0 = .int .i64 n0 := by simpa [c_int, c_bool, c_str] using g0
  obtain ⟨x1, y1⟩ := hg 1 (by omega)
  obtain ⟨n1, g1, _, _⟩ := DataW.trod_int (k := .i64) Tryd.underlying3 ((hF 1 _ rfl).trans y1)
  have e1 : v1 = .int .i64 n1 := by simpa [c_int, c_bool, c_str] using g1
  obtain ⟨x2, y2⟩ := hg 2 (by omega)
  obtain ⟨n2, g2, _, _⟩ := DataW.trod_int (k := .i64) Tryd.underlying3 ((hF 2 _ rfl).trans y2)
  have e2 : v2 = .int .i64 n2 := by simpa [c_int, c_bool, c_str] using g2
  obtain ⟨x3, y3⟩ := hg 3 (by omega)
  obtain ⟨n3, g3, _, _⟩ := DataW.trod_int (k := .i64) Tryd.underlying3 ((hF 3 _ rfl).trans y3)
  have e3 : v3 = .int .i64 n3 := by simpa [c_int, c_bool, c_str] using g3
  obtain ⟨x4, y4⟩ := hg 4 (by omega)
  obtain ⟨n4, g4, _, _⟩ := DataW.trod_int (k := .i64) Tryd.underlying3 ((hF 4 _ rfl).trans y4)
  have e4 : v4 = .int .i64 n4 := by simpa [c_int, c_bool, c_str] using g4
  obtain ⟨x5, y5⟩ := hg 5 (by omega)
  obtain ⟨n5, g5, _, _⟩ := DataW.trod_int (k := .i64) Tryd.underlying3 ((hF 5 _ rfl).trans y5)
  have e5 : v5 = .int .i64 n5 := by simpa [c_int, c_bool, c_str] using g5
  obtain ⟨x6, y6⟩ := hg 6 (by omega)
  obtain ⟨n6, g6, _, _⟩ := DataW.trod_int (k := .i64) Tryd.underlying3 ((hF 6 _ rfl).trans y6)
  have e6 : v6 = .int .i64 n6 := by simpa [c_int, c_bool, c_str] using g6
  obtain ⟨x7, y7⟩ := hg 7 (by omega)
  obtain ⟨n7, g7, _, _⟩ := DataW.trod_int (k := .i64) Tryd.underlying3 ((hF 7 _ rfl).trans y7)
  have e7 : v7 = .int .i64 n7 := by simpa [c_int, c_bool, c_str] using g7
  obtain ⟨x8, y8⟩ := hg 8 (by omega)
  obtain ⟨n8, g8, _, _⟩ := DataW.trod_int (k := .i64) Tryd.underlying3 ((hF 8 _ rfl).trans y8)
  have e8 : v8 = .int .i64 n8 := by simpa [c_int, c_bool, c_str] using g8
  obtain ⟨x9, y9⟩ := hg 9 (by omega)
  obtain ⟨n9, g9, _, _⟩ := DataW.trod_int (k := .i64) Tryd.underlying3 ((hF 9 _ rfl).trans y9)
  have e9 : v9 = .int .i64 n9 := by simpa [c_int, c_bool, c_str] using g9
  obtain ⟨x10, y10⟩ := hg 10 (by omega)
  obtain ⟨n10, g10, _, _⟩ := DataW.trod_int (k := .i64) Tryd.underlying3 ((hF 10 _ rfl).trans y10)
  have e10 : v10 = .int .i64 n10 := by simpa [c_int, c_bool, c_str] using g10
  obtain ⟨x11, y11⟩ := hg 11 (by omega)
  obtain ⟨n11, g11, _, _⟩ := DataW.trod_int (k := .i64) Tryd.underlying3 ((hF 11 _ rfl).trans y11)
  have e11 : v11 = .int .i64 n11 := by simpa [c_int, c_bool, c_str] using g11
  obtain ⟨x12, y12⟩ := hg 12 (by omega)
  obtain ⟨n12, g12, _, _⟩ := DataW.trod_int (k := .i64) Tryd.underlying3 ((hF 12 _ rfl).trans y12)
  have e12 : v12 = .int .i64 n12 := by simpa [c_int, c_bool, c_str] using g12
  obtain ⟨x13, y13⟩ := hg 13 (by omega)
  obtain ⟨n13, g13, _, _⟩ := DataW.trod_int (k := .i64) Tryd.underlying3 ((hF 13 _ rfl).trans y13)
  have e13 : v13 = .int .i64 n13 := by simpa [c_int, c_bool, c_str] using g13
  obtain ⟨x14, y14⟩ := hg 14 (by omega)
  obtain ⟨n14, g14, _, _⟩ := DataW.trod_int (k := .i64) Tryd.underlying3 ((hF 14 _ rfl).trans y14)
  have e14 : v14 = .int .i64 n14 := by simpa [c_int, c_bool, c_str] using g14
  obtain ⟨x15, y15⟩ := hg 15 (by omega)
  obtain ⟨n15, g15, _⟩ := DataW.trod_bool Tryd.underlying4 ((hF 15 _ rfl).trans y15)
  have e15 : v15 = .bool n15 := by simpa [c_int, c_bool, c_str] using g15
  obtain ⟨x16, y16⟩ := hg 16 (by omega)
  obtain ⟨n16, g16, _, _⟩ := DataW.trod_int (k := .i64) Tryd.underlying3 ((hF 16 _ rfl).trans y16)
  have e16 : v16 = .int .i64 n16 := by simpa [c_int, c_bool, c_str] using g16
  obtain ⟨x17, y17⟩ := hg 17 (by omega)
  obtain ⟨n17, g17, _, _⟩ := DataW.trod_int (k := .i64) Tryd.underlying3 ((hF 17 _ rfl).trans y17)
  have e17 : v17 = .int .i64 n17 := by simpa [c_int, c_bool, c_str] using g17
  obtain ⟨x18, y18⟩ := hg 18 (by omega)
  obtain ⟨n18, g18, _, _⟩ := DataW.trod_int (k := .i64) Tryd.underlying3 ((hF 18 _ rfl).trans y18)
  have e18 : v18 = .int .i64 n18 := by simpa [c_int, c_bool, c_str] using g18
  obtain ⟨x19, y19⟩ := hg 19 (by omega)
  obtain ⟨n19, g19, _, _⟩ := DataW.trod_int (k := .i64) Tryd.underlying3 ((hF 19 _ rfl).trans y19)
  have e19 : v19 = .int .i64 n19 := by simpa [c_int, c_bool, c_str] using g19
  obtain ⟨x20, y20⟩ := hg 20 (by omega)
  obtain ⟨n20, g20, _, _⟩ := DataW.trod_int (k := .i64) Tryd.underlying3 ((hF 20 _ rfl).trans y20)
  have e20 : v20 = .int .i64 n20 := by simpa [c_int, c_bool, c_str] using g20
  obtain ⟨x21, y21⟩ := hg 21 (by omega)
  obtain ⟨n21, g21, _, hsz⟩ := DataW.trod_string Tryd.underlying9 ((hF 21 _ rfl).trans y21)
  have e21 : v21 = .string n21 := by simpa [c_int, c_bool, c_str] using g21
  obtain ⟨x22, y22⟩ := hg 22 (by omega)
  obtain ⟨n22, g22, _⟩ := DataW.trod_bool Tryd.underlying4 ((hF 22 _ rfl).trans y22)
  have e22 : v22 = .bool n22 := by simpa [c_int, c_bool, c_str] using g22
  refine ⟨⟨n0, n1, n2, n3, n4, n5, n6, n7, n8, n9, n10, n11, n12, n13, n14, n15, n16, n17, n18, n19, n20, n21, n22⟩, ?_, hsz⟩
  congr 1
  apply Array.toList_inj.1
  rw [hcs, e0, e1, e2, e3, e4, e5, e6, e7, e8, e9, e10, e11, e12, e13, e14, e15, e16, e17, e18, e19, e20, e21, e22]
  rfl

end Go.Proofs.YtomhmndpjkfppaaDoor

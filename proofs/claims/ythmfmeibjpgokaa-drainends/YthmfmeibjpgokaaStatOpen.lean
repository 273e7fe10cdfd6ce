/-
  How a status that came in is opened.
-/
import Derived.Test.YthmfmeibjpgokaaStatKit
import Derived.Test.YthmfmeibjpgokaaHostOpen
namespace Go.Proofs.Ythmfmeibjpgokaa
open Go.RowKit Go.ChangeShapes Go.WideShapes

/-- What a status that came in keeps. -/
def okS (s : StatT) : Prop :=
  okHost s.host ∧ (inI s.host.id ∧ inI s.host.prio ∧ inI s.host.weight) ∧ inP s.pr ∧ (inI s.bk.ok ∧ inI s.bk.all) ∧ (inI s.og.from_ ∧ inI s.og.until_ ∧ inI s.og.times) ∧ inI s.errors ∧ inI s.gone ∧ inI s.since ∧ inI s.active

theorem c_sint : Try.prog.cellsOf 3 = 1 := by kernel_rfl
theorem c_sbool : Try.prog.cellsOf 4 = 1 := by kernel_rfl
theorem c_sprobing : Try.prog.cellsOf 26 = 4 := by kernel_rfl
theorem c_sbucket : Try.prog.cellsOf 28 = 2 := by kernel_rfl
theorem c_souting : Try.prog.cellsOf 30 = 4 := by kernel_rfl
theorem c_status : Try.prog.cellsOf 32 = 21 := by kernel_rfl
section
variable {H : Type} {enc : TypeId × Value → H} {W : World}
theorem trod_host {fuel : Nat} {v0 v1 v2 v3 v4 v5 : Value} {d : DataW H} {p : List MemPlace} (h : DataW.trod enc Try.prog W 0 (fun _ => true) true fuel 24 [v0, v1, v2, v3, v4, v5] = some (d, p)) :
    ∃ (c : HostT) (mv : Value) (dm : DataW H), [v0, v1, v2, v3, v4, v5] = [.int .i64 c.id, .string c.addr, .int .i64 c.prio, .string c.zone, .int .i64 c.weight, mv] ∧ okHost c ∧ (inI c.id ∧ inI c.prio ∧ inI c.weight) ∧ IsPairs W mv c.tags ∧ d = hostD c dm ∧ PairsD dm c.tags := by
  obtain ⟨xs, n, _, hx, hl, hlen, hF⟩ := DataW.trod_struct Try.underlying24 h
  match xs, hlen with
  | [x0, x1, x2, x3, x4, x5], _ =>
    obtain ⟨n0, g0, e0, b0⟩ := DataW.trod_int (k := .i64) (x := x0) Try.underlying3 (hF 0 _ rfl)
    obtain ⟨n1, g1, e1, b1⟩ := DataW.trod_string (x := x1) Try.underlying9 (hF 1 _ rfl)
    obtain ⟨n2, g2, e2, b2⟩ := DataW.trod_int (k := .i64) (x := x2) Try.underlying3 (hF 2 _ rfl)
    obtain ⟨n3, g3, e3, b3⟩ := DataW.trod_string (x := x3) Try.underlying9 (hF 3 _ rfl)
    obtain ⟨n4, g4, e4, b4⟩ := DataW.trod_int (k := .i64) (x := x4) Try.underlying3 (hF 4 _ rfl)
    have f5 : DataW.trod enc Try.prog W 0 (fun _ => true) true n 22 [v5] = some x5 := by simpa [c_hint, c_hstr, c_hpairs] using hF 5 _ rfl
    obtain ⟨d5, p5⟩ := x5
    obtain ⟨ps, h5, h6⟩ := open_pairs Try.underlying22 Try.underlying42 (by kernel_rfl) rfl rfl (by kernel_rfl) (by kernel_rfl) Try.underlying9 Try.underlying9 f5
    refine ⟨⟨n0, n1, n2, n3, n4, ps⟩, v5, d5, ?_, ⟨b1, b3⟩, ⟨bounds_i64 b0, bounds_i64 b2, bounds_i64 b4⟩, h5, ?_, h6⟩
    · have k0 : v0 = .int .i64 n0 := by simpa [c_hint, c_hstr] using g0
      have k1 : v1 = .string n1 := by simpa [c_hint, c_hstr] using g1
      have k2 : v2 = .int .i64 n2 := by simpa [c_hint, c_hstr] using g2
      have k3 : v3 = .string n3 := by simpa [c_hint, c_hstr] using g3
      have k4 : v4 = .int .i64 n4 := by simpa [c_hint, c_hstr] using g4
      rw [k0, k1, k2, k3, k4]
    · have := (Prod.ext_iff.1 hx).1
      simp only at this
      rw [this]
      simp only [hostD, List.map_cons, List.map_nil]
      rw [e0, e1, e2, e3, e4]
theorem trod_probe {fuel : Nat} {v0 v1 v2 v3 : Value} {x : DataW H × List MemPlace} (h : DataW.trod enc Try.prog W 0 (fun _ => true) true fuel 26 [v0, v1, v2, v3] = some x) : ∃ q : ProbeT, [v0, v1, v2, v3] = [.bool q.up, .int .i64 q.run, .int .i64 q.forced, .int .i64 q.wait] ∧ inP q := by
  obtain ⟨d, p⟩ := x
  obtain ⟨xs, n, _, hx, hl, hlen, hF⟩ := DataW.trod_struct Try.underlying26 h
  match xs, hlen with
  | [x0, x1, x2, x3], _ =>
    obtain ⟨q0, g0, _⟩ := DataW.trod_bool (x := x0) Try.underlying4 (hF 0 _ rfl)
    obtain ⟨n1, g1, _, b1⟩ := DataW.trod_int (k := .i64) (x := x1) Try.underlying3 (hF 1 _ rfl)
    obtain ⟨n2, g2, _, b2⟩ := DataW.trod_int (k := .i64) (x := x2) Try.underlying3 (hF 2 _ rfl)
    obtain ⟨n3, g3, _, b3⟩ := DataW.trod_int (k := .i64) (x := x3) Try.underlying3 (hF 3 _ rfl)
    have k0 : v0 = .bool q0 := by simpa [c_sint, c_sbool] using g0
    have k1 : v1 = .int .i64 n1 := by simpa [c_sint, c_sbool] using g1
    have k2 : v2 = .int .i64 n2 := by simpa [c_sint, c_sbool] using g2
    have k3 : v3 = .int .i64 n3 := by simpa [c_sint, c_sbool] using g3
    exact ⟨⟨q0, n1, n2, n3⟩, by rw [k0, k1, k2, k3], bounds_i64 b1, bounds_i64 b2, bounds_i64 b3⟩
theorem trod_bucket {fuel : Nat} {v0 v1 : Value} {x : DataW H × List MemPlace} (h : DataW.trod enc Try.prog W 0 (fun _ => true) true fuel 28 [v0, v1] = some x) : ∃ q : Bk, [v0, v1] = [.int .i64 q.ok, .int .i64 q.all] ∧ inI q.ok ∧ inI q.all := by
  obtain ⟨d, p⟩ := x
  obtain ⟨xs, n, _, hx, hl, hlen, hF⟩ := DataW.trod_struct Try.underlying28 h
  match xs, hlen with
  | [x0, x1], _ =>
    obtain ⟨n0, g0, _, b0⟩ := DataW.trod_int (k := .i64) (x := x0) Try.underlying3 (hF 0 _ rfl)
    obtain ⟨n1, g1, _, b1⟩ := DataW.trod_int (k := .i64) (x := x1) Try.underlying3 (hF 1 _ rfl)
    have k0 : v0 = .int .i64 n0 := by simpa [c_sint, c_sbool] using g0
    have k1 : v1 = .int .i64 n1 := by simpa [c_sint, c_sbool] using g1
    exact ⟨⟨n0, n1⟩, by rw [k0, k1], bounds_i64 b0, bounds_i64 b1⟩
theorem trod_outing {fuel : Nat} {v0 v1 v2 v3 : Value} {x : DataW H × List MemPlace} (h : DataW.trod enc Try.prog W 0 (fun _ => true) true fuel 30 [v0, v1, v2, v3] = some x) : ∃ q : Og, [v0, v1, v2, v3] = [.bool q.out, .int .i64 q.from_, .int .i64 q.until_, .int .i64 q.times] ∧ inI q.from_ ∧ inI q.until_ ∧ inI q.times := by
  obtain ⟨d, p⟩ := x
  obtain ⟨xs, n, _, hx, hl, hlen, hF⟩ := DataW.trod_struct Try.underlying30 h
  match xs, hlen with
  | [x0, x1, x2, x3], _ =>
    obtain ⟨q0, g0, _⟩ := DataW.trod_bool (x := x0) Try.underlying4 (hF 0 _ rfl)
    obtain ⟨n1, g1, _, b1⟩ := DataW.trod_int (k := .i64) (x := x1) Try.underlying3 (hF 1 _ rfl)
    obtain ⟨n2, g2, _, b2⟩ := DataW.trod_int (k := .i64) (x := x2) Try.underlying3 (hF 2 _ rfl)
    obtain ⟨n3, g3, _, b3⟩ := DataW.trod_int (k := .i64) (x := x3) Try.underlying3 (hF 3 _ rfl)
    have k0 : v0 = .bool q0 := by simpa [c_sint, c_sbool] using g0
    have k1 : v1 = .int .i64 n1 := by simpa [c_sint, c_sbool] using g1
    have k2 : v2 = .int .i64 n2 := by simpa [c_sint, c_sbool] using g2
    have k3 : v3 = .int .i64 n3 := by simpa [c_sint, c_sbool] using g3
    exact ⟨⟨q0, n1, n2, n3⟩, by rw [k0, k1, k2, k3], bounds_i64 b1, bounds_i64 b2, bounds_i64 b3⟩

theorem list21v {l : List Value} (h : l.length = 21) : ∃ v0 v1 v2 v3 v4 v5 v6 v7 v8 v9 v10 v11 v12 v13 v14 v15 v16 v17 v18 v19 v20, l = [v0, v1, v2, v3, v4, v5, v6, v7, v8, v9, v10, v11, v12, v13, v14, v15, v16, v17, v18, v19, v20] := by
  match l, h with
  | [v0, v1, v2, v3, v4, v5, v6, v7, v8, v9, v10, v11, v12, v13, v14, v15, v16, v17, v18, v19, v20], _ => exact ⟨v0, v1, v2, v3, v4, v5, v6, v7, v8, v9, v10, v11, v12, v13, v14, v15, v16, v17, v18, v19, v20, rfl⟩
theorem trod_status {fuel : Nat} {l : List Value} {d : DataW H} {p : List MemPlace} (h : DataW.trod enc Try.prog W 0 (fun _ => true) true fuel 32 l = some (d, p)) :
    ∃ (s : StatT) (mv : Value) (dm : DataW H) (ds : List (DataW H)), l = (s.arr mv).toList ∧ okS s ∧ IsPairs W mv s.host.tags ∧ d = .agg (hostD s.host dm :: ds) ∧ PairsD dm s.host.tags := by
  obtain ⟨xs, n, _, hx, hl, hlen, hF⟩ := DataW.trod_struct Try.underlying32 h
  obtain ⟨v0, v1, v2, v3, v4, v5, v6, v7, v8, v9, v10, v11, v12, v13, v14, v15, v16, v17, v18, v19, v20, rfl⟩ := list21v (hl.trans c_status)
  match xs, hlen with
  | [x0, x1, x2, x3, x4, x5, x6, x7, x8], _ =>
    have f0 : DataW.trod enc Try.prog W 0 (fun _ => true) true n 24 [v0, v1, v2, v3, v4, v5] = some x0 := by simpa [cells_host] using hF 0 _ rfl
    have f1 : DataW.trod enc Try.prog W 0 (fun _ => true) true n 26 [v6, v7, v8, v9] = some x1 := by simpa [c_sprobing] using hF 1 _ rfl
    have f3 : DataW.trod enc Try.prog W 0 (fun _ => true) true n 28 [v11, v12] = some x3 := by simpa [c_sbucket] using hF 3 _ rfl
    have f4 : DataW.trod enc Try.prog W 0 (fun _ => true) true n 30 [v13, v14, v15, v16] = some x4 := by simpa [c_souting] using hF 4 _ rfl
    obtain ⟨n2, g2, _, b2⟩ := DataW.trod_int (k := .i64) (x := x2) Try.underlying3 (hF 2 _ rfl)
    obtain ⟨q5, g5, _⟩ := DataW.trod_bool (x := x5) Try.underlying4 (hF 5 _ rfl)
    obtain ⟨n6, g6, _, b6⟩ := DataW.trod_int (k := .i64) (x := x6) Try.underlying3 (hF 6 _ rfl)
    obtain ⟨n7, g7, _, b7⟩ := DataW.trod_int (k := .i64) (x := x7) Try.underlying3 (hF 7 _ rfl)
    obtain ⟨n8, g8, _, b8⟩ := DataW.trod_int (k := .i64) (x := x8) Try.underlying3 (hF 8 _ rfl)
    have k2 : v10 = .int .i64 n2 := by simpa [c_sint, c_sbool] using g2
    have k5 : v17 = .bool q5 := by simpa [c_sint, c_sbool] using g5
    have k6 : v18 = .int .i64 n6 := by simpa [c_sint, c_sbool] using g6
    have k7 : v19 = .int .i64 n7 := by simpa [c_sint, c_sbool] using g7
    have k8 : v20 = .int .i64 n8 := by simpa [c_sint, c_sbool] using g8
    obtain ⟨d0, p0⟩ := x0
    obtain ⟨c, mv, dm, k0, hc1, hc2, hc3, hd, hpd⟩ := trod_host f0
    obtain ⟨q, k1, hq⟩ := trod_probe f1
    obtain ⟨b, k3, hb⟩ := trod_bucket f3
    obtain ⟨g, k4, hg⟩ := trod_outing f4
    simp only [List.cons.injEq, and_true] at k0 k1 k3 k4
    obtain ⟨rfl, rfl, rfl, rfl, rfl, rfl⟩ := k0
    obtain ⟨rfl, rfl, rfl, rfl⟩ := k1
    obtain ⟨rfl, rfl⟩ := k3
    obtain ⟨rfl, rfl, rfl, rfl⟩ := k4
    subst k2 k5 k6 k7 k8
    refine ⟨⟨c, q, n2, b, g, q5, n6, n7, n8⟩, v5, dm, [x1.1, x2.1, x3.1, x4.1, x5.1, x6.1, x7.1, x8.1], rfl, ⟨hc1, hc2, hq, hb, hg, bounds_i64 b2, bounds_i64 b6, bounds_i64 b7, bounds_i64 b8⟩, hc3, ?_, hpd⟩
    have := (Prod.ext_iff.1 hx).1
    simp only at this
    rw [this]
    simp only [List.map_cons, List.map_nil]
    rw [hd]
theorem open_status {r : Reach} {b0 : Nat} {v : Value} {d : DataW H} {p : List MemPlace} (hvl : Value.okWide Try.prog W r b0 32 v) (h : DataW.Trod enc Try.prog W 0 (fun _ => true) true 32 v d p) :
    ∃ (s : StatT) (mv : Value) (dm : DataW H) (ds : List (DataW H)), v = .agg (s.arr mv) ∧ okS s ∧ IsPairs W mv s.host.tags ∧ d = .agg (hostD s.host dm :: ds) ∧ PairsD dm s.host.tags := by
  obtain ⟨cs, rfl, _⟩ := okWide_struct Try.underlying32 hvl
  obtain ⟨fuel, hf⟩ := h
  have hf' : DataW.trod enc Try.prog W 0 (fun _ => true) true fuel 32 cs.toList = some (d, p) := hf
  obtain ⟨s, mv, dm, ds, h1, h2, h3, h4, h5⟩ := trod_status hf'
  exact ⟨s, mv, dm, ds, congrArg Value.agg (Array.toList_inj.1 h1), h2, h3, h4, h5⟩
theorem sized_status {ts : List TypeId} {ds : List (DataW H)} (h : (DataW.weightsEach Try.prog ts ds).all (· ≤ reachBytes) = true) {j : Nat} {c : HostT} {dm : DataW H} {dd : List (DataW H)} (ht : ts[j]? = some 32) (hd : ds[j]? = some (.agg (hostD c dm :: dd))) (hp : PairsD dm c.tags) : c.tags.length ≤ 4398046510976 := by
  rcases hp with ⟨rfl, e⟩ | ⟨sp, rfl⟩
  · rw [e]; simp
  · have := List.all_eq_true.1 h _ (DataW.weights_mem_each ht hd ((c.tags.length + sp.length) * 32) (by simp [hostD, DataW.weights, DataW.weightsEach, Try.underlying32, Try.underlying24, Try.underlying22, bytes_pair]))
    rw [decide_eq_true_eq] at this
    simp only [reachBytes] at this
    omega
end

end Go.Proofs.Ythmfmeibjpgokaa

/-
  The reference's answers to chapter 16: SameOne.
-/
import Derived.Test.YthmfmeibjpgokaaStatEq
import Derived.Test.YthmfmeibjpgokaaRefHost
import Derived.WalkSmall
import Derived.BigQuiet
import Derived.Deep.CutRange
namespace Go.Proofs.Ythmfmeibjpgokaa
open Go.RowKit

def sameS (a b : StatT) : Bool := decide (a = b)
theorem sameS_parts (a b : StatT) : sameS a b = (sameH a.host b.host && decide (a.pr = b.pr) && (a.errors == b.errors) && decide (a.bk = b.bk) && decide (a.og = b.og) && (a.drains == b.drains) && (a.gone == b.gone) && (a.since == b.since) && (a.active == b.active)) := by
  rw [Bool.eq_iff_iff]
  obtain ⟨a1, a2, a3, a4, a5, a6, a7, a8, a9⟩ := a
  obtain ⟨b1, b2, b3, b4, b5, b6, b7, b8, b9⟩ := b
  unfold sameS sameH
  simp [and_assoc]
theorem sizeProbing : (Try.prog.info? 26).map (·.size) = some 4 := by kernel_rfl
theorem sizeBucketS : (Try.prog.info? 28).map (·.size) = some 2 := by kernel_rfl
theorem sizeOutingS : (Try.prog.info? 30).map (·.size) = some 4 := by kernel_rfl
theorem sameS_refl (a : StatT) : sameS a a = true := decide_eq_true rfl

set_option maxRecDepth 100000 in
set_option maxHeartbeats 8000000 in
theorem rSameOne_same (a : StatT) (mv nv : Value) (w : World) (hm : IsPairs w mv a.host.tags) (hn : IsPairs w nv a.host.tags) :
    Calls Try.prog 9 #[.agg (a.arr mv), .agg (a.arr nv)] w fun e w' => e = .returned (.bool true) ∧ Below w.heap.size w w' := by
  have HM : Hid (IsPairs w mv a.host.tags) := hm
  have HN : Hid (IsPairs w nv a.host.tags) := hn
  clear hm hn
  have K : Hid (∀ W : World, IsPairs W mv a.host.tags → IsPairs W nv a.host.tags → Calls Try.prog 14 #[hval a.host mv, hval a.host nv] W fun e w' => e = .returned (.bool true) ∧ Below W.heap.size W w') := fun W H1 H2 => by
    have := rSameHost_any a.host a.host mv nv W H1 H2
    rwa [show sameH a.host a.host = true from decide_eq_true rfl] at this
  have E1 : Hid (∀ W : World, (binOp .eql 26 (.agg #[.bool a.pr.up, .int .i64 a.pr.run, .int .i64 a.pr.forced, .int .i64 a.pr.wait]) (.agg #[.bool a.pr.up, .int .i64 a.pr.run, .int .i64 a.pr.forced, .int .i64 a.pr.wait])).run Try.prog W = .ok (.bool true) W) := fun W => by rw [run_eqPr a.pr a.pr, decide_eq_true rfl]
  have E3 : Hid (∀ W : World, (binOp .eql 28 (.agg #[.int .i64 a.bk.ok, .int .i64 a.bk.all]) (.agg #[.int .i64 a.bk.ok, .int .i64 a.bk.all])).run Try.prog W = .ok (.bool true) W) := fun W => by rw [run_eqBu a.bk a.bk, decide_eq_true rfl]
  have E4 : Hid (∀ W : World, (binOp .eql 30 (.agg #[.bool a.og.out, .int .i64 a.og.from_, .int .i64 a.og.until_, .int .i64 a.og.times]) (.agg #[.bool a.og.out, .int .i64 a.og.from_, .int .i64 a.og.until_, .int .i64 a.og.times])).run Try.prog W = .ok (.bool true) W) := fun W => by rw [run_eqOu a.og a.og, decide_eq_true rfl]
  go_enter Try.func9, Try.ntmps9
  go_upto_region 1 with fail
  generalize hW0 : (w.alloc _).alloc _ = W0
  have HX0 : Hid (HasBox W0 w.heap.size 32 (a.arr mv)) := by show HasBox _ _ _ _; rw [← hW0]; exact (hasBox_new w _ _).alloc _
  have HY0 : Hid (HasBox W0 (w.heap.size + 1) 32 (a.arr nv)) := by show HasBox _ _ _ _; rw [← hW0]; exact hasBox_new' (w.alloc _) _ _ _ (by simp)
  have HB0 : Hid (Below w.heap.size w W0) := by show Below _ _ _; rw [← hW0]; exact ((Below.refl _ _).alloc (Nat.le_refl _) _).alloc (by simp) _
  clear hW0
  go_wp2_with (first | (refine wpList_load_part rfl 24 (.tmp 5) rfl w.heap.size 0 rfl _ _ (st_host a mv HX0.out) Try.underlying24 rfl sizeHost ?_) | (refine wpList_load_part rfl 24 (.tmp 7) rfl (w.heap.size + 1) 0 rfl _ _ (st_host a nv HY0.out) Try.underlying24 rfl sizeHost ?_) | fail)
  refine (K.out _ (HM.out.below HB0.out) (HN.out.below HB0.out)).mono ?_
  rintro e w1 ⟨rfl, hb⟩
  have HX1 : Hid (HasBox w1 w.heap.size 32 (a.arr mv)) := HX0.out.below hb
  have HY1 : Hid (HasBox w1 (w.heap.size + 1) 32 (a.arr nv)) := HY0.out.below hb
  have HB1 : Hid (Below w.heap.size w w1) := HB0.out.trans (hb.mono HB0.out.size)
  clear hb HX0 HY0 HB0
  have e1 := E1.out
  have g1 := guard_Pr
  have x2 : w1.cell? ⟨w.heap.size, 10, none⟩ = some (.int .i64 a.errors) := HX1.out.cell 10
  have y2 : w1.cell? ⟨w.heap.size + 1, 10, none⟩ = some (.int .i64 a.errors) := HY1.out.cell 10
  have e3 := E3.out
  have g3 := guard_Bu
  have e4 := E4.out
  have g4 := guard_Ou
  have x5 : w1.cell? ⟨w.heap.size, 17, none⟩ = some (.bool a.drains) := HX1.out.cell 17
  have y5 : w1.cell? ⟨w.heap.size + 1, 17, none⟩ = some (.bool a.drains) := HY1.out.cell 17
  have x6 : w1.cell? ⟨w.heap.size, 18, none⟩ = some (.int .i64 a.gone) := HX1.out.cell 18
  have y6 : w1.cell? ⟨w.heap.size + 1, 18, none⟩ = some (.int .i64 a.gone) := HY1.out.cell 18
  have x7 : w1.cell? ⟨w.heap.size, 19, none⟩ = some (.int .i64 a.since) := HX1.out.cell 19
  have y7 : w1.cell? ⟨w.heap.size + 1, 19, none⟩ = some (.int .i64 a.since) := HY1.out.cell 19
  have x8 : w1.cell? ⟨w.heap.size, 20, none⟩ = some (.int .i64 a.active) := HX1.out.cell 20
  have y8 : w1.cell? ⟨w.heap.size + 1, 20, none⟩ = some (.int .i64 a.active) := HY1.out.cell 20
  go_wp2_with (first | (refine wpList_load_part (by first | rfl | (simp [Region.wanted, yielded]; done)) 26 (.tmp 11) rfl (w.heap.size) 6 rfl _ _ (st_probe a mv HX1.out) Try.underlying26 rfl sizeProbing ?_) | (refine wpList_load_part (by first | rfl | (simp [Region.wanted, yielded]; done)) 26 (.tmp 13) rfl (w.heap.size + 1) 6 rfl _ _ (st_probe a nv HY1.out) Try.underlying26 rfl sizeProbing ?_) | (refine wpList_load_part (by first | rfl | (simp [Region.wanted, yielded]; done)) 28 (.tmp 25) rfl (w.heap.size) 11 rfl _ _ (st_bucket a mv HX1.out) Try.underlying28 rfl sizeBucketS ?_) | (refine wpList_load_part (by first | rfl | (simp [Region.wanted, yielded]; done)) 28 (.tmp 27) rfl (w.heap.size + 1) 11 rfl _ _ (st_bucket a nv HY1.out) Try.underlying28 rfl sizeBucketS ?_) | (refine wpList_load_part (by first | rfl | (simp [Region.wanted, yielded]; done)) 30 (.tmp 32) rfl (w.heap.size) 13 rfl _ _ (st_outing a mv HX1.out) Try.underlying30 rfl sizeOutingS ?_) | (refine wpList_load_part (by first | rfl | (simp [Region.wanted, yielded]; done)) 30 (.tmp 34) rfl (w.heap.size + 1) 13 rfl _ _ (st_outing a nv HY1.out) Try.underlying30 rfl sizeOutingS ?_) | fail)
  go_ret
  exact ⟨rfl, HB1.out⟩

end Go.Proofs.Ythmfmeibjpgokaa

/-
  Contracts of package drain: Begin.
-/
import Derived.Test.YthmfmeibjpgokaaDrain1
import Derived.Laws.ResultCell
namespace Go.Proofs.Ythmfmeibjpgokaa
open Go.RowKit

theorem sizeBucket : (Try.prog.info? 28).map (·.size) = some 2 := by kernel_rfl
theorem sizeOuting : (Try.prog.info? 30).map (·.size) = some 4 := by kernel_rfl
theorem one_bk (a b : Int) : (#[.int .i64 a, .int .i64 b] : Array Value).all (·.oneCell') = true := by simp [Value.oneCell']
theorem one_og (q : Bool) (a b c : Int) : (#[.bool q, .int .i64 a, .int .i64 b, .int .i64 c] : Array Value).all (·.oneCell') = true := by simp [Value.oneCell']
theorem st_setHost (s : StatT) (mv mv' : Value) : setsA (s.arr mv) 0 [.int .i64 s.host.id, .string s.host.addr, .int .i64 s.host.prio, .string s.host.zone, .int .i64 s.host.weight, mv'] = s.arr mv' := rfl

set_option maxRecDepth 100000 in
set_option maxHeartbeats 4000000 in
theorem dBegin_any (s : StatT) (mv : Value) (now span : Int) (w : World) (hm : IsPairs w mv s.host.tags) (hlen : s.host.tags.length ≤ maxRow) :
    Calls Try.prog 7 #[.agg (s.arr mv), .int .i64 now, .int .i64 span] w fun e w' => ∃ mv', e = .returned (.agg ((beginD s now span).arr mv')) ∧ w'.ownsRow w.heap.size 42 2 mv' s.host.tags.length (pairCells s.host.tags) ∧ Below w.heap.size w w' := by
  have HM : Hid (IsPairs w mv s.host.tags) := hm
  have HL : Hid (s.host.tags.length ≤ maxRow) := hlen
  have HT : Hid (∀ W : World, Calls Try.prog 12 #[.int .i64 now, .int .i64 span] W fun e w' => e = .returned (.int .i64 (laterD now span)) ∧ w' = W) := later_any now span
  have HE : Hid (beginD s now span = if s.drains = true then s else ⟨s.host, ⟨s.pr.up, s.pr.run, s.pr.forced, 0⟩, 0, ⟨0, 0⟩, noOg, true, laterD now span, s.since, s.active⟩) := rfl
  generalize beginD s now span = r at HE ⊢
  generalize laterD now span = gone at HT HE
  clear hm hlen
  go_enter Try.func7, Try.ntmps7
  go_upto_region 1 with fail
  generalize hW0 : (w.alloc _).alloc _ = W0
  have HX0 : Hid (HasBox W0 w.heap.size 32 (s.arr mv)) := by show HasBox _ _ _ _; rw [← hW0]; exact (hasBox_new w _ _).alloc _
  have HY0 : Hid (HasBox W0 (w.heap.size + 1) 32 (noStat.arr nilW)) := by show HasBox _ _ _ _; rw [← hW0]; exact hasBox_new' (w.alloc _) _ _ _ (by simp)
  have HB0 : Hid (Below w.heap.size w W0) := by show Below _ _ _; rw [← hW0]; exact ((Below.refl _ _).alloc (Nat.le_refl _) _).alloc (by simp) _
  have HZ0 : Hid (w.heap.size + 2 ≤ W0.heap.size) := by show _ ≤ _; rw [← hW0]; simp
  clear hW0
  go_wp2_with (first | (refine wpList_load_part rfl 24 (.tmp 7) rfl w.heap.size 0 rfl _ _ (st_host s mv HX0.out) Try.underlying24 rfl sizeHost ?_) | fail)
  refine (copy_any s.host mv _ (HM.out.below HB0.out) HL.out).mono ?_
  rintro e w1 ⟨mv', rfl, hown, hb⟩
  obtain ⟨ao, c, rfl⟩ := (isRow_own hown).shaped
  have HX1 : Hid (HasBox w1 w.heap.size 32 (s.arr mv)) := HX0.out.below hb
  have HY1 : Hid (HasBox w1 (w.heap.size + 1) 32 (noStat.arr nilW)) := HY0.out.below hb
  have HO1 : Hid (w1.ownsRow (w.heap.size + 2) 42 2 (.slice ao s.host.tags.length c) s.host.tags.length (pairCells s.host.tags)) := own_from hown HZ0.out
  have HB1 : Hid (Below w.heap.size w w1) := HB0.out.trans (hb.mono HB0.out.size)
  clear hown hb HX0 HY0 HB0 HZ0
  go_upto_region 2 with (first | (refine wpList_store_mid rfl 24 (.tmp 10) (.tmp 9) rfl w.heap.size 0 (hcells s.host (.slice ao s.host.tags.length c)) rfl rfl (HX1.out.there (by rw [st_size]; simp)) sizeHost (one_host _ _ _ _) ?_) | fail)
  generalize hW2 : World.setCells _ _ _ _ = W2
  have HX2 : Hid (HasBox W2 w.heap.size 32 (s.arr (.slice ao s.host.tags.length c))) := by show HasBox _ _ _ _; rw [← hW2, ← st_setHost s mv]; exact HX1.out.sets _ _
  have HY2 : Hid (HasBox W2 (w.heap.size + 1) 32 (noStat.arr nilW)) := by show HasBox _ _ _ _; rw [← hW2]; exact HY1.out.setsOther (by omega) _ _
  have HO2 : Hid (W2.ownsRow (w.heap.size + 2) 42 2 (.slice ao s.host.tags.length c) s.host.tags.length (pairCells s.host.tags)) := by show World.ownsRow _ _ _ _ _ _ _; rw [← hW2]; exact own_on HO1.out fun g hg _ => heap_sets (by omega) _ _ _
  have HB2 : Hid (Below w.heap.size w W2) := by show Below _ _ _; rw [← hW2]; exact below_sets (Nat.le_refl _) _ _ HB1.out
  clear hW2 HX1 HY1 HO1 HB1
  generalize hd : s.drains = dr at HE
  have HD : Hid (s.drains = dr) := hd
  clear hd
  have c17 : W2.cell? ⟨w.heap.size, 17, none⟩ = some (.bool dr) := by rw [← HD.out]; exact HX2.out.cell 17
  cases dr with
  | true =>
    have e : r = s := HE.out
    subst r
    go_wp2_with (first | (refine wpList_load_all rfl 32 (.tmp 3) rfl w.heap.size rfl 32 _ _ HX2.out Try.underlying32 rfl (st_inf _ _) ?_) | (refine wpList_store_row rfl 32 (.tmp 6) (.tmp 13) rfl (w.heap.size + 1) (s.arr (.slice ao s.host.tags.length c)) rfl rfl 32 _ HY2.out (st_inf _ _) rfl (st_one _ _ _ _) ?_) | fail)
    refine bodyPost_ret (results_cell_row rfl _ _ (w.heap.size + 1) 32 (s.arr (.slice ao s.host.tags.length c)) _ _ rfl (HY2.out.row) Try.underlying32 rfl (st_inf _ _)) rfl ?_
    refine ⟨.slice ao s.host.tags.length c, rfl, ?_, below_setRow HB2.out (by omega) _⟩
    refine own_from (own_on HO2.out fun g hg _ => ?_) (by omega)
    rw [setRow_other _ _ _ _ (by omega)]
  | false =>
    have e : r = _ := HE.out
    subst r
    have f17 : W2.frozen? ⟨w.heap.size, 17, none⟩ = false := HX2.out.frozen 17
    go_upto_region 5 with fail
    generalize hW : World.setCell _ _ _ = W4
    have HX4 : Hid (HasBox W4 w.heap.size 32 ((⟨s.host, s.pr, s.errors, s.bk, s.og, true, s.gone, s.since, s.active⟩ : StatT).arr (.slice ao s.host.tags.length c))) := by show HasBox _ _ _ _; rw [← hW]; exact HX2.out.set 17 _
    have HY4 : Hid (HasBox W4 (w.heap.size + 1) 32 (noStat.arr nilW)) := by show HasBox _ _ _ _; rw [← hW]; exact HY2.out.setOther _ (by simp) _
    have HO4 : Hid (W4.ownsRow (w.heap.size + 2) 42 2 (.slice ao s.host.tags.length c) s.host.tags.length (pairCells s.host.tags)) := by show World.ownsRow _ _ _ _ _ _ _; rw [← hW]; exact own_on HO2.out fun g hg _ => heap_setCell _ _ _ (by simp; omega)
    have HB4 : Hid (Below w.heap.size w W4) := by show Below _ _ _; rw [← hW]; exact HB2.out.setCell (by simp) _
    clear hW HX2 HY2 HO2 HB2
    clear c17 f17
    have c18 : W4.cell? ⟨w.heap.size, 18, none⟩ = some (.int .i64 s.gone) := HX4.out.cell 18
    have f18 : W4.frozen? ⟨w.heap.size, 18, none⟩ = false := HX4.out.frozen 18
    go_wp2_with fail
    refine (HT.out _).mono ?_
    rintro e w5 ⟨rfl, hw⟩
    subst w5
    go_upto_region 6 with fail
    generalize hW : World.setCell _ _ _ = W5
    have HX5 : Hid (HasBox W5 w.heap.size 32 ((⟨s.host, s.pr, s.errors, s.bk, s.og, true, gone, s.since, s.active⟩ : StatT).arr (.slice ao s.host.tags.length c))) := by show HasBox _ _ _ _; rw [← hW]; exact HX4.out.set 18 _
    have HY5 : Hid (HasBox W5 (w.heap.size + 1) 32 (noStat.arr nilW)) := by show HasBox _ _ _ _; rw [← hW]; exact HY4.out.setOther _ (by simp) _
    have HO5 : Hid (W5.ownsRow (w.heap.size + 2) 42 2 (.slice ao s.host.tags.length c) s.host.tags.length (pairCells s.host.tags)) := by show World.ownsRow _ _ _ _ _ _ _; rw [← hW]; exact own_on HO4.out fun g hg _ => heap_setCell _ _ _ (by simp; omega)
    have HB5 : Hid (Below w.heap.size w W5) := by show Below _ _ _; rw [← hW]; exact HB4.out.setCell (by simp) _
    clear hW HX4 HY4 HO4 HB4
    clear c18 f18
    have c10 : W5.cell? ⟨w.heap.size, 10, none⟩ = some (.int .i64 s.errors) := HX5.out.cell 10
    have f10 : W5.frozen? ⟨w.heap.size, 10, none⟩ = false := HX5.out.frozen 10
    go_upto_region 7 with fail
    generalize hW : World.setCell _ _ _ = W6
    have HX6 : Hid (HasBox W6 w.heap.size 32 ((⟨s.host, s.pr, 0, s.bk, s.og, true, gone, s.since, s.active⟩ : StatT).arr (.slice ao s.host.tags.length c))) := by show HasBox _ _ _ _; rw [← hW]; exact HX5.out.set 10 _
    have HY6 : Hid (HasBox W6 (w.heap.size + 1) 32 (noStat.arr nilW)) := by show HasBox _ _ _ _; rw [← hW]; exact HY5.out.setOther _ (by simp) _
    have HO6 : Hid (W6.ownsRow (w.heap.size + 2) 42 2 (.slice ao s.host.tags.length c) s.host.tags.length (pairCells s.host.tags)) := by show World.ownsRow _ _ _ _ _ _ _; rw [← hW]; exact own_on HO5.out fun g hg _ => heap_setCell _ _ _ (by simp; omega)
    have HB6 : Hid (Below w.heap.size w W6) := by show Below _ _ _; rw [← hW]; exact HB5.out.setCell (by simp) _
    clear hW HX5 HY5 HO5 HB5
    clear c10 f10
    go_upto_region 8 with (first | (refine wpList_store_mid rfl 28 (.tmp 21) (.tmp 20) rfl w.heap.size 11 #[.int .i64 0, .int .i64 0] rfl rfl (HX6.out.there (by rw [st_size]; simp)) sizeBucket (one_bk _ _) ?_) | fail)
    generalize hW : World.setCells _ _ _ _ = W7
    have HX7 : Hid (HasBox W7 w.heap.size 32 ((⟨s.host, s.pr, 0, ⟨0, 0⟩, s.og, true, gone, s.since, s.active⟩ : StatT).arr (.slice ao s.host.tags.length c))) := by show HasBox _ _ _ _; rw [← hW]; exact HX6.out.sets _ _
    have HY7 : Hid (HasBox W7 (w.heap.size + 1) 32 (noStat.arr nilW)) := by show HasBox _ _ _ _; rw [← hW]; exact HY6.out.setsOther (by omega) _ _
    have HO7 : Hid (W7.ownsRow (w.heap.size + 2) 42 2 (.slice ao s.host.tags.length c) s.host.tags.length (pairCells s.host.tags)) := by show World.ownsRow _ _ _ _ _ _ _; rw [← hW]; exact own_on HO6.out fun g hg _ => heap_sets (by omega) _ _ _
    have HB7 : Hid (Below w.heap.size w W7) := by show Below _ _ _; rw [← hW]; exact below_sets (Nat.le_refl _) _ _ HB6.out
    clear hW HX6 HY6 HO6 HB6
    go_upto_region 9 with (first | (refine wpList_store_mid rfl 30 (.tmp 23) (.tmp 22) rfl w.heap.size 13 #[.bool false, .int .i64 0, .int .i64 0, .int .i64 0] rfl rfl (HX7.out.there (by rw [st_size]; simp)) sizeOuting (one_og _ _ _ _) ?_) | fail)
    generalize hW : World.setCells _ _ _ _ = W8
    have HX8 : Hid (HasBox W8 w.heap.size 32 ((⟨s.host, s.pr, 0, ⟨0, 0⟩, noOg, true, gone, s.since, s.active⟩ : StatT).arr (.slice ao s.host.tags.length c))) := by show HasBox _ _ _ _; rw [← hW]; exact HX7.out.sets _ _
    have HY8 : Hid (HasBox W8 (w.heap.size + 1) 32 (noStat.arr nilW)) := by show HasBox _ _ _ _; rw [← hW]; exact HY7.out.setsOther (by omega) _ _
    have HO8 : Hid (W8.ownsRow (w.heap.size + 2) 42 2 (.slice ao s.host.tags.length c) s.host.tags.length (pairCells s.host.tags)) := by show World.ownsRow _ _ _ _ _ _ _; rw [← hW]; exact own_on HO7.out fun g hg _ => heap_sets (by omega) _ _ _
    have HB8 : Hid (Below w.heap.size w W8) := by show Below _ _ _; rw [← hW]; exact below_sets (Nat.le_refl _) _ _ HB7.out
    clear hW HX7 HY7 HO7 HB7
    have c9 : W8.cell? ⟨w.heap.size, 9, none⟩ = some (.int .i64 s.pr.wait) := HX8.out.cell 9
    have f9 : W8.frozen? ⟨w.heap.size, 9, none⟩ = false := HX8.out.frozen 9
    go_upto_region 10 with fail
    generalize hW : World.setCell _ _ _ = W9
    have HX9 : Hid (HasBox W9 w.heap.size 32 ((⟨s.host, ⟨s.pr.up, s.pr.run, s.pr.forced, 0⟩, 0, ⟨0, 0⟩, noOg, true, gone, s.since, s.active⟩ : StatT).arr (.slice ao s.host.tags.length c))) := by show HasBox _ _ _ _; rw [← hW]; exact HX8.out.set 9 _
    have HY9 : Hid (HasBox W9 (w.heap.size + 1) 32 (noStat.arr nilW)) := by show HasBox _ _ _ _; rw [← hW]; exact HY8.out.setOther _ (by simp) _
    have HO9 : Hid (W9.ownsRow (w.heap.size + 2) 42 2 (.slice ao s.host.tags.length c) s.host.tags.length (pairCells s.host.tags)) := by show World.ownsRow _ _ _ _ _ _ _; rw [← hW]; exact own_on HO8.out fun g hg _ => heap_setCell _ _ _ (by simp; omega)
    have HB9 : Hid (Below w.heap.size w W9) := by show Below _ _ _; rw [← hW]; exact HB8.out.setCell (by simp) _
    clear hW HX8 HY8 HO8 HB8
    clear c9 f9
    go_wp2_with (first | (refine wpList_load_all rfl 32 (.tmp 3) rfl w.heap.size rfl 32 _ _ HX9.out Try.underlying32 rfl (st_inf _ _) ?_) | (refine wpList_store_row rfl 32 (.tmp 6) (.tmp 26) rfl (w.heap.size + 1) ((⟨s.host, ⟨s.pr.up, s.pr.run, s.pr.forced, 0⟩, 0, ⟨0, 0⟩, noOg, true, gone, s.since, s.active⟩ : StatT).arr (.slice ao s.host.tags.length c)) rfl rfl 32 _ HY9.out (st_inf _ _) rfl (st_one _ _ _ _) ?_) | fail)
    refine bodyPost_ret (results_cell_row rfl _ _ (w.heap.size + 1) 32 ((⟨s.host, ⟨s.pr.up, s.pr.run, s.pr.forced, 0⟩, 0, ⟨0, 0⟩, noOg, true, gone, s.since, s.active⟩ : StatT).arr (.slice ao s.host.tags.length c)) _ _ rfl (HY9.out.row) Try.underlying32 rfl (st_inf _ _)) rfl ?_
    refine ⟨.slice ao s.host.tags.length c, rfl, ?_, below_setRow HB9.out (by omega) _⟩
    refine own_from (own_on HO9.out fun g hg _ => ?_) (by omega)
    rw [setRow_other _ _ _ _ (by omega)]

end Go.Proofs.Ythmfmeibjpgokaa

/-
  Contracts of package host: copies, subsets, whole hosts.
-/
import Derived.Test.YthmfmeibjpgokaaHost2
import Derived.Test.YthmfmeibjpgokaaBoxKit
import Derived.Lib.Bytealg
namespace Go.Proofs.Ythmfmeibjpgokaa
open Go.RowKit

theorem infoPair : (Try.prog.info? 42).map (fun i => (i.zero, i.size, i.bytes)) = some (some (.agg #[.string ByteArray.empty, .string ByteArray.empty]), 2, 32) := by kernel_rfl
theorem info_of {P : Program} {t : TypeId} {z : Value} {n b : Nat} (h : (P.info? t).map (fun i => (i.zero, i.size, i.bytes)) = some (some z, n, b)) : ∃ i, P.info? t = some i ∧ i.zero = some z ∧ i.size = n ∧ i.bytes = b := by
  cases hi : P.info? t with
  | none => rw [hi] at h; simp at h
  | some i =>
    rw [hi] at h
    simp only [Option.map_some, Option.some.injEq, Prod.mk.injEq] at h
    exact ⟨i, rfl, h.1, h.2.1, h.2.2⟩

/-- A row of pairs as long as one that came in may be. -/
abbrev maxRow : Nat := 4398046510976

set_option maxHeartbeats 400000 in
theorem clone_any (ps : List PairT) (v : Value) (w : World) (hv : IsPairs w v ps) (hlen : ps.length ≤ maxRow) :
    Calls Try.prog 15 #[v] w fun e w' => ∃ v', e = .returned v' ∧ w'.ownsRow w.heap.size 42 2 v' ps.length (pairCells ps) ∧ Below w.heap.size w w' := by
  have hlen' : ps.length ≤ 4398046510976 := hlen
  obtain ⟨ao, c1, rfl⟩ := hv.shaped
  obtain ⟨i0, hi, hz0, hz1, hz2⟩ := info_of infoPair
  have HV : Hid (IsPairs w (.slice ao ps.length c1) ps) := hv
  have q22 : ∀ (w : World) (a : Option Addr) (n c n' c' : Nat), (binOp .eql 22 (.slice a n c) (.slice none n' c')).run Try.prog w = .ok (.bool a.isNone) w := fun w a n c n' c' => Lib.run_eql_slice_nil w _ _ a n c n' c' Try.underlying22
  cases ao with
  | none =>
    have h0 : ps = [] ∧ c1 = 0 := by
      rcases hv.2.2.2 with ⟨h0, ao, cap, e, hn⟩ | ⟨_, b, off, cap, e, _⟩
      · simp only [Value.slice.injEq] at e
        obtain ⟨rfl, _, rfl⟩ := e
        exact ⟨List.eq_nil_of_length_eq_zero h0, hn rfl⟩
      · simp at e
    obtain ⟨rfl, rfl⟩ := h0
    clear hv
    go_enter Try.func15, Try.ntmps15
    go_wp2
    go_ret
    exact ⟨_, rfl, ⟨rfl, .inl ⟨rfl, rfl⟩⟩, Below.refl _ _⟩
  | some x =>
    clear hv
    go_enter Try.func15, Try.ntmps15
    go_wp2_with (at_builtin; refine wpList_append_row rfl (.tmp 5) (.tmp 6) 22 rfl w.heap.size 42 i0 _ 2 32 Try.underlying22 hi hz0 hz1 hz2 rfl (by decide) _ 0 _ rfl (own_empty w _ 2 _ (Nat.le_refl _)) _ ps.length (pairCells ps) rfl (HV.out.below ((Below.refl _ _).alloc (Nat.le_refl _) _)).2 (pairCells_one _) (by unfold maxLen; omega) (by omega) (by simp) ?_)
    intro v' w1 hown hgrow hat
    have HO1 : Hid (w1.ownsRow w.heap.size 42 2 v' ps.length (pairCells ps)) := by
      show World.ownsRow _ _ _ _ _ _ _
      simpa using hown
    have HB1 : Hid (Below w.heap.size w w1) := ((Below.refl _ _).alloc (Nat.le_refl _) _).grown hgrow (by simp) (fun q hq => by simp [Value.ownBlock] at hq; omega)
    clear hown hgrow hat
    go_wp2
    go_ret
    exact ⟨_, rfl, HO1.out, HB1.out⟩

theorem sizeHost : (Try.prog.info? 24).map (·.size) = some 6 := by kernel_rfl
theorem one_host (h : HostT) (ao : Option Addr) (n c : Nat) : (hcells h (.slice ao n c)).all (·.oneCell') = true := by simp [Value.oneCell']

set_option maxHeartbeats 1000000 in
theorem copy_any (h : HostT) (mv : Value) (w : World) (hv : IsPairs w mv h.tags) (hlen : h.tags.length ≤ maxRow) :
    Calls Try.prog 11 #[hval h mv] w fun e w' => ∃ mv', e = .returned (hval h mv') ∧ w'.ownsRow w.heap.size 42 2 mv' h.tags.length (pairCells h.tags) ∧ Below w.heap.size w w' := by
  have HV : Hid (IsPairs w mv h.tags) := hv
  have HL : Hid (h.tags.length ≤ maxRow) := hlen
  clear hv hlen
  go_enter Try.func11, Try.ntmps11
  go_wp2_with fail
  refine (clone_any h.tags mv _ (HV.out.below (((Below.refl _ _).alloc (Nat.le_refl _) _).alloc (by simp) _)) HL.out).mono ?_
  rintro e w1 ⟨v', rfl, hown, hb⟩
  obtain ⟨ao, c, rfl⟩ := (isRow_own hown).shaped
  have HBx : Hid (HasBox w1 w.heap.size 24 (hcells h mv)) := ((hasBox_new w _ _).alloc _).below hb
  have HBy : Hid (HasBox w1 (w.heap.size + 1) 24 (hcells noHost nilW)) := (hasBox_new' (w.alloc _) _ _ _ (by simp)).below hb
  have HO : Hid (w1.ownsRow (w.heap.size + 2) 42 2 (.slice ao h.tags.length c) h.tags.length (pairCells h.tags)) := own_from hown (by simp)
  have HB : Hid (Below w.heap.size w w1) := (((Below.refl _ _).alloc (Nat.le_refl _) _).alloc (by simp) _).trans (hb.mono (by simp; omega))
  clear hown hb
  have hf : w1.frozen? ⟨w.heap.size, 5, none⟩ = false := HBx.out.frozen 5
  have hc : w1.cell? ⟨w.heap.size, 5, none⟩ = some mv := HBx.out.cell 5
  have HX2 : Hid (HasBox (w1.setCell ⟨w.heap.size, 5, none⟩ (.slice ao h.tags.length c)) w.heap.size 24 (hcells h (.slice ao h.tags.length c))) := HBx.out.set 5 _
  have HY2 : Hid (HasBox (w1.setCell ⟨w.heap.size, 5, none⟩ (.slice ao h.tags.length c)) (w.heap.size + 1) 24 (hcells noHost nilW)) := HBy.out.setOther _ (by simp) _
  go_wp2_with (first | (refine wpList_load_row rfl 24 (.tmp 1) rfl w.heap.size rfl 24 (hcells h (.slice ao h.tags.length c)) (0, 0) _ HX2.out Try.underlying24 rfl sizeHost ?_) | (refine wpList_store_row rfl 24 (.tmp 2) (.tmp 7) rfl (w.heap.size + 1) (hcells h (.slice ao h.tags.length c)) rfl rfl 24 _ HY2.out sizeHost rfl (one_host _ _ _ _) ?_))
  refine bodyPost_ret (results_cell_row rfl _ _ (w.heap.size + 1) 24 (hcells h (.slice ao h.tags.length c)) _ _ rfl (HY2.out.row) Try.underlying24 rfl sizeHost) rfl ?_
  refine ⟨_, rfl, ?_, ?_⟩
  · refine own_from (own_on HO.out fun g hg _ => ?_) (by omega)
    rw [setRow_other _ _ _ _ (by omega)]
    simp [World.setCell, Array.getElem?_modify]
    omega
  · exact below_setRow (HB.out.setCell (by simp) _) (by omega) _

/-- What may be a host. -/
def mayHost (h : HostT) : Bool := ((decide (1 ≤ h.id) && decide (h.id ≤ 1000000)) && nameOK h.addr && (decide (0 ≤ h.prio) && decide (h.prio ≤ 3)) && ((h.zone.toList == []) || nameOK h.zone) && (decide (1 ≤ h.weight) && decide (h.weight ≤ 20)) && mayPairs h.tags) && risesP h.tags


end Go.Proofs.Ythmfmeibjpgokaa

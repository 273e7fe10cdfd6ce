/-
  HostBounds, for any three numbers: at each bound a host may be, beyond it it may not. No condition.
-/
import Derived.Test.YtgjancpogblakaaHostFrame
import Derived.Test.YtgjancpogblakaaByteStr
import Derived.Deep.CutRange
namespace Go.Proofs.Ytgjancpogblakaa
open Go.ChangeShapes Go.WideShapes Go.ChangeAt Go.RowKit
open Go.ChangeMaps (open_string shut_string)

/-- The pairs of the statement's own. -/
def mpair (i : Nat) : PairT := (⟨[UInt8.ofNat (97 + i)].toArray⟩, ⟨#[120]⟩)
def manyL (k : Nat) : List PairT := (List.range k).map mpair
theorem manyL_succ (k : Nat) : manyL (k + 1) = manyL k ++ [mpair k] := by unfold manyL; rw [List.range_succ, List.map_append]; rfl
theorem manyL_length (k : Nat) : (manyL k).length = k := by simp [manyL]
theorem ok_mpair (k : Nat) : okPair (mpair k) := by unfold okPair mpair maxLen; exact ⟨by show 1 ≤ _; decide, by show 1 ≤ _; decide⟩
theorem ok_manyL (k : Nat) : ∀ p ∈ manyL k, okPair p := by
  intro p hp
  unfold manyL at hp
  rw [List.mem_map] at hp
  obtain ⟨i, _, rfl⟩ := hp
  exact ok_mpair i
abbrev twoL : List PairT := [(⟨#[98]⟩, ⟨#[120]⟩), (⟨#[98]⟩, ⟨#[121]⟩)]
abbrev bH (a b c : Int) (ps : List PairT) : HostT := ⟨a, ⟨#[97]⟩, b, ByteArray.empty, c, ps⟩
theorem bH_may (a b c : Int) (ps : List PairT) : mayHost (bH a b c ps) = (decide (1 ≤ a ∧ a ≤ 1000000 ∧ 0 ≤ b ∧ b ≤ 3 ∧ 1 ≤ c ∧ c ≤ 20) && (mayPairs ps && risesP ps)) := by
  unfold mayHost
  simp only
  rw [show nameOK (⟨#[97]⟩ : ByteArray) = true by decide +kernel, show ((ByteArray.empty.toList == ([] : List UInt8)) || nameOK ByteArray.empty) = true by decide +kernel]
  rw [Bool.eq_iff_iff]
  simp only [Bool.and_eq_true, decide_eq_true_eq, and_true]
  constructor
  · rintro ⟨⟨⟨⟨⟨h1, h2⟩, h3, h4⟩, h5, h6⟩, h7⟩, h8⟩; exact ⟨⟨h1, h2, h3, h4, h5, h6⟩, h7, h8⟩
  · rintro ⟨⟨h1, h2, h3, h4, h5, h6⟩, h7, h8⟩; exact ⟨⟨⟨⟨⟨h1, h2⟩, h3, h4⟩, h5, h6⟩, h7⟩, h8⟩
theorem ok_bH (a b c : Int) (ps : List PairT) : okHost (bH a b c ps) := by unfold okHost maxLen; exact ⟨by show 1 ≤ _; decide, by show 0 ≤ _; decide⟩

/-- 's[1:]'. -/
theorem pairs_from1 {w : World} {g n cap : Nat} {ps : List PairT} (h : IsPairs w (.slice (some ⟨g, 0, none⟩) n cap) ps) (hn : ps.length = n) (h1 : 1 < n) : IsPairs w (.slice (some ⟨g, 2, none⟩) (n - 1) (cap - 1)) (ps.drop 1) := by
  refine ⟨fun p hp => h.1 p (List.mem_of_mem_drop hp), ?_⟩
  obtain ⟨h2, h3, h4⟩ := h.2
  have hl : (ps.drop 1).length = n - 1 := by rw [List.length_drop, hn]
  rw [hl]
  refine ⟨by rw [pairCells_length, hl], ?_, ?_⟩
  · unfold roomy at h3 ⊢
    simp only at h3 ⊢
    omega
  · rcases h4 with ⟨h0, _⟩ | ⟨_, b, off, c, e, hlt, hc⟩
    · omega
    · simp only [Value.slice.injEq, Option.some.injEq, Addr.mk.injEq, and_true] at e
      obtain ⟨⟨rfl, rfl⟩, _, rfl⟩ := e
      refine .inr ⟨by omega, g, 2, cap - 1, rfl, hlt, fun j hj => ?_⟩
      have := hc (j + 2) (by rw [hn]; omega)
      rw [show 0 + (j + 2) = 2 + j by omega] at this
      rw [this]
      have e2 : pairCells ps = pairCells (ps.take 1) ++ pairCells (ps.drop 1) := by rw [← pairCells_append, List.take_append_drop]
      have e3 : (pairCells (ps.take 1)).length = 2 := by rw [pairCells_length, List.length_take]; omega
      rw [e2, List.getElem?_append_right (by omega), e3]
      congr 1

theorem manyL7 : manyL 7 = [(⟨#[97]⟩, ⟨#[120]⟩), (⟨#[98]⟩, ⟨#[120]⟩), (⟨#[99]⟩, ⟨#[120]⟩), (⟨#[100]⟩, ⟨#[120]⟩), (⟨#[101]⟩, ⟨#[120]⟩), (⟨#[102]⟩, ⟨#[120]⟩), (⟨#[103]⟩, ⟨#[120]⟩)] := rfl
abbrev okB (a b c : Int) : Bool := decide (1 ≤ a ∧ a ≤ 1000000 ∧ 0 ≤ b ∧ b ≤ 3 ∧ 1 ≤ c ∧ c ≤ 20)
theorem mayB_plain (a b c : Int) (w : World) : Calls Try.prog 10 #[hval (bH a b c []) nilW] w fun e w' => e = .returned (.bool (okB a b c)) ∧ Below w.heap.size w w' := by
  have := may_any (bH a b c []) nilW w (ok_bH _ _ _ _) (isPairs_nil w)
  rwa [bH_may, show (mayPairs [] && risesP []) = true by decide +kernel, Bool.and_true] at this
theorem mayB_two (a b c : Int) (v : Value) (w : World) (h : IsPairs w v twoL) : Calls Try.prog 10 #[hval (bH a b c twoL) v] w fun e w' => e = .returned (.bool false) ∧ Below w.heap.size w w' := by
  have := may_any (bH a b c twoL) v w (ok_bH _ _ _ _) h
  rwa [bH_may, show (mayPairs twoL && risesP twoL) = false by decide +kernel, Bool.and_false] at this
theorem mayB_many (a b c : Int) (v : Value) (w : World) (h : IsPairs w v (manyL 7)) : Calls Try.prog 10 #[hval (bH a b c (manyL 7)) v] w fun e w' => e = .returned (.bool false) ∧ Below w.heap.size w w' := by
  have := may_any (bH a b c (manyL 7)) v w (ok_bH _ _ _ _) h
  rwa [bH_may, show (mayPairs (manyL 7) && risesP (manyL 7)) = false by decide +kernel, Bool.and_false] at this
theorem mayB_less (a b c : Int) (v : Value) (w : World) (h : IsPairs w v ((manyL 7).drop 1)) : Calls Try.prog 10 #[hval (bH a b c ((manyL 7).drop 1)) v] w fun e w' => e = .returned (.bool (okB a b c)) ∧ Below w.heap.size w w' := by
  have := may_any (bH a b c ((manyL 7).drop 1)) v w (ok_bH _ _ _ _) h
  rwa [bH_may, show (mayPairs ((manyL 7).drop 1) && risesP ((manyL 7).drop 1)) = true by decide +kernel, Bool.and_true] at this

/-- Pairs in a block that stands. -/
theorem pairs_block {w w' : World} {b off n cap : Nat} {ps : List PairT} (h : IsPairs w (.slice (some ⟨b, off, none⟩) n cap) ps) (hb : w'.heap[b]? = w.heap[b]?) (hs : w.heap.size ≤ w'.heap.size) : IsPairs w' (.slice (some ⟨b, off, none⟩) n cap) ps := by
  obtain ⟨h1, h2, h3, h4⟩ := h
  refine ⟨h1, h2, h3, ?_⟩
  rcases h4 with h4 | ⟨h4, g, o, c, e, hlt, hc⟩
  · exact .inl h4
  · have e2 := e
    simp only [Value.slice.injEq, Option.some.injEq, Addr.mk.injEq, and_true] at e2
    obtain ⟨⟨rfl, rfl⟩, _⟩ := e2
    exact .inr ⟨h4, b, off, c, e, Nat.lt_of_lt_of_le hlt hs, fun j hj => (World.cell?_of_block (w := w) hb).trans (hc j hj)⟩

set_option maxRecDepth 100000 in
set_option maxHeartbeats 4000000 in
theorem walk_HostBounds (a : Int) (_ : inI a) (b : Int) (_ : inI b) (c : Int) (_ : inI c) (w : World) :
    Calls Try.prog 6 #[.int .i64 a, .int .i64 b, .int .i64 c] w fun e w' => e = .returned (.bool true) ∧ Below w.heap.size w w' := by
  obtain ⟨ok, hok⟩ : ∃ ok, okB a b c = ok := ⟨_, rfl⟩
  have K1 := fun W => mayB_plain a b c W
  have K2 := fun v W h => mayB_two a b c v W h
  have K3 := fun v W h => mayB_many a b c v W h
  have K4 := fun v W h => mayB_less a b c v W h
  rw [hok] at K1 K4
  have HOK : Hid (okB a b c = ok) := hok
  clear hok
  obtain ⟨i0, hi, hz0, hz1, hz2⟩ := info_of infoPair
  go_enter Try.func6, Try.ntmps6
  go_upto_region 2 with fail
  go_cut [8] from 17 to 38 (fun q wx => q = .bool ok ∧ w.alloc (.cells (hcells (bH a b c []) nilW) 24) = wx)
  case first =>
    go_wp2
    all_goals
      go_meet
      case rel => exact ⟨congrArg Value.bool (by rw [← HOK.out]; first | exact (decide_eq_true (by omega)).symm | exact (decide_eq_false (by omega)).symm | exact decide_eq_decide.2 (by omega)), rfl⟩
  case rest =>
    obtain ⟨rfl, hw⟩ := hcut
    subst hw
    go_wp2
    generalize hW5 : World.alloc _ _ = W5
    have hA : Hid (HasBox W5 w.heap.size 24 (hcells (bH a b c []) nilW)) := by show HasBox _ _ _ _; rw [← hW5]; exact (((hasBox_new w _ _).alloc _).alloc _).alloc _
    have hB : Hid (HasBox W5 (w.heap.size + 1) 24 (hcells (bH a b c twoL) (.slice (some ⟨w.heap.size + 1 + 1, 0, none⟩) 2 2))) := by show HasBox _ _ _ _; rw [← hW5]; exact ((hasBox_new' (w.alloc _) _ _ _ (by simp)).alloc _).alloc _
    have hT : Hid (IsPairs W5 (.slice (some ⟨w.heap.size + 1 + 1, 0, none⟩) 2 2) twoL) := by
      show IsPairs _ _ _
      rw [← hW5]
      have h1 := fresh_pairs ((w.alloc (.cells (hcells (bH a b c []) nilW) 24)).alloc (.cells (hcells (bH a b c twoL) (.slice (some ⟨w.heap.size + 1 + 1, 0, none⟩) 2 2)) 24)) twoL 34 (by unfold okPair maxLen; decide) (by decide) (by decide)
      simp only [World.size_alloc] at h1
      exact h1.below ((Below.refl _ _).alloc (by simp) _)
    have hM : Hid (HasBox W5 (w.heap.size + 1 + 1 + 1) 24 (hcells (bH a b c []) nilW)) := by show HasBox _ _ _ _; rw [← hW5]; exact hasBox_new' _ _ _ _ (by simp)
    have hZ : Hid (W5.heap.size = w.heap.size + 1 + 1 + 1 + 1) := by show _ = _; rw [← hW5]; simp
    have hBW : Hid (Below w.heap.size w W5) := by show Below _ _ _; rw [← hW5]; exact ((((Below.refl _ _).alloc (Nat.le_refl _) _).alloc (by simp) _).alloc (by simp; omega) _).alloc (by simp; omega) _
    clear hW5
    go_loopw [11, 45] (fun _ i wr => ∃ (k : Nat) (v : Value), k ≤ 7 ∧ i = .int .i64 k ∧ Below (w.heap.size + 1 + 1 + 1) W5 wr ∧ HasBox wr (w.heap.size + 1 + 1 + 1) 24 (hcells (bH a b c []) v) ∧ wr.ownsRow (w.heap.size + 1 + 1 + 1 + 1) 34 2 v k (pairCells (manyL k))) (fun _ i _ => 7 - (intOf i).toNat)
    case atStart => exact ⟨0, nilW, by omega, rfl, Below.refl _ _, hM.out, ⟨rfl, .inl ⟨rfl, rfl⟩⟩⟩
    case round =>
      obtain ⟨k, v, hk, rfl, hb, hx, hown⟩ := hrel
      obtain ⟨ao, cc, rfl⟩ := (isRow_own hown).shaped
      have HB : Hid (Below (w.heap.size + 1 + 1 + 1) W5 wr) := hb
      have HX : Hid (HasBox wr (w.heap.size + 1 + 1 + 1) 24 (hcells (bH a b c []) (.slice ao k cc))) := hx
      have HO : Hid (wr.ownsRow (w.heap.size + 1 + 1 + 1 + 1) 34 2 (.slice ao k cc) k (pairCells (manyL k))) := hown
      have HZ : Hid (w.heap.size + 1 + 1 + 1 + 1 ≤ wr.heap.size) := by have := hb.size; have := hZ.out; show _ ≤ _; omega
      clear hb hx hown
      by_cases hlt : k < 7
      · have c5 : wr.cell? ⟨w.heap.size + 1 + 1 + 1, 5, none⟩ = some (.slice ao k cc) := HX.out.cell 5
        obtain ⟨cb, hcb⟩ : ∃ cb, UInt8.ofNat (97 + k) = cb := ⟨_, rfl⟩
        have e1 : IntKind.i64.wrap (97 + (k : Int)) = 97 + (k : Int) := by rw [IntKind.wrap_i64]; omega
        have e2 : IntKind.u8.wrap (97 + (k : Int)) = (cb.toNat : Int) := by
          rw [← hcb, UInt8.toNat_ofNat_of_lt' (by simp [UInt8.size]; omega), IntKind.wrap_u8]; omega
        have HC : Hid (mpair k = (⟨[cb].toArray⟩, ⟨#[120]⟩)) := by show mpair k = _; unfold mpair; rw [hcb]
        have hcv := conv_at (wr.alloc (.cells #[.int .u8 (cb.toNat : Int)] 5)) wr.heap.size cb (by simp)
        clear hcb
        go_wp2_with (at_builtin; refine wpList_append_row rfl (.tmp 49) (.tmp 56) 22 rfl (w.heap.size + 1 + 1 + 1 + 1) 34 i0 _ 2 32 Try.underlying22 hi hz0 hz1 hz2 rfl (by decide) _ k _ rfl ((HO.out.alloc _).alloc _) _ 1 (pairCells [mpair k]) rfl ?hrow (pairCells_one _) (by unfold maxLen; omega) (by omega) (by have := HZ.out; simp; omega) ?_)
        case hrow =>
          show IsRow 2 _ _ 1 (pairCells [mpair k])
          rw [HC.out]
          exact (one_pair (wr.alloc (.cells #[.int .u8 (cb.toNat : Int)] 5)) (⟨[cb].toArray⟩, ⟨#[120]⟩) 34 _ (by simp) (by rw [← HC.out]; exact ok_mpair k)).2
        intro v' w1 hown hgrow hat
        obtain ⟨bo, bc, rfl⟩ := (isRow_own hown).shaped
        have HO1 : Hid (w1.ownsRow (w.heap.size + 1 + 1 + 1 + 1) 34 2 (.slice bo (k + 1) bc) (k + 1) (pairCells (manyL (k + 1)))) := by
          show World.ownsRow _ _ _ _ _ _ _
          rw [manyL_succ, pairCells_append]
          exact hown
        have hne : some (w.heap.size + 1 + 1 + 1) ≠ (Value.slice ao k cc).ownBlock := fun h => by have := own_base HO.out _ h.symm; omega
        have HX1 : Hid (HasBox w1 (w.heap.size + 1 + 1 + 1) 24 (hcells (bH a b c []) (.slice ao k cc))) := ((HX.out.alloc _).alloc _).grown hgrow hne
        have HB1 : Hid (Below (w.heap.size + 1 + 1 + 1) W5 w1) := ((HB.out.alloc (by have := HZ.out; omega) _).alloc (by have := HZ.out; simp; omega) _).grown hgrow (by have := HZ.out; simp; omega) (fun q hq => by have := own_base HO.out q hq; omega)
        have f5 : w1.frozen? ⟨w.heap.size + 1 + 1 + 1, 5, none⟩ = false := HX1.out.frozen 5
        have c5' : w1.cell? ⟨w.heap.size + 1 + 1 + 1, 5, none⟩ = some (.slice ao k cc) := HX1.out.cell 5
        clear hown hgrow hat hcv c5 hne
        go_wp2
        go_roundw
        case rel =>
          refine ⟨k + 1, _, by omega, by go_num, HB1.out.setCell (by simp) _, HX1.out.set 5 _, own_on HO1.out fun g hg _ => ?_⟩
          simp [World.setCell, Array.getElem?_modify]
          omega
        case measure => simp [intOf]; omega
      · obtain rfl : k = 7 := by omega
        obtain ⟨g, rfl, hg, hgl, hcc⟩ : ∃ g, ao = some ⟨g, 0, none⟩ ∧ w.heap.size + 1 + 1 + 1 + 1 ≤ g ∧ g < wr.heap.size ∧ 7 ≤ cc := by
          rcases HO.out.2 with ⟨_, h0⟩ | ⟨g, cap, cur, e, h1, h2, h3, _⟩
          · omega
          · simp only [Value.slice.injEq, true_and] at e
            obtain ⟨rfl, rfl⟩ := e
            exact ⟨g, rfl, h1, (Array.getElem?_eq_some_iff.1 h2).1, h3⟩
        have HP : Hid (IsPairs wr (.slice (some ⟨g, 0, none⟩) 7 cc) (manyL 7)) := own_pairs HO.out rfl (ok_manyL 7)
        have keep : ∀ {bx t cs}, bx < w.heap.size + 1 + 1 + 1 → HasBox W5 bx t cs → HasBox wr bx t cs := fun hlt h => (HB.out.block _ hlt).trans h
        have HA1 : Hid (HasBox wr w.heap.size 24 (hcells (bH a b c []) nilW)) := keep (by omega) hA.out
        have HB1 : Hid (HasBox wr (w.heap.size + 1) 24 (hcells (bH a b c twoL) (.slice (some ⟨w.heap.size + 1 + 1, 0, none⟩) 2 2))) := keep (by omega) hB.out
        have HBW : Hid (Below w.heap.size w wr) := hBW.out.trans (Go.Joins.below_le HB.out (by omega))
        clear keep
        have HT : Hid (IsPairs wr (.slice (some ⟨w.heap.size + 1 + 1, 0, none⟩) 2 2) twoL) := pairs_block hT.out (HB.out.block _ (by omega)) HB.out.size
        have HFa := fun o => HA1.out.alloc o
        have HFb := fun o => HB1.out.alloc o
        have HFx := fun o => HX.out.alloc o
        have HFt := fun o => HT.out.below ((Below.refl _ _).alloc (Nat.le_refl _) o)
        have HFp := fun o => HP.out.below ((Below.refl _ _).alloc (Nat.le_refl _) o)
        have HFw := fun o => HBW.out.alloc HBW.out.size o
        clear hA hB hT hM hZ hBW HB HT HP HA1 HB1 HO
        go_wp2_with (first | (refine wpList_load_row rfl 24 (.tmp 10) rfl (w.heap.size + 1 + 1 + 1) rfl 24 _ (0, 0) _ HX.out Try.underlying24 rfl sizeHost ?_) | (refine wpList_load_row rfl 24 (.tmp 7) rfl w.heap.size rfl 24 _ (0, 0) _ (HFa _) Try.underlying24 rfl sizeHost ?_) | fail)
        generalize hW8 : wr.alloc _ = W8
        have hB : HasBox W8 (w.heap.size + 1) 24 (hcells (bH a b c twoL) (.slice (some ⟨w.heap.size + 1 + 1, 0, none⟩) 2 2)) := by rw [← hW8]; exact HFb _
        have hX : HasBox W8 (w.heap.size + 1 + 1 + 1) 24 (hcells (bH a b c []) (.slice (some ⟨g, 0, none⟩) 7 cc)) := by rw [← hW8]; exact HFx _
        have hL : HasBox W8 wr.heap.size 24 (hcells (bH a b c []) (.slice (some ⟨g, 2, none⟩) 6 (cc - 1))) := by rw [← hW8]; exact hasBox_new wr _ _
        have hT : IsPairs W8 (.slice (some ⟨w.heap.size + 1 + 1, 0, none⟩) 2 2) twoL := by rw [← hW8]; exact HFt _
        have hP : IsPairs W8 (.slice (some ⟨g, 0, none⟩) 7 cc) (manyL 7) := by rw [← hW8]; exact HFp _
        have hQ : IsPairs W8 (.slice (some ⟨g, 2, none⟩) 6 (cc - 1)) ((manyL 7).drop 1) := pairs_from1 hP rfl (by omega)
        have hW : Below w.heap.size w W8 := by rw [← hW8]; exact HFw _
        have HL : Hid (HasBox W8 (w.heap.size + 1) 24 (hcells (bH a b c twoL) (.slice (some ⟨w.heap.size + 1 + 1, 0, none⟩) 2 2)) ∧ HasBox W8 (w.heap.size + 1 + 1 + 1) 24 (hcells (bH a b c []) (.slice (some ⟨g, 0, none⟩) 7 cc)) ∧ HasBox W8 wr.heap.size 24 (hcells (bH a b c []) (.slice (some ⟨g, 2, none⟩) 6 (cc - 1))) ∧
            IsPairs W8 (.slice (some ⟨w.heap.size + 1 + 1, 0, none⟩) 2 2) twoL ∧ IsPairs W8 (.slice (some ⟨g, 0, none⟩) 7 cc) (manyL 7) ∧ IsPairs W8 (.slice (some ⟨g, 2, none⟩) 6 (cc - 1)) ((manyL 7).drop 1) ∧ Below w.heap.size w W8) := ⟨hB, hX, hL, hT, hP, hQ, hW⟩
        clear HFa HFb HFx HFt HFp HFw hB hX hL hT hP hQ hW hW8 HX
        refine (K1 _).mono ?_
        rintro e w2 ⟨rfl, hb⟩
        have HB2 : Hid (Below W8.heap.size W8 w2) := hb
        clear hb
        go_wp2_with (first | (refine wpList_load_box rfl 24 (.tmp 9) rfl (w.heap.size + 1) rfl 24 _ _ (HL.out.1.below HB2.out) Try.underlying24 rfl sizeHost ?_) | fail)
        refine (K2 _ _ (HL.out.2.2.2.1.below HB2.out)).mono ?_
        rintro e w3 ⟨rfl, hb⟩
        have HB3 : Hid (Below W8.heap.size W8 w3) := HB2.out.trans (hb.mono HB2.out.size)
        clear hb
        go_wp2_with (first | (refine wpList_load_box rfl 24 (.tmp 10) rfl (w.heap.size + 1 + 1 + 1) rfl 24 _ _ (HL.out.2.1.below HB3.out) Try.underlying24 rfl sizeHost ?_) | fail)
        refine (K3 _ _ (HL.out.2.2.2.2.1.below HB3.out)).mono ?_
        rintro e w4 ⟨rfl, hb⟩
        have HB4 : Hid (Below W8.heap.size W8 w4) := HB3.out.trans (hb.mono HB3.out.size)
        clear hb
        go_wp2_with (first | (refine wpList_load_box rfl 24 (.tmp 12) rfl (wr.heap.size) rfl 24 _ _ (HL.out.2.2.1.below HB4.out) Try.underlying24 rfl sizeHost ?_) | fail)
        refine (K4 _ _ (HL.out.2.2.2.2.2.1.below HB4.out)).mono ?_
        rintro e w5 ⟨rfl, hb⟩
        have HB5 : Hid (Below W8.heap.size W8 w5) := HB4.out.trans (hb.mono HB4.out.size)
        clear hb
        go_wp2_with fail
        refine (awake_any _).mono ?_
        rintro e w6 ⟨rfl, hb⟩
        have HB6 : Hid (Below w.heap.size w w6) := HL.out.2.2.2.2.2.2.trans ((HB5.out.trans (hb.mono HB5.out.size)).mono HL.out.2.2.2.2.2.2.size)
        clear hb
        go_wp2
        go_ret
        exact ⟨rfl, HB6.out⟩

set_option maxRecDepth 100000 in
theorem lifted_HostBounds (os : Os) (started : os.Started) (H : Type) (enc : TypeId × Value → H) :
    ReturnsInHanded {} Try.checked os 6 .any (Rows.hostBoundsSpec.pre6 enc Try.prog Try.f6 Rows.hostBoundsRow.domain false) (Rows.hostBoundsSpec.post enc Try.prog Try.f6 false true false false) := by
  refine returnsInHanded_of_change (C := Try.checked) own started (by kernel_rfl) Try.func6
    (ChangeSpec.witness6 (enc := enc) (C := Try.checked) false ⟨#[], #[.int .i64 0, .int .i64 0, .int .i64 0], []⟩ 8 (by kernel_rfl) (by kernel_rfl) (by kernel_rfl) (by kernel_rfl)) ?_
  intro W base args ds gs before hval0 hW hcnd _
  have hval : ∀ (j : Nat) t v, Try.f6.params[j]? = some t → args[j]? = some v → Value.okWide Try.prog W .any base t v := hval0
  have hW' := hW
  obtain ⟨p, q, hA0, hV, rfl, hfz, hnd⟩ := hW
  have hA : DataW.TrodAll enc Try.prog W 0 (fun _ => true) true Try.f6.params.toList args.toList ds p := hA0
  rw [Try.params6] at hA hval
  obtain ⟨v0, vs0, d0, ds0, p0, q0, hargs, rfl, rfl, h0, r0⟩ := trodAll_cons hA
  obtain ⟨v1, vs1, d1, ds1, p1, q1, rfl, rfl, rfl, h1, r1⟩ := trodAll_cons r0
  obtain ⟨v2, vs2, d2, ds2, p2, q2, rfl, rfl, rfl, h2, r2⟩ := trodAll_cons r1
  obtain ⟨rfl, rfl, rfl⟩ := trodAll_nil r2
  obtain rfl : args = #[v0, v1, v2] := by cases args; simp_all
  obtain ⟨rfl, rfl⟩ := trodVars_none hV
  obtain ⟨a0, rfl, rfl, rfl, w0⟩ := open_int Try.underlying3 (hval 0 3 v0 rfl rfl) h0
  obtain ⟨a1, rfl, rfl, rfl, w1⟩ := open_int Try.underlying3 (hval 1 3 v1 rfl rfl) h1
  obtain ⟨a2, rfl, rfl, rfl, w2⟩ := open_int Try.underlying3 (hval 2 3 v2 rfl rfl) h2
  clear hA0 hval0
  refine (walk_HostBounds a0 (wf_i64 w0) a1 (wf_i64 w1) a2 (wf_i64 w2) W).mono fun e W' ⟨he, bel⟩ => ?_
  subst he
  exact ⟨_, rfl, _, _, _, [], _, [], hW', trodAll_mk1 (shut_bool Try.underlying4 _), (trodAll_cons_mk (shut_int Try.underlying3 w0) (trodAll_cons_mk (shut_int Try.underlying3 w1) (trodAll_cons_mk (shut_int Try.underlying3 w2) trodAll_mk0))), rfl, bel.frame _, fun h => by cases h⟩

theorem over_HostBounds : Rows.hostBoundsRow.holds Try.pinned (OpenSpec.ofChange Rows.hostBoundsSpec) :=
  OpenClaim.holds_of_wide 6 Try.f6 rfl rfl rfl rfl rfl rfl rfl ⟨rfl, rfl, rfl, rfl, rfl⟩ rfl rfl rfl rfl rfl (by kernel_rfl) Try.func6 (by kernel_rfl)
    (of_decide_eq_true (by kernel_rfl)) (by unfold Func.isWrapper; first | (rw [if_pos (by decide +kernel)]; kernel_rfl) | (rw [if_neg (by decide +kernel)]; exact ⟨rfl, rfl⟩))
    (fun os started H enc _ => lifted_HostBounds os started H enc)

/-- The statement. -/
theorem hostBounds_holds : Rows.HostBoundsSaid := over_HostBounds
#print axioms hostBounds_holds

end Go.Proofs.Ytgjancpogblakaa

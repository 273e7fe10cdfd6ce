/-
  The reference's answers to chapter 9: Cut.
-/
import Derived.Test.YtelpdmaphmfkiaaRefClock1
namespace Go.Proofs.Ytelpdmaphmfkiaa
open Go.RowKit

theorem timer_row (w : World) (x : TimerT) (t g : Nat) (hg : g = w.heap.size) : IsRow 3 (w.alloc (.cells (tcells x) t)) (.slice (some ⟨g, 0, none⟩) 1 1) 1 (timerCells [x]) := by
  subst hg
  exact IsRow.fresh w (timerCells [x]) 3 1 t 1 rfl (Nat.le_refl _) (by unfold maxLen; omega) (by omega)

/-- Behind a call on the statement's own clock: its block and new blocks alone have turned; its row is what it was, or new. -/
structure Turned (w w' : World) (base B tC tT : Nat) (v v' : Value) (now : Int) (L : List TimerT) : Prop where
  clock : RClock w' base B tC tT v' now L
  grown : w.grownBy w' (some B)
  row : v'.ownBlock = v.ownBlock ∨ ∀ k, v'.ownBlock = some k → w.heap.size ≤ k

/-- A new row is put into the clock. -/
theorem turned_store {w wr : World} {base B tC tT : Nat} {v0 v' : Value} {now : Int} {L M : List TimerT} (hc : RClock w base B tC tT v0 now L) (hr : RClock wr base B tC tT v0 now L) (hb : Below w.heap.size w wr) (ho : wr.ownsRow w.heap.size tT 3 v' M.length (timerCells M)) (hok : ∀ t ∈ M, inT t) :
    Turned w (wr.setCell ⟨B, 1, none⟩ v') base B tC tT v0 v' now M := by
  have hBl := hc.box.lt
  have hbase : ∀ k, v'.ownBlock = some k → w.heap.size ≤ k := own_base ho
  have hother : ∀ k, k ≠ B → (wr.setCell ⟨B, 1, none⟩ v').heap[k]? = wr.heap[k]? := fun k hk => by
    simp [World.setCell, Array.getElem?_modify, Ne.symm hk]
  refine ⟨⟨hc.ge, hr.box.set 1 v', own_from (own_stands ho fun k hk => hother k (by have := hbase k hk; omega)) (Nat.le_trans hc.ge (Nat.le_of_lt hBl)), fun e => by have := hbase B e; omega, hok, hc.now_⟩, ⟨hb.os, hb.tape, hb.output, ?_, fun k hk hne => ?_⟩, .inr hbase⟩
  · have := hb.size; simpa using this
  · rw [hother k (fun e => hne (by rw [e])), hb.block k hk]

set_option maxHeartbeats 4000000 in
theorem rCut_any (base B : Nat) (v : Value) (now : Int) (L : List TimerT) (kind id : Int) (w : World) (hc : RClock w base B 42 29 v now L) (hlen : L.length ≤ 1000000) :
    Calls Try.prog 15 #[.pointer (some ⟨B, 0, none⟩), .int .i64 kind, .int .i64 id] w fun e w' => e = .returned (.bool (hasT L kind id)) ∧ ∃ v', Turned w w' base B 42 29 v v' now (cutT L kind id) := by
  have ht := hc.timers
  obtain ⟨ao, cap, rfl⟩ := ht.shaped
  obtain ⟨i0, hi, hz0, hz1, hz2⟩ : ∃ i, Try.prog.info? 29 = some i ∧ i.zero = some (tval noTimer) ∧ i.size = 3 ∧ i.bytes = 24 := by
    have h := infoTimer
    cases hi : Try.prog.info? 29 with
    | none => rw [hi] at h; simp at h
    | some i =>
      rw [hi] at h
      simp only [Option.map_some, Option.some.injEq, Prod.mk.injEq] at h
      exact ⟨i, rfl, h.1, h.2.1, h.2.2⟩
  have HT : Hid (IsTimers w (.slice ao L.length cap) L) := ht
  have HC : Hid (RClock w base B 42 29 (.slice ao L.length cap) now L) := hc
  have cl : w.cell? ⟨B, 1, none⟩ = some (.slice ao L.length cap) := hc.box.cell 1
  clear hc ht
  go_enter Try.func15, Try.ntmps15
  go_wp2
  go_loopw [7, 16] (fun o i wr => ∃ k : Nat, k ≤ L.length ∧ i = .int .i64 k ∧ wr.ownsRow w.heap.size 29 3 o (cutT (L.take k) kind id).length (timerCells (cutT (L.take k) kind id)) ∧ Below w.heap.size w wr) (fun _ i _ => L.length - (intOf i).toNat)
  case atStart => exact ⟨0, Nat.zero_le _, rfl, ⟨rfl, .inl ⟨rfl, rfl⟩⟩, Below.refl _ _⟩
  case round =>
    obtain ⟨k, hk, rfl, ho, hb⟩ := hrel
    obtain ⟨oo, oc, ho7⟩ := (isRow_own ho).shaped
    have HO : Hid (wr.ownsRow w.heap.size 29 3 u7 (cutT (L.take k) kind id).length (timerCells (cutT (L.take k) kind id))) := ho
    have HB : Hid (Below w.heap.size w wr) := hb
    clear ho hb
    subst ho7
    by_cases hlt : k < L.length
    · obtain ⟨b, off, rfl, hbl, c0, c1, c2⟩ := (HT.out.below HB.out).at k hlt
      have HN : Hid (cutT (L.take (k + 1)) kind id = cutT (L.take k) kind id ++ (if isT kind id (L.getD k noTimer) then [] else [L.getD k noTimer])) := cutT_take hlt
      have hcl : (cutT (L.take k) kind id).length ≤ 1000000 := Nat.le_trans (cutT_length _ _ _) (by rw [List.length_take]; omega)
      generalize L.getD k noTimer = x at c0 c1 c2 HN
      generalize cutT (L.take k) kind id = cl' at HO HN hcl
      cases hx : isT kind id x with
      | true =>
        have HF : Hid (cutT (L.take (k + 1)) kind id = cl') := by show _ = _; rw [HN.out, hx]; simp
        unfold isT at hx
        rw [Bool.and_eq_true] at hx
        have q1 : (x.kind != kind) = false := by rw [bne, hx.1]; rfl
        have q2 : (x.id != id) = false := by rw [bne, hx.2]; rfl
        clear HN hx
        go_wp2
        go_roundw
        case rel => exact ⟨k + 1, by omega, by go_num, by rw [HF.out]; exact own_on HO.out fun g _ hl => ((Below.refl wr.heap.size wr).alloc (Nat.le_refl _) _).block g hl, HB.out.trans (((Below.refl _ _).alloc (Nat.le_refl _) _).mono HB.out.size)⟩
        case measure => simp [intOf]; omega
      | false =>
        have HF : Hid (cutT (L.take (k + 1)) kind id = cl' ++ [x]) := by show _ = _; rw [HN.out, hx]; rfl
        have HO4 := fun o o2 => own_on HO.out fun g (_ : w.heap.size ≤ g) hl => (((Below.refl wr.heap.size wr).alloc (Nat.le_refl _) o).alloc (by simp) o2).block g hl
        have hcase : (x.kind != kind) = true ∨ (x.kind != kind) = false ∧ (x.id != id) = true := by
          unfold isT at hx
          cases h1 : (x.kind == kind)
          · exact .inl (by rw [bne, h1]; rfl)
          · rw [h1, Bool.true_and] at hx
            exact .inr ⟨by rw [bne, h1]; rfl, by rw [bne, hx]; rfl⟩
        clear HN hx
        rcases hcase with q1 | ⟨q1, q2⟩
        all_goals
          go_wp2_with (at_builtin; refine wpList_append_row rfl (.tmp 30) (.tmp 32) 40 rfl w.heap.size 29 i0 _ 3 24 Try.underlying40 hi hz0 hz1 hz2 rfl (by decide) _ cl'.length _ rfl (HO4 _ _) _ 1 (timerCells [x]) rfl (timer_row _ x _ _ (by simp)) (timerCells_one _) (by unfold maxLen; omega) (by omega) (by have := HB.out.size; simp; omega) ?_)
          intro v' w5 hown hgrow hat
          have HO5 : Hid (w5.ownsRow w.heap.size 29 3 v' (cutT (L.take (k + 1)) kind id).length (timerCells (cutT (L.take (k + 1)) kind id))) := by
            show World.ownsRow _ _ _ _ _ _ _
            rw [HF.out, timerCells_append, List.length_append]; exact hown
          have HB5 : Hid (Below w.heap.size w w5) := (((HB.out.alloc HB.out.size _).alloc (by have := HB.out.size; simp; omega) _)).grown hgrow (by have := HB.out.size; simp; omega) (own_base HO.out)
          clear hown hgrow hat HO4
          go_wp2
          go_roundw
          case rel => exact ⟨k + 1, by omega, by go_num, HO5.out, HB5.out⟩
          case measure => simp [intOf]; omega
    · have hkl : L.take k = L := List.take_of_length_le (by omega)
      rw [hkl] at HO
      rw [hkl]
      have HCr : Hid (RClock wr base B 42 29 (.slice ao L.length cap) now L) := HC.out.below HB.out
      have HX : Hid (HasBox wr B 42 #[.int .i64 now, .slice ao L.length cap]) := HCr.out.box
      have clr : wr.cell? ⟨B, 1, none⟩ = some (.slice ao L.length cap) := HX.out.cell 1
      have fr : wr.frozen? ⟨B, 1, none⟩ = false := HX.out.frozen 1
      obtain ⟨q, hq⟩ : ∃ q, hasT L kind id = q := ⟨_, rfl⟩
      have hne : ((L.length : Int) != ((cutT L kind id).length : Int)) = q := by
        rw [← hq]
        cases h : hasT L kind id with
        | false => rw [bne_eq_false_iff_eq]; have := cutT_same.2 h; omega
        | true =>
          rw [bne_iff_ne]
          intro e
          have := cutT_same.1 (show L.length = (cutT L kind id).length by omega)
          rw [h] at this
          cases this
      have HQ : Hid (hasT L kind id = q) := hq
      clear hq hkl
      go_wp2
      go_ret
      refine ⟨by rw [HQ.out]; rfl, .slice oo (cutT L kind id).length oc, ?_⟩
      exact turned_store HC.out HCr.out HB.out HO.out (fun t ht => HC.out.ok t (List.mem_filter.1 ht).1)

end Go.Proofs.Ytelpdmaphmfkiaa

/-
  Contracts of package slices at timers, in a row of the call's own: one cut out, one put in.
-/
import Derived.Test.YtelpdmaphmfkiaaRefClock1
import Derived.Test.YtelpdmaphmfkiaaRowEdit
import Derived.Lib.Overlaps
import Derived.Laws.Externs
namespace Go.Proofs.Ytelpdmaphmfkiaa
open Go.RowKit

theorem zerosT_one : ∀ u ∈ (Builtin.zeroCells (tval noTimer).cells 1).toList, u.oneCell' = true := by
  intro u hu
  unfold Builtin.zeroCells at hu
  rw [Array.toList_map, List.mem_map] at hu
  obtain ⟨i, hi, rfl⟩ := hu
  have h3 : i < 3 := by simp at hi; exact hi
  have : i = 0 ∨ i = 1 ∨ i = 2 := by omega
  rcases this with rfl | rfl | rfl <;> rfl
theorem info_timer : ∃ i, Try.prog.info? 29 = some i ∧ i.zero = some (tval noTimer) ∧ i.size = 3 ∧ i.bytes = 24 := by
  have h := infoTimer
  cases hi : Try.prog.info? 29 with
  | none => rw [hi] at h; simp at h
  | some i =>
    rw [hi] at h
    simp only [Option.map_some, Option.some.injEq, Prod.mk.injEq] at h
    exact ⟨i, rfl, h.1, h.2.1, h.2.2⟩
/-- The block of a row of the call's own that has elements. -/
theorem ownT_block {w : World} {base e n : Nat} {v : Value} {L : List TimerT} (h : w.ownsRow base e 3 v n (timerCells L)) (hn : n = L.length) (h0 : 0 < n) :
    ∃ g cap, ∃ cur : List Value, v = .slice (some ⟨g, 0, none⟩) n cap ∧ base ≤ g ∧ g < w.heap.size ∧ w.heap[g]? = some (.cells cur.toArray e (0, 0)) ∧ n ≤ cap ∧ cap ≤ maxLen ∧ cur.length = cap * 3 ∧ cur.take (n * 3) = timerCells L := by
  rcases h.2 with ⟨_, h⟩ | ⟨g, cap, cur, rfl, hb, hg, hn, hm, hs, ht⟩
  · omega
  · exact ⟨g, cap, cur.toList, rfl, hb, (Array.getElem?_eq_some_iff.1 hg).1, by simpa using hg, hn, hm, by simpa using hs, ht⟩

theorem take_two {α : Type} (cur CT CX C : List α) (a b n : Nat) (hb : b = a + CX.length) (h1 : cur.take a = C.take a) (hl : b ≤ cur.length) (hn : n = b + CT.length) : (splice (splice cur b CT) a CX).take n = C.take a ++ (CX ++ CT) := by
  have hta : (splice cur b CT).take a = C.take a := (take_splice_lo cur b a CT (by omega) hl).trans h1
  have hla : (C.take a).length = a := by rw [← h1, List.length_take]; omega
  have hd : (splice cur b CT).drop b = CT ++ cur.drop (b + CT.length) := by
    unfold splice
    exact List.drop_left' (by rw [List.length_take]; omega)
  have e : splice (splice cur b CT) a CX = C.take a ++ (CX ++ (CT ++ cur.drop (b + CT.length))) := by
    show (splice cur b CT).take a ++ (CX ++ (splice cur b CT).drop (a + CX.length)) = _
    rw [hta, ← hb, hd]
  rw [e, ← List.append_assoc, ← List.append_assoc, ← List.append_assoc]
  exact List.take_left' (by rw [List.length_append, List.length_append, hla]; omega)

theorem addr_plus (b o j : Nat) : (⟨b, o, none⟩ : Addr).add j = ⟨b, o + j, none⟩ := by unfold Addr.add; split <;> simp_all

set_option maxRecDepth 100000 in
set_option maxHeartbeats 4000000 in
/-- slices.Delete(l, i, i+1). -/
theorem deleteT_any (L : List TimerT) (i base : Nat) (v : Value) (w : World) (ho : w.ownsRow base 29 3 v L.length (timerCells L)) (hi : i < L.length) (hlen : L.length ≤ 1000000) :
    Calls Try.prog 31 #[v, .int .i64 i, .int .i64 (i + 1 : Nat)] w fun e w' => ∃ v', e = .returned v' ∧ w'.ownsRow base 29 3 v' (L.take i ++ L.drop (i + 1)).length (timerCells (L.take i ++ L.drop (i + 1))) ∧ w.grownBy w' v.ownBlock ∧ v'.ownBlock = v.ownBlock := by
  obtain ⟨i0, hi0, hz0, hz1, hz2⟩ := info_timer
  obtain ⟨g, cap, cur, rfl, hbg, hgl, hg, hnc, hcm, hcl, hct⟩ := ownT_block ho rfl (by omega)
  have hTl : (timerCells L).length = L.length * 3 := timerCells_length L
  have hone : ∀ u ∈ (timerCells L).drop ((i + 1) * 3), u.oneCell' = true := fun u hu => timerCells_one L u (List.mem_of_mem_drop hu)
  obtain ⟨news, hnews⟩ : ∃ news, news = (timerCells L).drop ((i + 1) * 3) := ⟨_, rfl⟩
  have hnl : news.length = (L.length - (i + 1)) * 3 := by rw [hnews, List.length_drop, hTl, Nat.sub_mul]
  rw [← hnews] at hone
  obtain ⟨A, hA, hsrc⟩ : ∃ A : Addr, (if cap = i + 1 then some (⟨g, 0, none⟩ : Addr) else some ⟨g, (i + 1) * 3, none⟩) = some A ∧ Hid (∀ j u, news[j]? = some u → w.drew.cell? (A.add j) = some u) := by
    by_cases h : cap = i + 1
    · refine ⟨⟨g, 0, none⟩, by simp [h], fun j u hu => ?_⟩
      have h0 : news.length = 0 := by rw [hnl]; omega
      rw [List.length_eq_zero_iff.1 h0] at hu
      simp at hu
    · refine ⟨⟨g, (i + 1) * 3, none⟩, by simp [h], fun j u hu => ?_⟩
      have hj : j < news.length := (List.getElem?_eq_some_iff.1 hu).1
      rw [hnews, List.getElem?_drop, ← hct, List.getElem?_take, if_pos (by omega)] at hu
      rw [addr_plus]
      show w.cell? _ = _
      rw [cell_of_row w g _ cur.toArray _ (0, 0) hg]
      simpa using hu
  have HCt : Hid (cur.take (L.length * 3) = timerCells L) := hct
  have HNews : Hid (news = (timerCells L).drop ((i + 1) * 3)) := hnews
  clear hct hnews ho
  have hic : i ≤ L.length := by omega
  have hjc : i + 1 ≤ L.length := hi
  have hb1 : (0 : Int) ≤ (i : Int) + 1 := by omega
  have hb3 : (i : Int) + 1 ≤ (L.length : Int) := by omega
  obtain ⟨m, hm⟩ : ∃ m, L.length - 1 = m := ⟨_, rfl⟩
  have hm1 : ¬ cap = m := by omega
  have hm2 : m ≤ L.length := by omega
  have hm3 : L.length - m = 1 := by omega
  have hm4 : m ≤ cap := by omega
  have hcI : (L.length : Int) ≤ (cap : Int) := by omega
  have hiI : (i : Int) ≤ (cap : Int) := by omega
  have hw1 : IntKind.i64.wrap ((i : Int) + 1) = (i : Int) + 1 := by rw [IntKind.wrap_i64]; omega
  have hcast : ((i + 1 : Nat) : Int) = (i : Int) + 1 := by omega
  rw [hcast]
  have htn : ((i : Int) + 1).toNat = i + 1 := by omega
  clear hcast
  go_enter Try.func31, Try.ntmps31
  go_wp2_with fail
  go_region_law (refine step_append_splice rfl (.tmp 22) (.tmp 25) 40 rfl 29 i0 3 Try.underlying40 hi0 hz1 g i cap (by simp [Act.eval, Act.put]) cur hg A (L.length - (i + 1)) (cap - (i + 1)) news (by simp [Act.eval, Act.put]) hnl hsrc.out hone (by omega) (by omega) m (by omega) ?_; intro w4 hg4 hb4)
  have hl4 : (splice cur (i * 3) news).length = cap * 3 := by rw [length_splice _ _ _ (by omega)]; exact hcl
  have HB4 : Hid (w.drew.grownBy w4 (some g)) := hb4
  clear hb4
  go_wp2_with (first | (refine wpList_clear_wide rfl (.tmp 31) 40 rfl 29 i0 _ 3 Try.underlying40 hi0 hz0 rfl g (m * 3) 1 (cap - m) (by decide) rfl _ 29 hg4.out zerosT_one (by omega) ?_) | fail)
  intro w5 hg5 hb5
  have HB5 : Hid (w4.grownBy w5 (some g)) := hb5
  clear hb5
  go_wp2
  go_ret
  have hgr : w.drew.grownBy w5 (some g) := HB4.out.trans HB5.out
  have hz6 : (Builtin.zeroCells (tval noTimer).cells 1).toList.length = 3 := by rw [Array.length_toList, size_zeroCells]; rfl
  have hln : i * 3 + news.length = m * 3 := by rw [hnl]; omega
  have hlm : (L.take i ++ L.drop (i + 1)).length = m := by simp; omega
  refine ⟨.slice (some ⟨g, 0, none⟩) m cap, rfl, ⟨timerCells_length _, .inr ⟨g, cap, _, by rw [hlm], hbg, hg5.out, by omega, hcm, ?_, ?_⟩⟩, ⟨hgr.os, hgr.tape, hgr.output, hgr.size, hgr.block⟩, rfl⟩
  · rw [List.size_toArray]
    refine (length_splice _ _ _ (Nat.le_trans (Nat.add_le_add_left (Nat.le_of_eq hz6) _) (by omega))).trans hl4
  · rw [hlm]
    refine (take_splice_lo _ _ _ _ (Nat.le_refl _) (by omega)).trans ?_
    rw [take_splice_hi _ _ _ _ (by omega) (by omega), timerCells_append, timerCells_take, timerCells_drop, HNews.out, ← HCt.out, List.take_take, Nat.min_eq_left (by omega)]

set_option maxRecDepth 100000 in
set_option maxHeartbeats 4000000 in
/-- slices.Insert(l, i, x). -/
theorem insertT_any (L : List TimerT) (i base xb : Nat) (t : TimerT) (v : Value) (w : World) (ho : w.ownsRow base 29 3 v L.length (timerCells L)) (hi : i ≤ L.length) (hlen : L.length ≤ 1000000) (hb0 : base ≤ w.heap.size)
    (hx : HasBox w xb 29 (tcells t)) (hne : v.ownBlock ≠ some xb) :
    Calls Try.prog 28 #[v, .int .i64 i, .slice (some ⟨xb, 0, none⟩) 1 1] w fun e w' => ∃ v', e = .returned v' ∧ w'.ownsRow base 29 3 v' (L.take i ++ t :: L.drop i).length (timerCells (L.take i ++ t :: L.drop i)) ∧ w.grownBy w' v.ownBlock ∧ (v'.ownBlock = v.ownBlock ∨ v'.ownBlock = some w.heap.size) := by
  obtain ⟨i0, hi0, hz0, hz1, hz2⟩ := info_timer
  have hxl : xb < w.heap.size := hx.lt
  have hb3 : (i : Int) ≤ (L.length : Int) := by omega
  obtain ⟨CX, hCX⟩ : ∃ CX, CX = (tcells t).toList := ⟨_, rfl⟩
  have hCX3 : CX.length = 3 := by rw [hCX]; rfl
  have h1X : ∀ v ∈ CX, v.oneCell' = true := fun v hv => by
    rw [hCX] at hv
    simp only [List.mem_cons, List.not_mem_nil, or_false] at hv
    rcases hv with rfl | rfl | rfl <;> rfl
  have hbx : ∀ W : World, W.heap[xb]? = w.heap[xb]? → ∀ j u, CX[j]? = some u → W.cell? ((⟨xb, 0, none⟩ : Addr).add j) = some u := fun W hW j u hu => by
    rw [addr_plus, Nat.zero_add]
    have : HasBox W xb 29 (tcells t) := hW.trans hx
    rw [this.cell j]
    rw [hCX] at hu
    simpa using hu
  have hlen' : (L.take i ++ t :: L.drop i).length = L.length + 1 := by simp; omega
  have htc : timerCells (t :: L.drop i) = CX ++ timerCells (L.drop i) := by rw [hCX]; rfl
  by_cases hin : i = L.length
  · subst hin
    obtain ⟨ao, cap, rfl⟩ := (isRow_own ho).shaped
    have hIR : IsRow 3 w (.slice (some ⟨xb, 0, none⟩) 1 1) 1 CX := ⟨by rw [hCX3], ⟨by unfold maxLen; omega, by unfold roomy maxLen; omega⟩, .inr ⟨by decide, xb, 0, 1, rfl, hxl, fun j hj => by rw [Nat.zero_add, hx.cell j, hCX]; simp⟩⟩
    have hncap : L.length ≤ cap := (isRow_own ho).2.1.2.1
    have HO : Hid (w.ownsRow base 29 3 (.slice ao L.length cap) L.length (timerCells L)) := ho
    clear ho
    have HL : Hid ((L.take L.length ++ t :: L.drop L.length).length = L.length + 1) := hlen'
    have HC : Hid (timerCells (L.take L.length ++ t :: L.drop L.length) = timerCells L ++ CX) := by
      show _ = _
      rw [timerCells_append, htc, List.take_length, List.drop_length]; simp [timerCells]
    obtain ⟨A, hA⟩ : ∃ A, (if cap = L.length then ao else Option.map (fun x => x.add (L.length * 3)) ao) = A := ⟨_, rfl⟩
    clear hlen' htc hCX
    go_enter Try.func28, Try.ntmps28
    go_wp2_with (at_builtin; refine wpList_append_row rfl (.tmp 23) (.tmp 24) 40 rfl base 29 i0 _ 3 24 Try.underlying40 hi0 hz0 hz1 hz2 rfl (by decide) _ L.length _ rfl HO.out _ 1 CX rfl hIR h1X (by unfold maxLen; omega) (by omega) hb0 ?_)
    intro v' w5 hown hgrow hat
    have HO5 : Hid (w5.ownsRow base 29 3 v' (L.length + 1) (timerCells L ++ CX)) := hown
    have HG5 : Hid (w.grownBy w5 (Value.ownBlock (.slice ao L.length cap)) ∧ (v'.ownBlock = Value.ownBlock (.slice ao L.length cap) ∨ v'.ownBlock = some w.heap.size)) := ⟨hgrow, hat⟩
    clear hown hgrow hat
    go_wp2
    go_ret
    exact ⟨v', rfl, by rw [HL.out, HC.out]; exact HO5.out, HG5.out.1, HG5.out.2⟩
  · have hlt : i < L.length := by omega
    have hne0 : ¬ (i : Int) = (L.length : Int) := by omega
    obtain ⟨g, cap, cur, rfl, hbg, hgl, hg, hnc, hcm, hcl, hct⟩ := ownT_block ho rfl (by omega)
    obtain ⟨C, hC⟩ : ∃ C, C = timerCells L := ⟨_, rfl⟩
    obtain ⟨CT, hCT⟩ : ∃ CT, CT = C.drop (i * 3) := ⟨_, rfl⟩
    have hCl : C.length = L.length * 3 := by rw [hC]; exact timerCells_length L
    have hCTl : CT.length = (L.length - i) * 3 := by rw [hCT, List.length_drop, hCl, Nat.sub_mul]
    have h1T : ∀ v ∈ CT, v.oneCell' = true := fun v hv => by rw [hCT, hC] at hv; exact timerCells_one L v (List.mem_of_mem_drop hv)
    have hgx : xb ≠ g := fun e => hne (by rw [e]; rfl)
    have hsz : (Try.prog.info? 29).map (·.size) = some 3 := sizeTimer
    have HC : Hid (timerCells (L.take i ++ t :: L.drop i) = C.take (i * 3) ++ (CX ++ CT)) := by
      show _ = _
      rw [timerCells_append, htc, timerCells_take, timerCells_drop, hCT, hC]
    have HL : Hid ((L.take i ++ t :: L.drop i).length = L.length + 1) := hlen'
    have HCt : Hid (cur.take (L.length * 3) = C) := by show _ = _; rw [hct, hC]
    have HCT : Hid (CT = C.drop (i * 3)) := hCT
    have hi1 : i + 1 ≤ L.length + 1 := by omega
    have hb4 : (0 : Int) ≤ (i : Int) + 1 := by omega
    have hb5 : (i : Int) + 1 ≤ (L.length : Int) + 1 := by omega
    have hb6 : (i : Int) ≤ (L.length : Int) + 1 := by omega
    have hw1 : IntKind.i64.wrap ((i : Int) + 1) = (i : Int) + 1 := by rw [IntKind.wrap_i64]; omega
    have htn : ((i : Int) + 1).toNat = i + 1 := by omega
    have htn2 : ((L.length : Int) + 1).toNat = L.length + 1 := by omega
    have hn1 : CX.length = Nat.min 1 (L.length + 1 - i) * 3 := by rw [hCX3, show Nat.min 1 (L.length + 1 - i) = 1 from Nat.min_eq_left (by omega)]
    have hm2 : Nat.min (L.length - i) (L.length + 1 - (i + 1)) = L.length - i := Nat.min_eq_left (by omega)
    have hsT : ∀ W : World, W.heap[g]? = w.heap[g]? → ∀ j v, CT[j]? = some v → W.cell? ((⟨g, i * 3, none⟩ : Addr).add j) = some v := fun W hW j v hv => by
      have hj : j < CT.length := (List.getElem?_eq_some_iff.1 hv).1
      rw [addr_plus, cell_of_row W g _ cur.toArray _ (0, 0) (hW.trans hg)]
      rw [hCT, List.getElem?_drop, ← HCt.out, List.getElem?_take, if_pos (by omega)] at hv
      simpa using hv
    by_cases hroom : cap = L.length
    · subst hroom
      obtain ⟨G, ROW, W1, hrz, hR1, hG1, hG2, hRl, hRt, hB1⟩ := append_zeros (P := Try.prog) w 40 3 29 i0 (tval noTimer) 3 24 Try.underlying40 Try.underlying3 hi0 hz0 hz1 hz2 rfl (by decide) base g L.length i (L.length + 1 - i) (timerCells L) ho hlt rfl (by omega) (by omega)
      have hkk : ((L.length + 1 - i : Nat) : Int) = (L.length : Int) + 1 - (i : Int) := by omega
      rw [hkk] at hrz
      have hGi : ¬ G = i := by omega
      have hGi1 : ¬ G = i + 1 := by omega
      have hz3 : (L.length : Int) < (L.length : Int) + 1 := by omega
      have hsX : ∀ j v, CX[j]? = some v → W1.cell? ((⟨xb, 0, none⟩ : Addr).add j) = some v := hbx W1 (hB1.block xb hxl)
      have HsT : Hid (∀ W2 : World, W1.grownBy W2 (some w.heap.size) → ∀ j v, CT[j]? = some v → W2.drew.cell? ((⟨g, i * 3, none⟩ : Addr).add j) = some v) := fun W2 hg2 => hsT W2.drew ((hg2.block g (by have := hB1.size; omega) (by simp; omega)).trans (hB1.block g hgl))
      have hR2l : (splice ROW (i * 3) CX).length = G * 3 := (length_splice _ _ _ (by omega)).trans hRl
      have HRt : Hid (ROW.take (i * 3) = C.take (i * 3)) := by show _ = _; rw [hRt, hC]
      have HB1 : Hid (Below w.heap.size w W1) := hB1
      have hin2 : ¬ L.length = i := fun e => hin e.symm
      clear hkk hCT hCX hRt hB1 hbx hsT htc hlen' hct hC ho hb0
      go_enter Try.func28, Try.ntmps28
      go_wp2_with (first | (at_builtin; refine Lib.wpList_append_run _ rfl _ _ _ _ rfl _ _ rfl rfl _ _ (hrz _) ?_) | (refine wpList_copy_wide rfl (.tmp 43) (.tmp 44) 40 40 rfl 29 3 Try.underlying40 hsz w.heap.size (i * 3) (L.length + 1 - i) (G - i) ⟨xb, 0, none⟩ 1 1 rfl rfl ROW 29 hR1 CX hn1 hsX (by omega) h1X ?_) | fail)
      intro W2 hR2 hg2
      have HR2 : Hid _ := hR2
      have HG2 : Hid (W1.grownBy W2 (some w.heap.size)) := hg2
      clear hR2 hg2
      go_wp2_with fail
      go_region_law (refine step_copy_wide rfl (.tmp 50) (.tmp 53) 40 40 rfl 29 3 Try.underlying40 hsz w.heap.size ((i + 1) * 3) (L.length + 1 - (i + 1)) (G - (i + 1)) ⟨g, i * 3, none⟩ (L.length - i) (L.length - i) (by simp [Act.eval, Act.put]) (by simp [Act.eval, Act.put]) (splice ROW (i * 3) CX) 29 HR2.out CT (by rw [hm2]; exact hCTl) (HsT.out W2 HG2.out) (by omega) h1T ?_; intro W3 hR3 hg3)
      have HR3 : Hid _ := hR3
      have HG3 : Hid (W2.drew.grownBy W3 (some w.heap.size)) := hg3
      clear hR3 hg3
      go_wp2
      go_ret
      have hz1 : w.heap.size ≤ W1.heap.size := HB1.out.size
      have HB2 : Below w.heap.size w W2 := HB1.out.grown HG2.out hz1 (fun k hk => by cases hk; exact Nat.le_refl _)
      have HB3 : Below w.heap.size w W3 := HB2.drew.grown HG3.out HB2.size (fun k hk => by cases hk; exact Nat.le_refl _)
      refine ⟨.slice (some ⟨w.heap.size, 0, none⟩) (L.length + 1) G, rfl, ⟨timerCells_length _, .inr ⟨w.heap.size, G, _, by rw [HL.out], by omega, HR3.out, by rw [HL.out]; omega, hG2, ?_, ?_⟩⟩, grown_of_below HB3 _, .inr rfl⟩
      · rw [List.size_toArray]
        exact (length_splice _ _ _ (by omega)).trans hR2l
      · rw [HL.out, HC.out]
        refine (take_splice_hi _ _ _ _ (by omega) (by omega)).trans ?_
        rw [take_splice_hi _ _ _ _ (by omega) (by omega), HRt.out, List.append_assoc]
    · have hroom2 : L.length + 1 ≤ cap := by omega
      have hcap1 : (L.length : Int) + 1 ≤ (cap : Int) := by omega
      have hcap2 : ¬ (cap : Int) < (L.length : Int) + 1 := by omega
      have hcap3 : ¬ cap = i + 1 := by omega
      have hcap4 : ¬ cap = i := by omega
      have hcm2 : (cap : Int) ≤ 9223372036854775807 := by unfold maxLen at hcm; omega
      have hov : ∀ lb cb, (callFunc 34 #[.slice (some ⟨xb, 0, none⟩) 1 1, .slice (some ⟨g, (i + 1) * 3, none⟩) lb cb]).run Try.prog w = .ok (.value (.bool false)) w := fun lb cb => by
        have hz : ∀ w, (Go.sizeOf 29).run Try.prog w = .ok 3 w := fun w => by
          simp [sizeOf, typeInfo, hi0, hz1]
        have hsA : w.shape? xb = some (29, 3) := by
          unfold World.shape?; rw [show w.heap[xb]? = some (.cells (tcells t) 29 (0, 0)) from hx]; rfl
        have hsB : w.shape? g = some (29, cur.length) := by
          unfold World.shape?; rw [hg]; simp
        rw [run_callFunc_extern Try.func34 (by kernel_rfl) (by kernel_rfl) (by kernel_rfl) (e := Extern.SlicesOverlaps.overlaps #[40, 40] #[4]) (by kernel_rfl),
          Lib.run_overlaps_apart w 40 4 29 Try.underlying40 3 hz ⟨xb, 0, none⟩ ⟨g, (i + 1) * 3, none⟩ 1 1 lb cb hgx _ _ _ _ hsA hsB (by rw [hcl]; omega) (hx.frozen 0) (hx.frozen 3)]
        rfl
      have HsT : Hid (∀ j v, CT[j]? = some v → w.drew.cell? ((⟨g, i * 3, none⟩ : Addr).add j) = some v) := hsT w.drew rfl
      have HbX : Hid (∀ W : World, W.heap[xb]? = w.heap[xb]? → ∀ j u, CX[j]? = some u → W.cell? ((⟨xb, 0, none⟩ : Addr).add j) = some u) := hbx
      have hR1l : (splice cur ((i + 1) * 3) CT).length = cap * 3 := (length_splice _ _ _ (by omega)).trans hcl
      have hm5 : Nat.min (L.length + 1 - i) (L.length + 1 - (i + 1)) = L.length - i := (Nat.min_eq_right (by omega)).trans (by omega)
      clear hCT hCX hbx hsT htc hlen' hct hC ho
      go_enter Try.func28, Try.ntmps28
      go_wp2_with (simp only [hov])
      go_region_law (refine step_copy_wide rfl (.tmp 73) (.tmp 76) 40 40 rfl 29 3 Try.underlying40 hsz g ((i + 1) * 3) (L.length + 1 - (i + 1)) (cap - (i + 1)) ⟨g, i * 3, none⟩ (L.length + 1 - i) (cap - i) (by simp [Act.eval, Act.put]) (by simp [Act.eval, Act.put]) cur 29 hg CT (by rw [hm5]; exact hCTl) HsT.out (by omega) h1T ?_; intro W2 hR2 hg2)
      have HR2 : Hid _ := hR2
      have HG2 : Hid (w.drew.grownBy W2 (some g)) := hg2
      have hsX : ∀ j v, CX[j]? = some v → W2.cell? ((⟨xb, 0, none⟩ : Addr).add j) = some v := HbX.out W2 (hg2.block xb hxl (by simp; exact hgx))
      clear hR2 hg2
      go_wp2_with (first | (refine wpList_copy_wide rfl (.tmp 80) (.tmp 81) 40 40 rfl 29 3 Try.underlying40 hsz g (i * 3) (L.length + 1 - i) (cap - i) ⟨xb, 0, none⟩ 1 1 rfl rfl (splice cur ((i + 1) * 3) CT) 29 HR2.out CX hn1 hsX (by omega) h1X ?_) | fail)
      intro W3 hR3 hg3
      have HR3 : Hid _ := hR3
      have HG3 : Hid (W2.grownBy W3 (some g)) := hg3
      clear hR3 hg3
      go_wp2
      go_ret
      have hgr : w.drew.grownBy W3 (some g) := HG2.out.trans HG3.out
      refine ⟨.slice (some ⟨g, 0, none⟩) (L.length + 1) cap, rfl, ⟨timerCells_length _, .inr ⟨g, cap, _, by rw [HL.out], hbg, HR3.out, by rw [HL.out]; omega, hcm, ?_, ?_⟩⟩, ⟨hgr.os, hgr.tape, hgr.output, hgr.size, hgr.block⟩, .inl rfl⟩
      · rw [List.size_toArray]
        exact (length_splice _ _ _ (by omega)).trans hR1l
      · rw [HL.out, HC.out]
        show (splice (splice cur ((i + 1) * 3) CT) (i * 3) CX).take _ = _
        exact take_two cur CT CX C (i * 3) ((i + 1) * 3) _ (by omega) (by rw [← HCt.out, List.take_take, Nat.min_eq_left (by omega)]) (by omega) (by omega)

end Go.Proofs.Ytelpdmaphmfkiaa

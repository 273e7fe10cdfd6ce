/-
  Contracts of package slices at hosts: one cut out of a row that is just full, one put in.
-/
import Derived.Test.YtcafjjfaamjipaaTableCopied
import Derived.Test.YtcafjjfaamjipaaRowEdit
namespace Go.Proofs.Ytcafjjfaamjipaa
open Go.RowKit

theorem hostCells_take (hs : List HostT) (vs : List Value) (h : vs.length = hs.length) (i : Nat) : hostCells (hs.take i) (vs.take i) = (hostCells hs vs).take (i * 6) := by
  induction hs generalizing vs i with
  | nil => cases vs with
    | nil => simp [hostCells]
    | cons _ _ => simp at h
  | cons x r ih =>
    cases vs with
    | nil => simp at h
    | cons v vr =>
      cases i with
      | zero => simp [hostCells]
      | succ i =>
        rw [show (i + 1) * 6 = i * 6 + 6 by omega]
        simp [hostCells, ih vr (by simpa using h)]
theorem hostCells_drop (hs : List HostT) (vs : List Value) (h : vs.length = hs.length) (i : Nat) : hostCells (hs.drop i) (vs.drop i) = (hostCells hs vs).drop (i * 6) := by
  induction hs generalizing vs i with
  | nil => cases vs with
    | nil => simp [hostCells]
    | cons _ _ => simp at h
  | cons x r ih =>
    cases vs with
    | nil => simp at h
    | cons v vr =>
      cases i with
      | zero => simp [hostCells]
      | succ i =>
        rw [show (i + 1) * 6 = i * 6 + 6 by omega]
        simp [hostCells, ih vr (by simpa using h)]
theorem hostCells_append (hs ks : List HostT) (vs us : List Value) (h : vs.length = hs.length) : hostCells (hs ++ ks) (vs ++ us) = hostCells hs vs ++ hostCells ks us := by
  induction hs generalizing vs with
  | nil => cases vs with
    | nil => rfl
    | cons _ _ => simp at h
  | cons x r ih =>
    cases vs with
    | nil => simp at h
    | cons v vr => simp [hostCells, ih vr (by simpa using h)]
theorem hostCells_one (hs : List HostT) (vs : List Value) (h : ∀ i, i < hs.length → ∃ ao n c, vs.getD i nilW = .slice ao n c) (hl : vs.length = hs.length) : ∀ u ∈ hostCells hs vs, u.oneCell' = true := by
  induction hs generalizing vs with
  | nil => simp [hostCells]
  | cons x r ih =>
    cases vs with
    | nil => simp [hostCells]
    | cons v vr =>
      intro u hu
      obtain ⟨ao, n, c, hv⟩ := h 0 (by simp)
      simp only [List.getD_cons_zero] at hv
      simp only [hostCells, List.mem_cons] at hu
      rcases hu with rfl | rfl | rfl | rfl | rfl | rfl | hu
      · rfl
      · rfl
      · rfl
      · rfl
      · rfl
      · rw [hv]; rfl
      · exact ih vr (fun i hi => by have := h (i + 1) (by simpa using hi); simpa using this) (by simpa using hl) u hu
theorem OwnHosts.oneCells {w : World} {base hT pT : Nat} {v : Value} {vs : List Value} {hs : List HostT} (h : OwnHosts w base hT pT v vs hs) : ∀ u ∈ hostCells hs vs, u.oneCell' = true :=
  hostCells_one hs vs (fun i hi => by obtain ⟨ao, c, e⟩ := (isRow_own (h.tags i hi)).shaped; exact ⟨ao, _, c, e⟩) h.same

theorem getD_less {α : Type} (l : List α) (i j : Nat) (d : α) (hi : i < l.length) : (l.take i ++ l.drop (i + 1)).getD j d = l.getD (if j < i then j else j + 1) d := by
  rw [List.getD_eq_getElem?_getD, List.getD_eq_getElem?_getD, List.getElem?_append, List.length_take, Nat.min_eq_left (by omega)]
  split
  · rw [List.getElem?_take, if_pos (by assumption)]
  · rw [List.getElem?_drop, show i + 1 + (j - i) = j + 1 by omega]
theorem getD_more {α : Type} (l : List α) (x : α) (i j : Nat) (d : α) (hi : i ≤ l.length) : (l.take i ++ x :: l.drop i).getD j d = if j < i then l.getD j d else if j = i then x else l.getD (j - 1) d := by
  rw [List.getD_eq_getElem?_getD, List.getElem?_append, List.length_take, Nat.min_eq_left hi]
  split
  · rw [List.getElem?_take, if_pos (by assumption), List.getD_eq_getElem?_getD]
  · split
    · rename_i h1 h2
      subst h2
      simp
    · obtain ⟨m, hm⟩ : ∃ m, j - i = m + 1 := ⟨j - i - 1, by omega⟩
      rw [hm, List.getElem?_cons_succ, List.getElem?_drop, show i + m = j - 1 by omega, List.getD_eq_getElem?_getD]

theorem zeros_one : ∀ u ∈ (Builtin.zeroCells (hval noHost nilW).cells 1).toList, u.oneCell' = true := by
  intro u hu
  unfold Builtin.zeroCells at hu
  rw [Array.toList_map, List.mem_map] at hu
  obtain ⟨i, hi, rfl⟩ := hu
  have h6 : i < 6 := by simp at hi; exact hi
  have : i = 0 ∨ i = 1 ∨ i = 2 ∨ i = 3 ∨ i = 4 ∨ i = 5 := by omega
  rcases this with rfl | rfl | rfl | rfl | rfl | rfl <;> rfl

set_option maxRecDepth 100000 in
set_option maxHeartbeats 4000000 in
/-- slices.Delete(l, i, i+1). -/
theorem delete_any (hs : List HostT) (vs : List Value) (i g base : Nat) (w : World) (ho : OwnHosts w base 25 48 (.slice (some ⟨g, 0, none⟩) hs.length hs.length) vs hs) (hi : i < hs.length) (h64 : hs.length ≤ 64) (hb0 : base ≤ w.heap.size) :
    Calls Try.prog 33 #[.slice (some ⟨g, 0, none⟩) hs.length hs.length, .int .i64 i, .int .i64 (i + 1 : Nat)] w fun e w' => ∃ v' vs', e = .returned v' ∧ OwnHosts w' base 25 48 v' vs' (hs.take i ++ hs.drop (i + 1)) ∧ Below base w w' := by
  obtain ⟨i0, hi0, hz0, hz1, hz2⟩ := info_of infoHost
  obtain ⟨cur, hg, hcur, hbg⟩ : ∃ cur : List Value, w.heap[g]? = some (.cells cur.toArray 25 (0, 0)) ∧ cur = hostCells hs vs ∧ base ≤ g := by
    rcases ho.row.2 with ⟨h, _⟩ | ⟨g', cap, cur, h, hb, hg, hn, hm, hs', ht⟩
    · simp at h
    · simp only [Value.slice.injEq, Option.some.injEq, Addr.mk.injEq, and_true] at h
      obtain ⟨rfl, _, rfl⟩ := h
      refine ⟨cur.toList, by simpa using hg, ?_, hb⟩
      rw [← ht, List.take_of_length_le (by simp [hs'])]
  have hcl : cur.length = hs.length * 6 := by rw [hcur]; exact hostCells_length _ _ ho.same
  have hone : ∀ u ∈ cur.drop ((i + 1) * 6), u.oneCell' = true := fun u hu => ho.oneCells u (by rw [← hcur]; exact List.mem_of_mem_drop hu)
  obtain ⟨news, hnews⟩ : ∃ news, news = cur.drop ((i + 1) * 6) := ⟨_, rfl⟩
  have hnl : news.length = (hs.length - (i + 1)) * 6 := by rw [hnews, List.length_drop, hcl, Nat.sub_mul]
  rw [← hnews] at hone
  obtain ⟨A, hA, hsrc⟩ : ∃ A : Addr, (if hs.length = i + 1 then some (⟨g, 0, none⟩ : Addr) else some ⟨g, (i + 1) * 6, none⟩) = some A ∧ Hid (∀ j u, news[j]? = some u → w.drew.cell? (A.add j) = some u) := by
    by_cases h : hs.length = i + 1
    · refine ⟨⟨g, 0, none⟩, by simp [h], fun j u hu => ?_⟩
      have h0 : news.length = 0 := by rw [hnl]; omega
      rw [List.length_eq_zero_iff.1 h0] at hu
      simp at hu
    · refine ⟨⟨g, (i + 1) * 6, none⟩, by simp [h], fun j u hu => ?_⟩
      rw [hnews, List.getElem?_drop] at hu
      have hadd : (⟨g, (i + 1) * 6, none⟩ : Addr).add j = ⟨g, (i + 1) * 6 + j, none⟩ := by unfold Addr.add; split <;> simp_all
      rw [hadd]
      show w.cell? _ = _
      rw [cell_of_row w g _ cur.toArray _ (0, 0) hg]
      simpa using hu
  have HCur : Hid (cur = hostCells hs vs) := hcur
  have HNews : Hid (news = cur.drop ((i + 1) * 6)) := hnews
  have HO : Hid (OwnHosts w base 25 48 (.slice (some ⟨g, 0, none⟩) hs.length hs.length) vs hs) := ho
  clear hcur hnews ho
  have hic : i ≤ hs.length := by omega
  have hjc : i + 1 ≤ hs.length := hi
  have hb1 : (0 : Int) ≤ (i : Int) + 1 := by omega
  have hb3 : (i : Int) + 1 ≤ (hs.length : Int) := by omega
  obtain ⟨m, hm⟩ : ∃ m, hs.length - 1 = m := ⟨_, rfl⟩
  have hm1 : ¬ hs.length = m := by omega
  have hm2 : m ≤ hs.length := by omega
  have hm3 : hs.length - m = 1 := by omega
  go_enter Try.func33, Try.ntmps33
  go_wp2_with fail
  go_region_law (refine step_append_splice rfl (.tmp 22) (.tmp 25) 22 rfl 25 i0 6 Try.underlying22 hi0 hz1 g i hs.length (by simp [Act.eval, Act.put]) cur hg A (hs.length - (i + 1)) (hs.length - (i + 1)) news (by simp [Act.eval, Act.put]) hnl hsrc.out hone (by omega) (by omega) m (by omega) ?_; intro w4 hg4 hb4)
  have hl4 : (splice cur (i * 6) news).length = hs.length * 6 := by rw [length_splice _ _ _ (by omega)]; exact hcl
  have HB4 : Hid (w.drew.grownBy w4 (some g)) := hb4
  clear hb4
  go_wp2_with (first | (refine wpList_clear_wide rfl (.tmp 31) 22 rfl 25 i0 _ 6 Try.underlying22 hi0 hz0 rfl g (m * 6) 1 1 (by decide) rfl _ 25 hg4.out zeros_one (by omega) ?_) | fail)
  intro w5 hg5 hb5
  have HB5 : Hid (w4.grownBy w5 (some g)) := hb5
  clear hb5
  go_wp2
  go_ret
  have hgr : w.drew.grownBy w5 (some g) := HB4.out.trans HB5.out
  have ho := HO.out
  have hz6 : (Builtin.zeroCells (hval noHost nilW).cells 1).toList.length = 6 := by rw [Array.length_toList, size_zeroCells]; rfl
  have hln : i * 6 + news.length = m * 6 := by rw [hnl]; omega
  have hrow : w.ownsRow base 25 6 (.slice (some ⟨g, 0, none⟩) hs.length hs.length) hs.length (hostCells hs vs) := ho.row
  refine ⟨_, vs.take i ++ vs.drop (i + 1), rfl, ⟨by simp [ho.same], ⟨by rw [hostCells_length _ _ (by simp [ho.same])], .inr ⟨g, hs.length, _, ?_, hbg, hg5.out, ?_, by unfold maxLen; omega, ?_, ?_⟩⟩, fun j hj => ?_⟩, ?_⟩
  · simp; omega
  · simp; omega
  · rw [List.size_toArray]
    refine (length_splice _ _ _ (Nat.le_trans (Nat.add_le_add_left (Nat.le_of_eq hz6) _) (by omega))).trans hl4
  · have e1 : (hs.take i ++ hs.drop (i + 1)).length * 6 = m * 6 := by simp; omega
    rw [e1]
    refine (take_splice_lo _ _ _ _ (Nat.le_refl _) (by omega)).trans ?_
    rw [take_splice_hi _ _ _ _ (by omega) (by omega), hostCells_append _ _ _ _ (by simp [ho.same]), hostCells_take _ _ ho.same, hostCells_drop _ _ ho.same, HNews.out, HCur.out]
  · have e1 : (hs.take i ++ hs.drop (i + 1)).length = hs.length - 1 := by simp; omega
    rw [e1] at hj
    rw [getD_less vs i j nilW (by rw [ho.same]; exact hi), getD_less hs i j noHost hi]
    refine own_grown (w := w.drew) (ho.tags (if j < i then j else j + 1) (by split <;> omega)) hgr fun k hk e => own_ne_own (ho.tags (if j < i then j else j + 1) (by split <;> omega)) hrow pair_ne_host k hk e
  · exact ((Below.refl _ _).drew).grown hgr hb0 (fun k hk => by cases hk; exact hbg)

end Go.Proofs.Ytcafjjfaamjipaa

/-
  Contracts of package table: split, Change.
-/
import Derived.Test.YtcafjjfaamjipaaTableFind
import Derived.Test.YtcafjjfaamjipaaRefChange2
import Derived.BigQuiet
namespace Go.Proofs.Ytcafjjfaamjipaa
open Go.RowKit

set_option maxRecDepth 100000 in
set_option maxHeartbeats 8000000 in
theorem split_any (ts ls : List HostT) (v u : Value) (vs us : List Value) (w : World) (hv : IsHosts w v vs ts) (hu : IsHosts w u us ls) (ht : mayTab ts = true) (hl : mayTab ls = true) :
    Calls Try.prog 34 #[v, u] w fun e w' => ∃ a b, e = .returned (.tuple #[a, b]) ∧ IsInts w' a (stayH ls ts) ∧ IsInts w' b (comeH ls ts) ∧ Below w.heap.size w w' := by
  obtain ⟨so, sc, rfl⟩ := hv.shaped
  obtain ⟨lo, lc, rfl⟩ := hu.shaped
  have HT : Hid (IsHosts w (.slice so ts.length sc) vs ts) := hv
  have HS : Hid (IsHosts w (.slice lo ls.length lc) us ls) := hu
  obtain ⟨i0, hi, hz0, hz1, hz2⟩ := info_of infoInt
  have h64 : ls.length ≤ 64 := mayTab_le hl
  have h64t : ts.length ≤ 64 := mayTab_le ht
  have HI : Hid (mayTab ts = true ∧ mayTab ls = true) := ⟨ht, hl⟩
  clear hv hu ht hl
  go_enter Try.func34, Try.ntmps34
  go_wp2
  go_loopw [4, 5, 11] (fun z c i wr => ∃ k : Nat, k ≤ ts.length ∧ i = .int .i64 k ∧ Three wr w.heap.size 3 c (comeH ls (ts.take k)) z (stayH ls (ts.take k)) nilW [] ∧ Below w.heap.size w wr) (fun _ _ i _ => ts.length - (intOf i).toNat)
  case atStart => exact ⟨0, Nat.zero_le _, rfl, by simpa [comeH, stayH] using three_nil w w.heap.size 3, Below.refl _ _⟩
  case round =>
    obtain ⟨k, hk, rfl, h3, hb⟩ := hrel
    obtain ⟨co, cc, hco⟩ := (isRow_own h3.o1).shaped
    obtain ⟨zo, zc, hzo⟩ := (isRow_own h3.o2).shaped
    have H3 : Hid (Three wr w.heap.size 3 u5 (comeH ls (ts.take k)) u4 (stayH ls (ts.take k)) nilW []) := h3
    have HB : Hid (Below w.heap.size w wr) := hb
    have hcl := Nat.le_trans (comeH_len ls (ts.take k)) (show (ts.take k).length ≤ 64 by rw [List.length_take]; omega)
    have hzl := Nat.le_trans (stayH_len ls (ts.take k)) (show (ts.take k).length ≤ 64 by rw [List.length_take]; omega)
    clear h3 hb
    subst hco
    subst hzo
    by_cases hlt : k < ts.length
    · have hC := comeH_take (l := ls) hlt
      have hZ := stayH_take (l := ls) hlt
      obtain ⟨ta, tc, htv⟩ := (HT.out.tags k hlt).shaped
      obtain ⟨b, off, hso, hbl, c0, c1, c2, c3, c4, c5⟩ := (HT.out.below HB.out).at k hlt
      rw [htv] at c5
      generalize ts.getD k noHost = x at c0 c1 c2 c3 c4 c5 hC hZ
      have HC : Hid (comeH ls (ts.take (k + 1)) = comeH ls (ts.take k) ++ (if standsH ls x then [] else [x.id])) := hC
      have HZ : Hid (stayH ls (ts.take (k + 1)) = stayH ls (ts.take k) ++ (if standsH ls x then [x.id] else [])) := hZ
      generalize comeH ls (ts.take k) = cl at H3 HC hcl
      generalize stayH ls (ts.take k) = zl at H3 HZ hzl
      clear hC hZ htv
      have KF := fun W q => tfind_any ls x.id (.slice lo ls.length lc) us W q
      have hfa := findH_at ls x.id
      have HSt : Hid (standsH ls x = (decide (0 ≤ findH ls x.id) && ((ls.getD (findH ls x.id).toNat noHost).addr.toList == x.addr.toList))) := rfl
      generalize findH ls x.id = f at KF hfa HSt
      subst hso
      go_wp2_with fail
      refine (KF _ (HS.out.below (HB.out.alloc HB.out.size _))).mono ?_
      rintro e w5 ⟨rfl, hb⟩
      have HX5 : Hid (HasBox w5 wr.heap.size 25 (hcells x (.slice ta x.tags.length tc))) := (hasBox_new wr _ _).below hb
      have HT5 : Hid (Three w5 w.heap.size 3 (.slice co cl.length cc) cl (.slice zo zl.length zc) zl nilW []) := (H3.out.below ((Below.refl _ _).alloc (Nat.le_refl _) _)).below hb
      have HB5 : Hid (Below w.heap.size w w5) := (HB.out.alloc HB.out.size _).trans (hb.mono (by have := HB.out.size; simp; omega))
      have x0 : w5.cell? ⟨wr.heap.size, 0, none⟩ = some (.int .i64 x.id) := HX5.out.cell 0
      have x1 : w5.cell? ⟨wr.heap.size, 1, none⟩ = some (.string x.addr) := HX5.out.cell 1
      clear hb KF c0 c1 c2 c3 c4 c5 H3 HB
      rcases hfa with rfl | ⟨j, hj, rfl⟩
      · have HNo : Hid (standsH ls x = false) := by show _ = _; rw [HSt.out]; rfl
        clear HSt
        go_wp2
        go_quiet (fail)
        rename_i nq
        have HQ : Hid (Below w5.heap.size w5 (w5.drewN nq)) := below_drewN (Below.refl _ _) nq
        generalize w5.drewN nq = W at HQ ⊢
        have HTW : Hid _ := HT5.out.below HQ.out
        have HBW : Hid (Below w.heap.size w W) := HB5.out.trans (HQ.out.mono HB5.out.size)
        have cid : W.cell? ⟨wr.heap.size, 0, none⟩ = some (.int .i64 x.id) := (HX5.out.below HQ.out).cell 0
        clear x0 x1
        have HTa := fun o => HTW.out.below ((Below.refl W.heap.size W).alloc (Nat.le_refl _) o)
        go_wp2_with (at_builtin; refine wpList_append_row rfl (.tmp 36) (.tmp 39) 33 rfl w.heap.size 3 i0 _ 1 8 Try.underlying33 hi hz0 hz1 hz2 rfl (by decide) _ (cl).length _ rfl (HTa _).o1 _ 1 [.int .i64 x.id] rfl (int_row _ x.id _ _ rfl) (by simp [Value.oneCell']) (by unfold maxLen; omega) (by omega) (by have := HBW.out.size; simp; omega) ?_)
        intro va wa hown hgrow hat
        have HBa : Hid (Below w.heap.size w wa) := (HBW.out.alloc HBW.out.size _).grown hgrow (by have := HBW.out.size; simp; omega) (own_base HTW.out.o1)
        have H3a : Hid (Three wa w.heap.size 3 va (cl ++ [x.id]) (.slice zo zl.length zc) zl nilW []) := (HTa _).snoc1 hown hgrow (by rw [World.size_alloc]; exact hat)
        have HCn : Hid (comeH ls (ts.take (k + 1)) = cl ++ [x.id]) := by show _ = _; rw [HC.out, HNo.out]; rfl
        have HZn : Hid (stayH ls (ts.take (k + 1)) = zl) := by show _ = _; rw [HZ.out, HNo.out]; simp
        clear hown hgrow hat HTa HC HZ
        go_wp2
        go_roundw
        case rel => exact ⟨k + 1, by omega, by go_num, by rw [HCn.out, HZn.out]; exact H3a.out, HBa.out⟩
        case measure => simp [intOf]; omega
      · obtain ⟨fb, fo, rfl, hfb, d0, d1, _⟩ := (HS.out.below HB5.out).at j hj
        obtain ⟨ya, hya⟩ : ∃ ya, (ls.getD j noHost).addr = ya := ⟨_, rfl⟩
        rw [hya] at d1
        have hj2 : (j : Int) < (ls.length : Int) := by omega
        cases hq : (ya.toList == x.addr.toList) with
        | false =>
          have HNo : Hid (standsH ls x = false) := by show _ = _; rw [HSt.out, ← hq, ← hya]; simp
          clear HSt hya
          go_wp2
          go_quiet (fail)
          rename_i nq
          have HQ : Hid (Below w5.heap.size w5 (w5.drewN nq)) := below_drewN (Below.refl _ _) nq
          generalize w5.drewN nq = W at HQ ⊢
          have HTW : Hid _ := HT5.out.below HQ.out
          have HBW : Hid (Below w.heap.size w W) := HB5.out.trans (HQ.out.mono HB5.out.size)
          have cid : W.cell? ⟨wr.heap.size, 0, none⟩ = some (.int .i64 x.id) := (HX5.out.below HQ.out).cell 0
          clear x0 x1
          have HTa := fun o => HTW.out.below ((Below.refl W.heap.size W).alloc (Nat.le_refl _) o)
          go_wp2_with (at_builtin; refine wpList_append_row rfl (.tmp 36) (.tmp 39) 33 rfl w.heap.size 3 i0 _ 1 8 Try.underlying33 hi hz0 hz1 hz2 rfl (by decide) _ (cl).length _ rfl (HTa _).o1 _ 1 [.int .i64 x.id] rfl (int_row _ x.id _ _ rfl) (by simp [Value.oneCell']) (by unfold maxLen; omega) (by omega) (by have := HBW.out.size; simp; omega) ?_)
          intro va wa hown hgrow hat
          have HBa : Hid (Below w.heap.size w wa) := (HBW.out.alloc HBW.out.size _).grown hgrow (by have := HBW.out.size; simp; omega) (own_base HTW.out.o1)
          have H3a : Hid (Three wa w.heap.size 3 va (cl ++ [x.id]) (.slice zo zl.length zc) zl nilW []) := (HTa _).snoc1 hown hgrow (by rw [World.size_alloc]; exact hat)
          have HCn : Hid (comeH ls (ts.take (k + 1)) = cl ++ [x.id]) := by show _ = _; rw [HC.out, HNo.out]; rfl
          have HZn : Hid (stayH ls (ts.take (k + 1)) = zl) := by show _ = _; rw [HZ.out, HNo.out]; simp
          clear hown hgrow hat HTa HC HZ
          go_wp2
          go_roundw
          case rel => exact ⟨k + 1, by omega, by go_num, by rw [HCn.out, HZn.out]; exact H3a.out, HBa.out⟩
          case measure => simp [intOf]; omega
        | true =>
          have HYe : Hid (standsH ls x = true) := by show _ = _; rw [HSt.out, ← hq, ← hya]; simp
          clear HSt hya
          go_wp2
          go_quiet (fail)
          rename_i nq
          have HQ : Hid (Below w5.heap.size w5 (w5.drewN nq)) := below_drewN (Below.refl _ _) nq
          generalize w5.drewN nq = W at HQ ⊢
          have HTW : Hid _ := HT5.out.below HQ.out
          have HBW : Hid (Below w.heap.size w W) := HB5.out.trans (HQ.out.mono HB5.out.size)
          have cid : W.cell? ⟨wr.heap.size, 0, none⟩ = some (.int .i64 x.id) := (HX5.out.below HQ.out).cell 0
          clear x0 x1
          have HTa := fun o => HTW.out.below ((Below.refl W.heap.size W).alloc (Nat.le_refl _) o)
          go_wp2_with (at_builtin; refine wpList_append_row rfl (.tmp 31) (.tmp 34) 33 rfl w.heap.size 3 i0 _ 1 8 Try.underlying33 hi hz0 hz1 hz2 rfl (by decide) _ (zl).length _ rfl (HTa _).o2 _ 1 [.int .i64 x.id] rfl (int_row _ x.id _ _ rfl) (by simp [Value.oneCell']) (by unfold maxLen; omega) (by omega) (by have := HBW.out.size; simp; omega) ?_)
          intro va wa hown hgrow hat
          have HBa : Hid (Below w.heap.size w wa) := (HBW.out.alloc HBW.out.size _).grown hgrow (by have := HBW.out.size; simp; omega) (own_base HTW.out.o2)
          have H3a : Hid (Three wa w.heap.size 3 (.slice co cl.length cc) cl va (zl ++ [x.id]) nilW []) := ((HTa _).swap12.snoc1 hown hgrow (by rw [World.size_alloc]; exact hat)).swap12
          have HCn : Hid (comeH ls (ts.take (k + 1)) = cl) := by show _ = _; rw [HC.out, HYe.out]; simp
          have HZn : Hid (stayH ls (ts.take (k + 1)) = zl ++ [x.id]) := by show _ = _; rw [HZ.out, HYe.out]; rfl
          clear hown hgrow hat HTa HC HZ
          go_wp2
          go_roundw
          case rel => exact ⟨k + 1, by omega, by go_num, by rw [HCn.out, HZn.out]; exact H3a.out, HBa.out⟩
          case measure => simp [intOf]; omega
    · have hkl : ts.take k = ts := List.take_of_length_le (by omega)
      have HK : Hid (ts.take k = ts) := hkl
      clear hkl
      go_wp2
      go_ret2
      have h3 := H3.out
      have l1 : (comeH ls ts).length ≤ 64 := Nat.le_trans (comeH_len _ _) h64t
      have l2 : (stayH ls ts).length ≤ 64 := Nat.le_trans (stayH_len _ _) h64t
      have e1 : comeH ls ts = comeH ls (ts.take k) := by rw [HK.out]
      have e2 : stayH ls ts = stayH ls (ts.take k) := by rw [HK.out]
      refine ⟨_, _, rfl, ?_, ?_, HB.out⟩
      · rw [e2]
        exact isInts_own h3.o2 rfl (by omega) (by rw [← e2]; exact ids_ok HI.out.1 _)
      · rw [e1]
        exact isInts_own h3.o1 rfl (by omega) (by rw [← e1]; exact ids_ok HI.out.1 _)

end Go.Proofs.Ytcafjjfaamjipaa

/-
  The reference's answers to chapter 8: Change, walked.
-/
import Derived.Test.YtcafjjfaamjipaaRefChange
import Derived.Handy
namespace Go.Proofs.Ytcafjjfaamjipaa
open Go.RowKit

/-- What Change tells. -/
def changeR (hs ts : List HostT) : List Int × List Int × List Int × Int := if mayTab hs && mayTab ts then (comeH hs ts, comeH ts hs, stayH hs ts, 0) else ([], [], [], 1)
def Changed (p : List Int × List Int × List Int × Int) (e : Ending) (w' : World) : Prop := ∃ a b c, e = .returned (.tuple #[a, b, c, .int .i64 p.2.2.2]) ∧ IsInts w' a p.1 ∧ IsInts w' b p.2.1 ∧ IsInts w' c p.2.2.1
theorem may_id {h : HostT} (hm : mayHost h = true) : 1 ≤ h.id ∧ h.id ≤ 1000000 := by
  unfold mayHost at hm
  simp only [Bool.and_eq_true, decide_eq_true_eq] at hm
  exact hm.1.1.1.1.1.1
theorem ids_ok {ts : List HostT} (h : mayTab ts = true) (p : HostT → Bool) : ∀ x ∈ (ts.filter p).map (·.id), -9223372036854775808 ≤ x ∧ x ≤ 9223372036854775807 := by
  intro x hx
  rw [List.mem_map] at hx
  obtain ⟨y, hy, rfl⟩ := hx
  obtain ⟨i, hi, rfl⟩ := List.mem_iff_getElem.1 (List.mem_filter.1 hy).1
  have := may_id (mayTab_at h i hi)
  have e : ts.getD i noHost = ts[i] := by simp [hi]
  rw [e] at this
  omega

set_option maxRecDepth 100000 in
set_option maxHeartbeats 8000000 in
theorem rChange_any (hs ts : List HostT) (v u : Value) (vs us : List Value) (w : World) (hv : IsHosts w v vs hs) (hu : IsHosts w u us ts) :
    Calls Try.prog 16 #[v, u] w fun e w' => Changed (changeR hs ts) e w' ∧ Below w.heap.size w w' := by
  obtain ⟨lo, lc, rfl⟩ := hv.shaped
  obtain ⟨so, sc, rfl⟩ := hu.shaped
  have HS0 : Hid (IsHosts w (.slice lo hs.length lc) vs hs) := hv
  have HT0 : Hid (IsHosts w (.slice so ts.length sc) us ts) := hu
  have hl1 := hv.len
  have hl2 := hu.len
  have KM := fun W q => rMayTable_any hs (.slice lo hs.length lc) vs W q
  have KN := fun W q => rMayTable_any ts (.slice so ts.length sc) us W q
  clear hv hu
  obtain ⟨i0, hi, hz0, hz1, hz2⟩ := info_of infoInt
  obtain ⟨R, hR⟩ : ∃ R, changeR hs ts = R := ⟨_, rfl⟩
  rw [hR]
  have HR : Hid (changeR hs ts = R) := hR
  clear hR
  go_enter Try.func16, Try.ntmps16
  go_wp2_with fail
  refine (KM _ HS0.out).mono ?_
  rintro e w1 ⟨rfl, hb⟩
  have HB1 : Hid (Below w.heap.size w w1) := hb
  clear hb KM
  cases hm : mayTab hs with
  | false =>
    have HF : Hid (R = ([], [], [], 1)) := by show R = _; rw [← HR.out]; unfold changeR; rw [hm]; rfl
    go_wp2
    go_returns
    exact ⟨by rw [HF.out]; exact ⟨_, _, _, rfl, isInts_nil _, isInts_nil _, isInts_nil _⟩, HB1.out⟩
  | true =>
    go_wp2_with fail
    refine (KN _ (HT0.out.below HB1.out)).mono ?_
    rintro e w2 ⟨rfl, hb⟩
    have HB2 : Hid (Below w.heap.size w w2) := HB1.out.trans (hb.mono HB1.out.size)
    clear hb KN HB1
    cases hn : mayTab ts with
    | false =>
      have HF : Hid (R = ([], [], [], 1)) := by show R = _; rw [← HR.out]; unfold changeR; rw [hm, hn]; rfl
      go_wp2
      go_returns
      exact ⟨by rw [HF.out]; exact ⟨_, _, _, rfl, isInts_nil _, isInts_nil _, isInts_nil _⟩, HB2.out⟩
    | true =>
      have h64 : hs.length ≤ 64 := mayTab_le hm
      have h64t : ts.length ≤ 64 := mayTab_le hn
      have HF : Hid (R = (comeH hs ts, comeH ts hs, stayH hs ts, 0)) := by show R = _; rw [← HR.out]; unfold changeR; rw [hm, hn]; rfl
      have HI : Hid (mayTab hs = true ∧ mayTab ts = true) := ⟨hm, hn⟩
      have HS : Hid (IsHosts w2 (.slice lo hs.length lc) vs hs) := HS0.out.below HB2.out
      have HT : Hid (IsHosts w2 (.slice so ts.length sc) us ts) := HT0.out.below HB2.out
      clear hm hn HR HS0 HT0
      go_wp2
      go_loopw [8, 10, 27] (fun c z i wr => ∃ k : Nat, k ≤ ts.length ∧ i = .int .i64 k ∧ Three wr w2.heap.size 3 c (comeH hs (ts.take k)) z (stayH hs (ts.take k)) nilW [] ∧ Below w2.heap.size w2 wr) (fun _ _ i _ => ts.length - (intOf i).toNat)
      case atStart => exact ⟨0, Nat.zero_le _, rfl, by simpa [comeH, stayH] using three_nil w2 w2.heap.size 3, Below.refl _ _⟩
      case round =>
        obtain ⟨k, hk, rfl, h3, hb⟩ := hrel
        obtain ⟨co, cc, hco⟩ := (isRow_own h3.o1).shaped
        obtain ⟨zo, zc, hzo⟩ := (isRow_own h3.o2).shaped
        have H3 : Hid (Three wr w2.heap.size 3 u8 (comeH hs (ts.take k)) u10 (stayH hs (ts.take k)) nilW []) := h3
        have HB : Hid (Below w2.heap.size w2 wr) := hb
        have hcl := Nat.le_trans (comeH_len hs (ts.take k)) (show (ts.take k).length ≤ 64 by rw [List.length_take]; omega)
        have hzl := Nat.le_trans (stayH_len hs (ts.take k)) (show (ts.take k).length ≤ 64 by rw [List.length_take]; omega)
        clear h3 hb
        subst hco
        subst hzo
        by_cases hlt : k < ts.length
        · have hC := comeH_take (l := hs) hlt
          have hZ := stayH_take (l := hs) hlt
          obtain ⟨ta, tc, htv⟩ := (HT.out.tags k hlt).shaped
          obtain ⟨b, off, hso, hbl, c0, c1, c2, c3, c4, c5⟩ := (HT.out.below HB.out).at k hlt
          rw [htv] at c5
          generalize ts.getD k noHost = x at c0 c1 c2 c3 c4 c5 hC hZ
          have HC : Hid (comeH hs (ts.take (k + 1)) = comeH hs (ts.take k) ++ (if standsH hs x then [] else [x.id])) := hC
          have HZ : Hid (stayH hs (ts.take (k + 1)) = stayH hs (ts.take k) ++ (if standsH hs x then [x.id] else [])) := hZ
          generalize comeH hs (ts.take k) = cl at H3 HC hcl
          generalize stayH hs (ts.take k) = zl at H3 HZ hzl
          clear hC hZ htv
          have KF := fun W q => rFind_any hs x.id (.slice lo hs.length lc) vs W q
          have hfa := findH_at hs x.id
          have HSt : Hid (standsH hs x = (decide (0 ≤ findH hs x.id) && ((hs.getD (findH hs x.id).toNat noHost).addr.toList == x.addr.toList))) := rfl
          generalize findH hs x.id = f at KF hfa HSt
          have hl1' : hs.length ≤ 64 := h64
          subst hso
          go_wp2_with fail
          refine (KF _ (HS.out.below (HB.out.alloc HB.out.size _))).mono ?_
          rintro e w5 ⟨rfl, hb⟩
          have HX5 : Hid (HasBox w5 wr.heap.size 25 (hcells x (.slice ta x.tags.length tc))) := (hasBox_new wr _ _).below hb
          have HT5 : Hid (Three w5 w2.heap.size 3 (.slice co cl.length cc) cl (.slice zo zl.length zc) zl nilW []) := (H3.out.below ((Below.refl _ _).alloc (Nat.le_refl _) _)).below hb
          have HB5 : Hid (Below w2.heap.size w2 w5) := (HB.out.alloc HB.out.size _).trans (hb.mono (by have := HB.out.size; simp; omega))
          have HXb : ∀ W, Below w5.heap.size w5 W → HasBox W wr.heap.size 25 (hcells x (.slice ta x.tags.length tc)) := fun W p => HX5.out.below p
          clear hb KF c0 c1 c2 c3 c4 c5 H3 HB
          rcases hfa with rfl | ⟨j, hj, rfl⟩
          · have HNo : Hid (standsH hs x = false) := by show _ = _; rw [HSt.out]; rfl
            clear HSt
            go_upto_region 8 with fail
            refine wp_region_mp ([eqP (.int .i64 (-1)), eqP (.bool false), eqP (.bool false), eqP (undef), eqP (undef), eqP (undef), eqP (undef), eqP (undef), eqP (undef), eqP (undef), eqP (undef), eqP (.bool false)]) (by kernel_rfl) (by kernel_rfl) ?_ ?_
            · go_light
              simp only [stepsAll3]
              refine ⟨fun a W hF hE hd => ?_, fun a W hF hE hd => ?_, fun a W hF hE hd => ?_, fun a W hF hE hd => ?_, fun a W hF hE hd => ?_, fun a W hF hE hd => ?_, fun a W hF hE hd => ?_, fun a W hF hE hd => ?_, fun a W hF hE hd => ?_, fun a W hF hE hd => ?_, fun a W hF hE hd => ?_, fun a W hF hE hd => ?_, trivial⟩
              all_goals unfold StepAt
              · have t13 : a.tmps.getD 13 undef = .int .i64 (-1) := hF.at 13 (by kernel_rfl)
                rw [Array.getD_eq_getD_getElem?] at t13
                refine .inl ⟨rfl, ?_⟩
                go_simp
                exact ⟨Below.refl _ _, rfl⟩
              · have t35 : a.tmps.getD 35 undef = .int .i64 (-1) := hd { on := 0, ground := .data } (by simp) rfl
                rw [Array.getD_eq_getD_getElem?] at t35
                refine .inl ⟨rfl, ?_⟩
                go_simp
                exact ⟨Below.refl _ _, rfl⟩
              · have t36 : a.tmps.getD 36 undef = .bool false := hd { on := 1, ground := .data } (by simp) rfl
                rw [Array.getD_eq_getD_getElem?] at t36
                refine .inl ⟨rfl, ?_⟩
                go_simp
                exact ⟨Below.refl _ _, rfl⟩
              · have g37 : a.eval (.tmp 37) = .bool false := hd { on := 2, ground := .guard } (by simp) rfl
                exact .inr ⟨(by simp only [Region.wanted]; rw [yielded_of (d := 37) (by rfl) g37]; rfl), rfl⟩
              · have g37 : a.eval (.tmp 37) = .bool false := hd { on := 2, ground := .guard } (by simp) rfl
                exact .inr ⟨(by simp only [Region.wanted]; rw [yielded_of (d := 37) (by rfl) g37]; rfl), rfl⟩
              · have g37 : a.eval (.tmp 37) = .bool false := hd { on := 2, ground := .guard } (by simp) rfl
                exact .inr ⟨(by simp only [Region.wanted]; rw [yielded_of (d := 37) (by rfl) g37]; rfl), rfl⟩
              · have g37 : a.eval (.tmp 37) = .bool false := hd { on := 2, ground := .guard } (by simp) rfl
                exact .inr ⟨(by simp only [Region.wanted]; rw [yielded_of (d := 37) (by rfl) g37]; rfl), rfl⟩
              · have g37 : a.eval (.tmp 37) = .bool false := hd { on := 2, ground := .guard } (by simp) rfl
                exact .inr ⟨(by simp only [Region.wanted]; rw [yielded_of (d := 37) (by rfl) g37]; rfl), rfl⟩
              · have g37 : a.eval (.tmp 37) = .bool false := hd { on := 2, ground := .guard } (by simp) rfl
                exact .inr ⟨(by simp only [Region.wanted]; rw [yielded_of (d := 37) (by rfl) g37]; rfl), rfl⟩
              · have g37 : a.eval (.tmp 37) = .bool false := hd { on := 2, ground := .guard } (by simp) rfl
                exact .inr ⟨(by simp only [Region.wanted]; rw [yielded_of (d := 37) (by rfl) g37]; rfl), rfl⟩
              · have g37 : a.eval (.tmp 37) = .bool false := hd { on := 2, ground := .guard } (by simp) rfl
                exact .inr ⟨(by simp only [Region.wanted]; rw [yielded_of (d := 37) (by rfl) g37]; rfl), rfl⟩
              · have t37 : a.tmps.getD 37 undef = .bool false := hd { on := 2, ground := .data } (by simp) rfl
                rw [Array.getD_eq_getD_getElem?] at t37
                refine .inl ⟨rfl, ?_⟩
                go_simp
                exact ⟨Below.refl _ _, rfl⟩
            · intro vs W hE hV
              have h11 : vs 11 = .bool false := hV 11 (by decide)
              have HXW : Hid (HasBox W wr.heap.size 25 (hcells x (.slice ta x.tags.length tc))) := HXb W hE
              have HTW : Hid _ := HT5.out.below hE
              have HBW : Hid (Below w2.heap.size w2 W) := HB5.out.trans (hE.mono HB5.out.size)
              clear hV hE
              simp only [putsV, dstsV, List.foldl, h11, Act.put, List.setIfInBounds_toArray, List.set_cons_succ, List.set_cons_zero]
              clear h11
              generalize vs 0 = y0
              generalize vs 1 = y1
              generalize vs 2 = y2
              generalize vs 3 = y3
              generalize vs 4 = y4
              generalize vs 5 = y5
              generalize vs 6 = y6
              generalize vs 7 = y7
              generalize vs 8 = y8
              generalize vs 9 = y9
              generalize vs 10 = y10
              refine ‹∀ (a : Act) (w : World), Code.wp Try.prog (Code.cond _ _ _) _ a w → _› _ _ ?_
              have cid : W.cell? ⟨wr.heap.size, 0, none⟩ = some (.int .i64 x.id) := HXW.out.cell 0
              have HTa := fun o => HTW.out.below ((Below.refl W.heap.size W).alloc (Nat.le_refl _) o)
              go_wp2_with (at_builtin; refine wpList_append_row rfl (.tmp 52) (.tmp 55) 33 rfl w2.heap.size 3 i0 _ 1 8 Try.underlying33 hi hz0 hz1 hz2 rfl (by decide) _ (cl).length _ rfl (HTa _).o1 _ 1 [.int .i64 x.id] rfl (int_row _ x.id _ _ rfl) (by simp [Value.oneCell']) (by unfold maxLen; omega) (by omega) (by have := HBW.out.size; simp; omega) ?_)
              intro va wa hown hgrow hat
              have HBa : Hid (Below w2.heap.size w2 wa) := (HBW.out.alloc HBW.out.size _).grown hgrow (by have := HBW.out.size; simp; omega) (own_base HTW.out.o1)
              have H3a : Hid (Three wa w2.heap.size 3 va (cl ++ [x.id]) (.slice zo zl.length zc) zl nilW []) := (HTa _).snoc1 hown hgrow (by rw [World.size_alloc]; exact hat)
              have HCn : Hid (comeH hs (ts.take (k + 1)) = cl ++ [x.id]) := by show _ = _; rw [HC.out, HNo.out]; rfl
              have HZn : Hid (stayH hs (ts.take (k + 1)) = zl) := by show _ = _; rw [HZ.out, HNo.out]; simp
              clear hown hgrow hat HTa HC HZ
              go_wp2
              go_roundw
              case rel => exact ⟨k + 1, by omega, by go_num, by rw [HCn.out, HZn.out]; exact H3a.out, HBa.out⟩
              case measure => simp [intOf]; omega
          · obtain ⟨fb, fo, rfl, hfb, d0, d1, _⟩ := (HS.out.below HB5.out).at j hj
            obtain ⟨ya, hya⟩ : ∃ ya, (hs.getD j noHost).addr = ya := ⟨_, rfl⟩
            rw [hya] at d1
            obtain ⟨q, hq⟩ : ∃ q, (ya.toList == x.addr.toList) = q := ⟨_, rfl⟩
            have HQ : Hid (standsH hs x = q) := by show _ = _; rw [HSt.out, ← hq, ← hya]; simp
            have HCy : ∀ W, Below w5.heap.size w5 W → W.cell? ⟨fb, fo + j * 6 + 1, none⟩ = some (.string ya) := fun W p => (p.cell (p := ⟨fb, _, none⟩) hfb).trans d1
            have hj2 : (j : Int) < (hs.length : Int) := by omega
            clear HSt hya d0 d1
            go_upto_region 8 with fail
            refine wp_region_mp ([eqP (.int .i64 (j : Nat)), eqP (.bool true), eqP (.bool true), eqP (.slice (some ⟨fb, fo, none⟩) hs.length lc), eqP (.int .i64 (j : Nat)), eqP (.pointer (some ⟨fb, fo + j * 6, none⟩)), eqP (.pointer (some ⟨fb, fo + j * 6 + 1, none⟩)), eqP (.string ya), eqP (.pointer (some ⟨wr.heap.size, 1, none⟩)), eqP (.string x.addr), eqP (.bool q), eqP (.bool q)]) (by kernel_rfl) (by kernel_rfl) ?_ ?_
            · go_light
              simp only [stepsAll3]
              refine ⟨fun a W hF hE hd => ?_, fun a W hF hE hd => ?_, fun a W hF hE hd => ?_, fun a W hF hE hd => ?_, fun a W hF hE hd => ?_, fun a W hF hE hd => ?_, fun a W hF hE hd => ?_, fun a W hF hE hd => ?_, fun a W hF hE hd => ?_, fun a W hF hE hd => ?_, fun a W hF hE hd => ?_, fun a W hF hE hd => ?_, trivial⟩
              all_goals unfold StepAt
              · have t13 : a.tmps.getD 13 undef = .int .i64 (j : Nat) := hF.at 13 (by kernel_rfl)
                rw [Array.getD_eq_getD_getElem?] at t13
                refine .inl ⟨rfl, ?_⟩
                go_simp
                exact ⟨Below.refl _ _, rfl⟩
              · have t35 : a.tmps.getD 35 undef = .int .i64 (j : Nat) := hd { on := 0, ground := .data } (by simp) rfl
                rw [Array.getD_eq_getD_getElem?] at t35
                refine .inl ⟨rfl, ?_⟩
                go_simp
                exact ⟨Below.refl _ _, rfl⟩
              · have t36 : a.tmps.getD 36 undef = .bool true := hd { on := 1, ground := .data } (by simp) rfl
                rw [Array.getD_eq_getD_getElem?] at t36
                refine .inl ⟨rfl, ?_⟩
                go_simp
                exact ⟨Below.refl _ _, rfl⟩
              · have t0 : a.tmps.getD 0 undef = .slice (some ⟨fb, fo, none⟩) hs.length lc := hF.at 0 (by kernel_rfl)
                rw [Array.getD_eq_getD_getElem?] at t0
                have g37 : a.eval (.tmp 37) = .bool true := hd { on := 2, ground := .guard } (by simp) rfl
                refine .inl ⟨(by simp only [Region.wanted]; rw [yielded_of (d := 37) (by rfl) g37]; rfl), ?_⟩
                clear g37
                go_simp
                exact ⟨Below.refl _ _, rfl⟩
              · have t13 : a.tmps.getD 13 undef = .int .i64 (j : Nat) := hF.at 13 (by kernel_rfl)
                rw [Array.getD_eq_getD_getElem?] at t13
                have g37 : a.eval (.tmp 37) = .bool true := hd { on := 2, ground := .guard } (by simp) rfl
                refine .inl ⟨(by simp only [Region.wanted]; rw [yielded_of (d := 37) (by rfl) g37]; rfl), ?_⟩
                clear g37
                go_simp
                exact ⟨Below.refl _ _, rfl⟩
              · have t38 : a.tmps.getD 38 undef = .slice (some ⟨fb, fo, none⟩) hs.length lc := hd { on := 3, ground := .data } (by simp) rfl
                rw [Array.getD_eq_getD_getElem?] at t38
                have t39 : a.tmps.getD 39 undef = .int .i64 (j : Nat) := hd { on := 4, ground := .data } (by simp) rfl
                rw [Array.getD_eq_getD_getElem?] at t39
                have g37 : a.eval (.tmp 37) = .bool true := hd { on := 2, ground := .guard } (by simp) rfl
                refine .inl ⟨(by simp only [Region.wanted]; rw [yielded_of (d := 37) (by rfl) g37]; rfl), ?_⟩
                clear g37
                go_simp
                exact ⟨Below.refl _ _, rfl⟩
              · have t40 : a.tmps.getD 40 undef = .pointer (some ⟨fb, fo + j * 6, none⟩) := hd { on := 5, ground := .data } (by simp) rfl
                rw [Array.getD_eq_getD_getElem?] at t40
                have g37 : a.eval (.tmp 37) = .bool true := hd { on := 2, ground := .guard } (by simp) rfl
                refine .inl ⟨(by simp only [Region.wanted]; rw [yielded_of (d := 37) (by rfl) g37]; rfl), ?_⟩
                clear g37
                go_simp
                exact ⟨Below.refl _ _, rfl⟩
              · have t41 : a.tmps.getD 41 undef = .pointer (some ⟨fb, fo + j * 6 + 1, none⟩) := hd { on := 6, ground := .data } (by simp) rfl
                rw [Array.getD_eq_getD_getElem?] at t41
                have g37 : a.eval (.tmp 37) = .bool true := hd { on := 2, ground := .guard } (by simp) rfl
                refine .inl ⟨(by simp only [Region.wanted]; rw [yielded_of (d := 37) (by rfl) g37]; rfl), ?_⟩
                clear g37
                have cy := HCy W hE
                go_simp
                exact ⟨Below.refl _ _, rfl⟩
              · have t12 : a.tmps.getD 12 undef = .pointer (some ⟨wr.heap.size, 0, none⟩) := hF.at 12 (by kernel_rfl)
                rw [Array.getD_eq_getD_getElem?] at t12
                have g37 : a.eval (.tmp 37) = .bool true := hd { on := 2, ground := .guard } (by simp) rfl
                refine .inl ⟨(by simp only [Region.wanted]; rw [yielded_of (d := 37) (by rfl) g37]; rfl), ?_⟩
                clear g37
                go_simp
                exact ⟨Below.refl _ _, rfl⟩
              · have t43 : a.tmps.getD 43 undef = .pointer (some ⟨wr.heap.size, 1, none⟩) := hd { on := 8, ground := .data } (by simp) rfl
                rw [Array.getD_eq_getD_getElem?] at t43
                have g37 : a.eval (.tmp 37) = .bool true := hd { on := 2, ground := .guard } (by simp) rfl
                refine .inl ⟨(by simp only [Region.wanted]; rw [yielded_of (d := 37) (by rfl) g37]; rfl), ?_⟩
                clear g37
                have cx : W.cell? ⟨wr.heap.size, 1, none⟩ = some (.string x.addr) := (HXb W hE).cell 1
                go_simp
                exact ⟨Below.refl _ _, rfl⟩
              · have t42 : a.tmps.getD 42 undef = .string ya := hd { on := 7, ground := .data } (by simp) rfl
                rw [Array.getD_eq_getD_getElem?] at t42
                have t44 : a.tmps.getD 44 undef = .string x.addr := hd { on := 9, ground := .data } (by simp) rfl
                rw [Array.getD_eq_getD_getElem?] at t44
                have g37 : a.eval (.tmp 37) = .bool true := hd { on := 2, ground := .guard } (by simp) rfl
                refine .inl ⟨(by simp only [Region.wanted]; rw [yielded_of (d := 37) (by rfl) g37]; rfl), ?_⟩
                clear g37
                go_simp
                exact ⟨Below.refl _ _, rfl⟩
              · have t37 : a.tmps.getD 37 undef = .bool true := hd { on := 2, ground := .data } (by simp) rfl
                rw [Array.getD_eq_getD_getElem?] at t37
                have t45 : a.tmps.getD 45 undef = .bool q := hd { on := 10, ground := .data } (by simp) rfl
                rw [Array.getD_eq_getD_getElem?] at t45
                refine .inl ⟨rfl, ?_⟩
                go_simp
                exact ⟨Below.refl _ _, rfl⟩
            · intro vs W hE hV
              have h11 : vs 11 = .bool q := hV 11 (by decide)
              have HXW : Hid (HasBox W wr.heap.size 25 (hcells x (.slice ta x.tags.length tc))) := HXb W hE
              have HTW : Hid _ := HT5.out.below hE
              have HBW : Hid (Below w2.heap.size w2 W) := HB5.out.trans (hE.mono HB5.out.size)
              clear hV hE
              simp only [putsV, dstsV, List.foldl, h11, Act.put, List.setIfInBounds_toArray, List.set_cons_succ, List.set_cons_zero]
              clear h11
              generalize vs 0 = y0
              generalize vs 1 = y1
              generalize vs 2 = y2
              generalize vs 3 = y3
              generalize vs 4 = y4
              generalize vs 5 = y5
              generalize vs 6 = y6
              generalize vs 7 = y7
              generalize vs 8 = y8
              generalize vs 9 = y9
              generalize vs 10 = y10
              refine ‹∀ (a : Act) (w : World), Code.wp Try.prog (Code.cond _ _ _) _ a w → _› _ _ ?_
              clear hq
              cases q with
              | false =>
                have HNo : Hid (standsH hs x = false) := HQ.out
                have cid : W.cell? ⟨wr.heap.size, 0, none⟩ = some (.int .i64 x.id) := HXW.out.cell 0
                have HTa := fun o => HTW.out.below ((Below.refl W.heap.size W).alloc (Nat.le_refl _) o)
                go_wp2_with (at_builtin; refine wpList_append_row rfl (.tmp 52) (.tmp 55) 33 rfl w2.heap.size 3 i0 _ 1 8 Try.underlying33 hi hz0 hz1 hz2 rfl (by decide) _ (cl).length _ rfl (HTa _).o1 _ 1 [.int .i64 x.id] rfl (int_row _ x.id _ _ rfl) (by simp [Value.oneCell']) (by unfold maxLen; omega) (by omega) (by have := HBW.out.size; simp; omega) ?_)
                intro va wa hown hgrow hat
                have HBa : Hid (Below w2.heap.size w2 wa) := (HBW.out.alloc HBW.out.size _).grown hgrow (by have := HBW.out.size; simp; omega) (own_base HTW.out.o1)
                have H3a : Hid (Three wa w2.heap.size 3 va (cl ++ [x.id]) (.slice zo zl.length zc) zl nilW []) := (HTa _).snoc1 hown hgrow (by rw [World.size_alloc]; exact hat)
                have HCn : Hid (comeH hs (ts.take (k + 1)) = cl ++ [x.id]) := by show _ = _; rw [HC.out, HNo.out]; rfl
                have HZn : Hid (stayH hs (ts.take (k + 1)) = zl) := by show _ = _; rw [HZ.out, HNo.out]; simp
                clear hown hgrow hat HTa HC HZ
                go_wp2
                go_roundw
                case rel => exact ⟨k + 1, by omega, by go_num, by rw [HCn.out, HZn.out]; exact H3a.out, HBa.out⟩
                case measure => simp [intOf]; omega
              | true =>
                have HYe : Hid (standsH hs x = true) := HQ.out
                have cid : W.cell? ⟨wr.heap.size, 0, none⟩ = some (.int .i64 x.id) := HXW.out.cell 0
                have HTa := fun o => HTW.out.below ((Below.refl W.heap.size W).alloc (Nat.le_refl _) o)
                go_wp2_with (at_builtin; refine wpList_append_row rfl (.tmp 47) (.tmp 50) 33 rfl w2.heap.size 3 i0 _ 1 8 Try.underlying33 hi hz0 hz1 hz2 rfl (by decide) _ (zl).length _ rfl (HTa _).o2 _ 1 [.int .i64 x.id] rfl (int_row _ x.id _ _ rfl) (by simp [Value.oneCell']) (by unfold maxLen; omega) (by omega) (by have := HBW.out.size; simp; omega) ?_)
                intro va wa hown hgrow hat
                have HBa : Hid (Below w2.heap.size w2 wa) := (HBW.out.alloc HBW.out.size _).grown hgrow (by have := HBW.out.size; simp; omega) (own_base HTW.out.o2)
                have H3a : Hid (Three wa w2.heap.size 3 (.slice co cl.length cc) cl va (zl ++ [x.id]) nilW []) := ((HTa _).swap12.snoc1 hown hgrow (by rw [World.size_alloc]; exact hat)).swap12
                have HCn : Hid (comeH hs (ts.take (k + 1)) = cl) := by show _ = _; rw [HC.out, HYe.out]; simp
                have HZn : Hid (stayH hs (ts.take (k + 1)) = zl ++ [x.id]) := by show _ = _; rw [HZ.out, HYe.out]; rfl
                clear hown hgrow hat HTa HC HZ
                go_wp2
                go_roundw
                case rel => exact ⟨k + 1, by omega, by go_num, by rw [HCn.out, HZn.out]; exact H3a.out, HBa.out⟩
                case measure => simp [intOf]; omega
        · have hkl : Hid (ts.take k = ts) := List.take_of_length_le (by omega)
          have H3e : Hid (Three wr w2.heap.size 3 (.slice co (comeH hs (ts.take k)).length cc) (comeH hs ts) (.slice zo (stayH hs (ts.take k)).length zc) (stayH hs ts) nilW []) := by
            have := H3.out
            rw [hkl.out] at this
            rw [hkl.out]
            exact this
          have hcl' : (comeH hs (ts.take k)).length ≤ 64 := hcl
          generalize (comeH hs (ts.take k)).length = cn at H3e ⊢
          generalize (stayH hs (ts.take k)).length = zn at H3e ⊢
          have HBe : Hid (Below w2.heap.size w2 wr) := HB.out
          clear H3 HB hkl hcl hzl hcl'
          go_wp2
          go_loopw [9, 60] (fun g i wq => ∃ k : Nat, k ≤ hs.length ∧ i = .int .i64 k ∧ Three wq w2.heap.size 3 g (comeH ts (hs.take k)) (.slice zo zn zc) (stayH hs ts) (.slice co cn cc) (comeH hs ts) ∧ Below w2.heap.size w2 wq) (fun _ i _ => hs.length - (intOf i).toNat)
          case atStart => exact ⟨0, Nat.zero_le _, rfl, by simpa [comeH] using H3e.out.swap13, HBe.out⟩
          clear H3e HBe
          case round =>
            obtain ⟨k, hk, rfl, h3, hb⟩ := hrel
            obtain ⟨go, gc, hgo⟩ := (isRow_own h3.o1).shaped
            have H3 : Hid (Three wr w2.heap.size 3 u9 (comeH ts (hs.take k)) (.slice zo zn zc) (stayH hs ts) (.slice co cn cc) (comeH hs ts)) := h3
            have HB : Hid (Below w2.heap.size w2 wr) := hb
            have hcl := Nat.le_trans (comeH_len ts (hs.take k)) (show (hs.take k).length ≤ 64 by rw [List.length_take]; omega)
            clear h3 hb
            subst hgo
            by_cases hlt : k < hs.length
            · have hC := comeH_take (l := ts) hlt
              obtain ⟨ta, tc, htv⟩ := (HS.out.tags k hlt).shaped
              obtain ⟨b, off, hso, hbl, c0, c1, c2, c3, c4, c5⟩ := (HS.out.below HB.out).at k hlt
              rw [htv] at c5
              generalize hs.getD k noHost = x at c0 c1 c2 c3 c4 c5 hC
              have HC : Hid (comeH ts (hs.take (k + 1)) = comeH ts (hs.take k) ++ (if standsH ts x then [] else [x.id])) := hC
              generalize comeH ts (hs.take k) = cl at H3 HC hcl
              clear hC htv
              have KF := fun W q => rFind_any ts x.id (.slice so ts.length sc) us W q
              have hfa := findH_at ts x.id
              have HSt : Hid (standsH ts x = (decide (0 ≤ findH ts x.id) && ((ts.getD (findH ts x.id).toNat noHost).addr.toList == x.addr.toList))) := rfl
              generalize findH ts x.id = f at KF hfa HSt
              subst hso
              go_wp2_with fail
              refine (KF _ (HT.out.below (HB.out.alloc HB.out.size _))).mono ?_
              rintro e w5 ⟨rfl, hb⟩
              have HX5 : Hid (HasBox w5 wr.heap.size 25 (hcells x (.slice ta x.tags.length tc))) := (hasBox_new wr _ _).below hb
              have HT5 : Hid (Three w5 w2.heap.size 3 (.slice go cl.length gc) cl (.slice zo zn zc) (stayH hs ts) (.slice co cn cc) (comeH hs ts)) := (H3.out.below ((Below.refl _ _).alloc (Nat.le_refl _) _)).below hb
              have HB5 : Hid (Below w2.heap.size w2 w5) := (HB.out.alloc HB.out.size _).trans (hb.mono (by have := HB.out.size; simp; omega))
              have HXb : ∀ W, Below w5.heap.size w5 W → HasBox W wr.heap.size 25 (hcells x (.slice ta x.tags.length tc)) := fun W p => HX5.out.below p
              clear hb KF c0 c1 c2 c3 c4 c5 H3 HB
              rcases hfa with rfl | ⟨j, hj, rfl⟩
              · have HNo : Hid (standsH ts x = false) := by show _ = _; rw [HSt.out]; rfl
                clear HSt
                go_upto_region 16 with fail
                refine wp_region_mp ([eqP (.int .i64 (-1)), eqP (.bool true), eqP (.bool true), eqP (undef), eqP (undef), eqP (undef), eqP (undef), eqP (undef), eqP (undef), eqP (undef), eqP (undef), eqP (.bool true)]) (by kernel_rfl) (by kernel_rfl) ?_ ?_
                · go_light
                  simp only [stepsAll3]
                  refine ⟨fun a W hF hE hd => ?_, fun a W hF hE hd => ?_, fun a W hF hE hd => ?_, fun a W hF hE hd => ?_, fun a W hF hE hd => ?_, fun a W hF hE hd => ?_, fun a W hF hE hd => ?_, fun a W hF hE hd => ?_, fun a W hF hE hd => ?_, fun a W hF hE hd => ?_, fun a W hF hE hd => ?_, fun a W hF hE hd => ?_, trivial⟩
                  all_goals unfold StepAt
                  · have t16 : a.tmps.getD 16 undef = .int .i64 (-1) := hF.at 16 (by kernel_rfl)
                    rw [Array.getD_eq_getD_getElem?] at t16
                    refine .inl ⟨rfl, ?_⟩
                    go_simp
                    exact ⟨Below.refl _ _, rfl⟩
                  · have t68 : a.tmps.getD 68 undef = .int .i64 (-1) := hd { on := 0, ground := .data } (by simp) rfl
                    rw [Array.getD_eq_getD_getElem?] at t68
                    refine .inl ⟨rfl, ?_⟩
                    go_simp
                    exact ⟨Below.refl _ _, rfl⟩
                  · have t69 : a.tmps.getD 69 undef = .bool true := hd { on := 1, ground := .data } (by simp) rfl
                    rw [Array.getD_eq_getD_getElem?] at t69
                    refine .inl ⟨rfl, ?_⟩
                    go_simp
                    exact ⟨Below.refl _ _, rfl⟩
                  · have g70 : a.eval (.tmp 70) = .bool true := hd { on := 2, ground := .guard } (by simp) rfl
                    exact .inr ⟨(by simp only [Region.wanted]; rw [yielded_of (d := 70) (by rfl) g70]; rfl), rfl⟩
                  · have g70 : a.eval (.tmp 70) = .bool true := hd { on := 2, ground := .guard } (by simp) rfl
                    exact .inr ⟨(by simp only [Region.wanted]; rw [yielded_of (d := 70) (by rfl) g70]; rfl), rfl⟩
                  · have g70 : a.eval (.tmp 70) = .bool true := hd { on := 2, ground := .guard } (by simp) rfl
                    exact .inr ⟨(by simp only [Region.wanted]; rw [yielded_of (d := 70) (by rfl) g70]; rfl), rfl⟩
                  · have g70 : a.eval (.tmp 70) = .bool true := hd { on := 2, ground := .guard } (by simp) rfl
                    exact .inr ⟨(by simp only [Region.wanted]; rw [yielded_of (d := 70) (by rfl) g70]; rfl), rfl⟩
                  · have g70 : a.eval (.tmp 70) = .bool true := hd { on := 2, ground := .guard } (by simp) rfl
                    exact .inr ⟨(by simp only [Region.wanted]; rw [yielded_of (d := 70) (by rfl) g70]; rfl), rfl⟩
                  · have g70 : a.eval (.tmp 70) = .bool true := hd { on := 2, ground := .guard } (by simp) rfl
                    exact .inr ⟨(by simp only [Region.wanted]; rw [yielded_of (d := 70) (by rfl) g70]; rfl), rfl⟩
                  · have g70 : a.eval (.tmp 70) = .bool true := hd { on := 2, ground := .guard } (by simp) rfl
                    exact .inr ⟨(by simp only [Region.wanted]; rw [yielded_of (d := 70) (by rfl) g70]; rfl), rfl⟩
                  · have g70 : a.eval (.tmp 70) = .bool true := hd { on := 2, ground := .guard } (by simp) rfl
                    exact .inr ⟨(by simp only [Region.wanted]; rw [yielded_of (d := 70) (by rfl) g70]; rfl), rfl⟩
                  · have t70 : a.tmps.getD 70 undef = .bool true := hd { on := 2, ground := .data } (by simp) rfl
                    rw [Array.getD_eq_getD_getElem?] at t70
                    refine .inl ⟨rfl, ?_⟩
                    go_simp
                    exact ⟨Below.refl _ _, rfl⟩
                · intro vs W hE hV
                  have h11 : vs 11 = .bool true := hV 11 (by decide)
                  have HXW : Hid (HasBox W wr.heap.size 25 (hcells x (.slice ta x.tags.length tc))) := HXb W hE
                  have HTW : Hid _ := HT5.out.below hE
                  have HBW : Hid (Below w2.heap.size w2 W) := HB5.out.trans (hE.mono HB5.out.size)
                  clear hV hE
                  simp only [putsV, dstsV, List.foldl, h11, Act.put, List.setIfInBounds_toArray, List.set_cons_succ, List.set_cons_zero]
                  clear h11
                  generalize vs 0 = y0
                  generalize vs 1 = y1
                  generalize vs 2 = y2
                  generalize vs 3 = y3
                  generalize vs 4 = y4
                  generalize vs 5 = y5
                  generalize vs 6 = y6
                  generalize vs 7 = y7
                  generalize vs 8 = y8
                  generalize vs 9 = y9
                  generalize vs 10 = y10
                  refine ‹∀ (a : Act) (w : World), Code.wp Try.prog (Code.cond _ _ _) _ a w → _› _ _ ?_
                  have cid : W.cell? ⟨wr.heap.size, 0, none⟩ = some (.int .i64 x.id) := HXW.out.cell 0
                  have HTa := fun o => HTW.out.below ((Below.refl W.heap.size W).alloc (Nat.le_refl _) o)
                  go_wp2_with (at_builtin; refine wpList_append_row rfl (.tmp 80) (.tmp 83) 33 rfl w2.heap.size 3 i0 _ 1 8 Try.underlying33 hi hz0 hz1 hz2 rfl (by decide) _ (cl).length _ rfl (HTa _).o1 _ 1 [.int .i64 x.id] rfl (int_row _ x.id _ _ rfl) (by simp [Value.oneCell']) (by unfold maxLen; omega) (by omega) (by have := HBW.out.size; simp; omega) ?_)
                  intro va wa hown hgrow hat
                  have HBa : Hid (Below w2.heap.size w2 wa) := (HBW.out.alloc HBW.out.size _).grown hgrow (by have := HBW.out.size; simp; omega) (own_base HTW.out.o1)
                  have H3a : Hid (Three wa w2.heap.size 3 va (cl ++ [x.id]) (.slice zo zn zc) (stayH hs ts) (.slice co cn cc) (comeH hs ts)) := (HTa _).snoc1 hown hgrow (by rw [World.size_alloc]; exact hat)
                  have HCn : Hid (comeH ts (hs.take (k + 1)) = cl ++ [x.id]) := by show _ = _; rw [HC.out, HNo.out]; rfl
                  clear hown hgrow hat HTa HC
                  go_wp2
                  go_roundw
                  case rel => exact ⟨k + 1, by omega, by go_num, by rw [HCn.out]; exact H3a.out, HBa.out⟩
                  case measure => simp [intOf]; omega
              · obtain ⟨fb, fo, rfl, hfb, d0, d1, _⟩ := (HT.out.below HB5.out).at j hj
                obtain ⟨ya, hya⟩ : ∃ ya, (ts.getD j noHost).addr = ya := ⟨_, rfl⟩
                rw [hya] at d1
                obtain ⟨q, hq⟩ : ∃ q, (ya.toList == x.addr.toList) = q := ⟨_, rfl⟩
                have HQ : Hid (standsH ts x = q) := by show _ = _; rw [HSt.out, ← hq, ← hya]; simp
                have HCy : ∀ W, Below w5.heap.size w5 W → W.cell? ⟨fb, fo + j * 6 + 1, none⟩ = some (.string ya) := fun W p => (p.cell (p := ⟨fb, _, none⟩) hfb).trans d1
                have hj2 : (j : Int) < (ts.length : Int) := by omega
                clear HSt hya d0 d1
                go_upto_region 16 with fail
                refine wp_region_mp ([eqP (.int .i64 (j : Nat)), eqP (.bool false), eqP (.bool false), eqP (.slice (some ⟨fb, fo, none⟩) ts.length sc), eqP (.int .i64 (j : Nat)), eqP (.pointer (some ⟨fb, fo + j * 6, none⟩)), eqP (.pointer (some ⟨fb, fo + j * 6 + 1, none⟩)), eqP (.string ya), eqP (.pointer (some ⟨wr.heap.size, 1, none⟩)), eqP (.string x.addr), eqP (.bool (!q)), eqP (.bool (!q))]) (by kernel_rfl) (by kernel_rfl) ?_ ?_
                · go_light
                  simp only [stepsAll3]
                  refine ⟨fun a W hF hE hd => ?_, fun a W hF hE hd => ?_, fun a W hF hE hd => ?_, fun a W hF hE hd => ?_, fun a W hF hE hd => ?_, fun a W hF hE hd => ?_, fun a W hF hE hd => ?_, fun a W hF hE hd => ?_, fun a W hF hE hd => ?_, fun a W hF hE hd => ?_, fun a W hF hE hd => ?_, fun a W hF hE hd => ?_, trivial⟩
                  all_goals unfold StepAt
                  · have t16 : a.tmps.getD 16 undef = .int .i64 (j : Nat) := hF.at 16 (by kernel_rfl)
                    rw [Array.getD_eq_getD_getElem?] at t16
                    refine .inl ⟨rfl, ?_⟩
                    go_simp
                    exact ⟨Below.refl _ _, rfl⟩
                  · have t68 : a.tmps.getD 68 undef = .int .i64 (j : Nat) := hd { on := 0, ground := .data } (by simp) rfl
                    rw [Array.getD_eq_getD_getElem?] at t68
                    refine .inl ⟨rfl, ?_⟩
                    go_simp
                    exact ⟨Below.refl _ _, rfl⟩
                  · have t69 : a.tmps.getD 69 undef = .bool false := hd { on := 1, ground := .data } (by simp) rfl
                    rw [Array.getD_eq_getD_getElem?] at t69
                    refine .inl ⟨rfl, ?_⟩
                    go_simp
                    exact ⟨Below.refl _ _, rfl⟩
                  · have t1 : a.tmps.getD 1 undef = .slice (some ⟨fb, fo, none⟩) ts.length sc := hF.at 1 (by kernel_rfl)
                    rw [Array.getD_eq_getD_getElem?] at t1
                    have g70 : a.eval (.tmp 70) = .bool false := hd { on := 2, ground := .guard } (by simp) rfl
                    refine .inl ⟨(by simp only [Region.wanted]; rw [yielded_of (d := 70) (by rfl) g70]; rfl), ?_⟩
                    clear g70
                    go_simp
                    exact ⟨Below.refl _ _, rfl⟩
                  · have t16 : a.tmps.getD 16 undef = .int .i64 (j : Nat) := hF.at 16 (by kernel_rfl)
                    rw [Array.getD_eq_getD_getElem?] at t16
                    have g70 : a.eval (.tmp 70) = .bool false := hd { on := 2, ground := .guard } (by simp) rfl
                    refine .inl ⟨(by simp only [Region.wanted]; rw [yielded_of (d := 70) (by rfl) g70]; rfl), ?_⟩
                    clear g70
                    go_simp
                    exact ⟨Below.refl _ _, rfl⟩
                  · have t71 : a.tmps.getD 71 undef = .slice (some ⟨fb, fo, none⟩) ts.length sc := hd { on := 3, ground := .data } (by simp) rfl
                    rw [Array.getD_eq_getD_getElem?] at t71
                    have t72 : a.tmps.getD 72 undef = .int .i64 (j : Nat) := hd { on := 4, ground := .data } (by simp) rfl
                    rw [Array.getD_eq_getD_getElem?] at t72
                    have g70 : a.eval (.tmp 70) = .bool false := hd { on := 2, ground := .guard } (by simp) rfl
                    refine .inl ⟨(by simp only [Region.wanted]; rw [yielded_of (d := 70) (by rfl) g70]; rfl), ?_⟩
                    clear g70
                    go_simp
                    exact ⟨Below.refl _ _, rfl⟩
                  · have t73 : a.tmps.getD 73 undef = .pointer (some ⟨fb, fo + j * 6, none⟩) := hd { on := 5, ground := .data } (by simp) rfl
                    rw [Array.getD_eq_getD_getElem?] at t73
                    have g70 : a.eval (.tmp 70) = .bool false := hd { on := 2, ground := .guard } (by simp) rfl
                    refine .inl ⟨(by simp only [Region.wanted]; rw [yielded_of (d := 70) (by rfl) g70]; rfl), ?_⟩
                    clear g70
                    go_simp
                    exact ⟨Below.refl _ _, rfl⟩
                  · have t74 : a.tmps.getD 74 undef = .pointer (some ⟨fb, fo + j * 6 + 1, none⟩) := hd { on := 6, ground := .data } (by simp) rfl
                    rw [Array.getD_eq_getD_getElem?] at t74
                    have g70 : a.eval (.tmp 70) = .bool false := hd { on := 2, ground := .guard } (by simp) rfl
                    refine .inl ⟨(by simp only [Region.wanted]; rw [yielded_of (d := 70) (by rfl) g70]; rfl), ?_⟩
                    clear g70
                    have cy := HCy W hE
                    go_simp
                    exact ⟨Below.refl _ _, rfl⟩
                  · have t15 : a.tmps.getD 15 undef = .pointer (some ⟨wr.heap.size, 0, none⟩) := hF.at 15 (by kernel_rfl)
                    rw [Array.getD_eq_getD_getElem?] at t15
                    have g70 : a.eval (.tmp 70) = .bool false := hd { on := 2, ground := .guard } (by simp) rfl
                    refine .inl ⟨(by simp only [Region.wanted]; rw [yielded_of (d := 70) (by rfl) g70]; rfl), ?_⟩
                    clear g70
                    go_simp
                    exact ⟨Below.refl _ _, rfl⟩
                  · have t76 : a.tmps.getD 76 undef = .pointer (some ⟨wr.heap.size, 1, none⟩) := hd { on := 8, ground := .data } (by simp) rfl
                    rw [Array.getD_eq_getD_getElem?] at t76
                    have g70 : a.eval (.tmp 70) = .bool false := hd { on := 2, ground := .guard } (by simp) rfl
                    refine .inl ⟨(by simp only [Region.wanted]; rw [yielded_of (d := 70) (by rfl) g70]; rfl), ?_⟩
                    clear g70
                    have cx : W.cell? ⟨wr.heap.size, 1, none⟩ = some (.string x.addr) := (HXb W hE).cell 1
                    go_simp
                    exact ⟨Below.refl _ _, rfl⟩
                  · have t75 : a.tmps.getD 75 undef = .string ya := hd { on := 7, ground := .data } (by simp) rfl
                    rw [Array.getD_eq_getD_getElem?] at t75
                    have t77 : a.tmps.getD 77 undef = .string x.addr := hd { on := 9, ground := .data } (by simp) rfl
                    rw [Array.getD_eq_getD_getElem?] at t77
                    have g70 : a.eval (.tmp 70) = .bool false := hd { on := 2, ground := .guard } (by simp) rfl
                    refine .inl ⟨(by simp only [Region.wanted]; rw [yielded_of (d := 70) (by rfl) g70]; rfl), ?_⟩
                    clear g70
                    go_simp
                    exact ⟨Below.refl _ _, rfl⟩
                  · have t70 : a.tmps.getD 70 undef = .bool false := hd { on := 2, ground := .data } (by simp) rfl
                    rw [Array.getD_eq_getD_getElem?] at t70
                    have t78 : a.tmps.getD 78 undef = .bool (!q) := hd { on := 10, ground := .data } (by simp) rfl
                    rw [Array.getD_eq_getD_getElem?] at t78
                    refine .inl ⟨rfl, ?_⟩
                    go_simp
                    exact ⟨Below.refl _ _, rfl⟩
                · intro vs W hE hV
                  have h11 : vs 11 = .bool (!q) := hV 11 (by decide)
                  have HXW : Hid (HasBox W wr.heap.size 25 (hcells x (.slice ta x.tags.length tc))) := HXb W hE
                  have HTW : Hid _ := HT5.out.below hE
                  have HBW : Hid (Below w2.heap.size w2 W) := HB5.out.trans (hE.mono HB5.out.size)
                  clear hV hE
                  simp only [putsV, dstsV, List.foldl, h11, Act.put, List.setIfInBounds_toArray, List.set_cons_succ, List.set_cons_zero]
                  clear h11
                  generalize vs 0 = y0
                  generalize vs 1 = y1
                  generalize vs 2 = y2
                  generalize vs 3 = y3
                  generalize vs 4 = y4
                  generalize vs 5 = y5
                  generalize vs 6 = y6
                  generalize vs 7 = y7
                  generalize vs 8 = y8
                  generalize vs 9 = y9
                  generalize vs 10 = y10
                  refine ‹∀ (a : Act) (w : World), Code.wp Try.prog (Code.cond _ _ _) _ a w → _› _ _ ?_
                  clear hq
                  cases q with
                  | false =>
                    have HNo : Hid (standsH ts x = false) := HQ.out
                    have cid : W.cell? ⟨wr.heap.size, 0, none⟩ = some (.int .i64 x.id) := HXW.out.cell 0
                    have HTa := fun o => HTW.out.below ((Below.refl W.heap.size W).alloc (Nat.le_refl _) o)
                    go_wp2_with (at_builtin; refine wpList_append_row rfl (.tmp 80) (.tmp 83) 33 rfl w2.heap.size 3 i0 _ 1 8 Try.underlying33 hi hz0 hz1 hz2 rfl (by decide) _ (cl).length _ rfl (HTa _).o1 _ 1 [.int .i64 x.id] rfl (int_row _ x.id _ _ rfl) (by simp [Value.oneCell']) (by unfold maxLen; omega) (by omega) (by have := HBW.out.size; simp; omega) ?_)
                    intro va wa hown hgrow hat
                    have HBa : Hid (Below w2.heap.size w2 wa) := (HBW.out.alloc HBW.out.size _).grown hgrow (by have := HBW.out.size; simp; omega) (own_base HTW.out.o1)
                    have H3a : Hid (Three wa w2.heap.size 3 va (cl ++ [x.id]) (.slice zo zn zc) (stayH hs ts) (.slice co cn cc) (comeH hs ts)) := (HTa _).snoc1 hown hgrow (by rw [World.size_alloc]; exact hat)
                    have HCn : Hid (comeH ts (hs.take (k + 1)) = cl ++ [x.id]) := by show _ = _; rw [HC.out, HNo.out]; rfl
                    clear hown hgrow hat HTa HC
                    go_wp2
                    go_roundw
                    case rel => exact ⟨k + 1, by omega, by go_num, by rw [HCn.out]; exact H3a.out, HBa.out⟩
                    case measure => simp [intOf]; omega
                  | true =>
                    have HYe : Hid (standsH ts x = true) := HQ.out
                    have HCn : Hid (comeH ts (hs.take (k + 1)) = cl) := by show _ = _; rw [HC.out, HYe.out]; simp
                    clear HC
                    go_wp2
                    go_roundw
                    case rel => exact ⟨k + 1, by omega, by go_num, by rw [HCn.out]; exact HTW.out, HBW.out⟩
                    case measure => simp [intOf]; omega
            · have hkl : Hid (hs.take k = hs) := List.take_of_length_le (by omega)
              go_wp2
              go_returns
              have h3 := H3.out
              refine ⟨?_, HB2.out.trans (HB.out.mono HB2.out.size)⟩
              rw [HF.out]
              have l1 : (comeH hs ts).length ≤ 64 := Nat.le_trans (comeH_len _ _) h64t
              have l2 : (stayH hs ts).length ≤ 64 := Nat.le_trans (stayH_len _ _) h64t
              have eg : comeH ts hs = comeH ts (hs.take k) := by rw [hkl.out]
              have hid : ∀ y ∈ comeH ts (hs.take k), -9223372036854775808 ≤ y ∧ y ≤ 9223372036854775807 := by rw [hkl.out]; exact ids_ok HI.out.1 _
              refine ⟨_, _, _, rfl, isInts_own h3.o3 rfl (by show (comeH hs ts).length ≤ _; omega) (ids_ok HI.out.2 _), ?_, isInts_own h3.o2 rfl (by show (stayH hs ts).length ≤ _; omega) (ids_ok HI.out.2 _)⟩
              show IsInts wr _ (comeH ts hs)
              rw [eg]
              exact isInts_own h3.o1 rfl (by omega) hid

end Go.Proofs.Ytcafjjfaamjipaa

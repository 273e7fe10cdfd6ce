/-
  TableOrder, for any row of hosts and any number: in whatever order hosts are put in, the table is the same. No condition.
-/
import Derived.Test.YtcafjjfaamjipaaTableFrame
import Derived.Test.YtcafjjfaamjipaaTableLight
import Derived.Test.YtcafjjfaamjipaaTableTurn
import Derived.Test.YtcafjjfaamjipaaTableFill
import Derived.Test.YtcafjjfaamjipaaTableShown
import Derived.Test.YtcafjjfaamjipaaRefSame
import Derived.Deep.CutRange
namespace Go.Proofs.Ytcafjjfaamjipaa
open Go.ChangeShapes Go.WideShapes Go.ChangeAt Go.RowKit

theorem same_o (L : List HostT) (v u : Value) (vs us : List Value) (w : World) (hv : IsHosts w v vs L) (hu : IsHosts w u us L) : Calls Try.prog 17 #[v, u] w fun e w' => e = .returned (.bool true) ∧ Below w.heap.size w w' := by
  have := rSameHosts_any L L v u vs us w hv hu
  rwa [decide_eq_true rfl] at this
theorem bit_cases (b : Bool) : bitI b = 0 ∨ bitI b = 1 := by cases b <;> simp [bitI]
theorem light_no : bitI (lightB noHost) = 0 := by
  have h0 : wrap64 ((0 : Nat) : Int) = 0 := by unfold wrap64; decide
  have h1 : lightT noHost 0 = 0 := rfl
  unfold lightB
  show bitI (decide ((600 : Int) < wrap64 (lightT noHost 0 : Nat))) = 0
  rw [h1, h0]
  rfl
/-- One more goes in: the call. -/
theorem put_any {l : List HostT} (ha : ApartH l) (hm : ∀ x ∈ l, mayHost x = true) (hl : l.length ≤ 64) (hok : ∀ x ∈ l, okAll x) (k : Nat) (hk : k < l.length) (mv v : Value) (vs : List Value) (w : World) (hv : IsHosts w v vs (putH (l.take k))) (hp : IsPairs w mv (l.getD k noHost).tags) :
    Calls Try.prog 11 #[v, hval (l.getD k noHost) mv] w fun e w' => ∃ v' vs', e = .returned (.tuple #[v', .int .i64 0]) ∧ IsHosts w' v' vs' (putH (l.take (k + 1))) ∧ Below w.heap.size w w' := by
  have e : l.getD k noHost = l[k] := by simp [hk]
  refine (tadd_any (putH (l.take k)) (l.getD k noHost) mv v vs w hv (by rw [e]; exact (hok _ (List.getElem_mem hk)).1) hp).mono ?_
  rintro e w' ⟨hL, hb⟩
  rw [putH_step ha hm hl k hk] at hL
  rcases hL with ⟨h0, _⟩ | ⟨_, v', vs', rfl, ho⟩
  · exact absurd rfl h0
  · have hall : ∀ x ∈ putH (l.take (k + 1)), okAll x := fun x hx => hok x (List.mem_of_mem_take ((putH_perm _).mem_iff.1 hx))
    exact ⟨v', vs', rfl, ho.isHosts (fun i hi => by
      have e : (putH (l.take (k + 1))).getD i noHost = (putH (l.take (k + 1)))[i] := by simp [show i < (putH (l.take (k + 1))).length from hi]
      show okHost ((putH (l.take (k + 1))).getD i noHost)
      rw [e]; exact (hall _ (List.getElem_mem hi)).1) (fun i hi => by
      have e : (putH (l.take (k + 1))).getD i noHost = (putH (l.take (k + 1)))[i] := by simp [show i < (putH (l.take (k + 1))).length from hi]
      show ∀ p ∈ ((putH (l.take (k + 1))).getD i noHost).tags, okPair p
      rw [e]; exact (hall _ (List.getElem_mem hi)).2), hb⟩

set_option maxRecDepth 100000 in
set_option maxHeartbeats 16000000 in
theorem walk_TableOrder (ls : List HostT) (lv : Value) (us : List Value) (_ : ∀ i, i < ls.length → inI (ls.getD i noHost).id) (t : Int) (_ : -9223372036854775808 ≤ t ∧ t ≤ 9223372036854775807) (w : World) (hl : IsHosts w lv us ls) :
    Calls Try.prog 6 #[lv, .int .i64 t] w fun e w' => e = .returned (.bool true) ∧ Below w.heap.size w w' := by
  obtain ⟨lo, lc, rfl⟩ := hl.shaped
  have HL : Hid (∀ W, Below w.heap.size w W → IsHosts W (.slice lo ls.length lc) us ls) := fun W q => hl.below q
  have hcap : ls.length ≤ lc := hl.row.2.1.2.1
  have HOk : Hid (∀ x ∈ ls, okAll x) := okAll_of hl
  clear hl
  have KA : ∀ W, Calls Try.prog 10 #[] W fun e w' => e = .returned (.bool true) ∧ Below W.heap.size W w' := awake8_any
  have KL := light8b_any ls (.slice lo ls.length lc) us w (HL.out w (Below.refl _ _))
  have hbit := bit_cases (light8B ls)
  generalize bitI (light8B ls) = n1 at KL hbit
  go_enter Try.func6, Try.ntmps6
  go_wp2_with fail
  refine KL.mono ?_
  rintro e w1 ⟨rfl, hb⟩
  have HB1 : Hid (Below w.heap.size w w1) := hb
  clear hb KL
  rcases hbit with rfl | rfl
  rotate_left
  · go_wp2_with fail
    refine (KA _).mono ?_
    rintro e w2 ⟨rfl, hb⟩
    have HB2 : Hid (Below w.heap.size w w2) := HB1.out.trans (hb.mono HB1.out.size)
    clear hb
    go_wp2
    go_ret
    exact ⟨rfl, HB2.out⟩
  by_cases h20 : 20 < ls.length
  · have h20' : (20 : Int) < (ls.length : Int) := by omega
    go_wp2_with fail
    refine (KA _).mono ?_
    rintro e w2 ⟨rfl, hb⟩
    have HB2 : Hid (Below w.heap.size w w2) := HB1.out.trans (hb.mono HB1.out.size)
    clear hb
    go_wp2
    go_ret
    exact ⟨rfl, HB2.out⟩
  have h20' : ¬ (20 : Int) < (ls.length : Int) := by omega
  go_wp2
  go_loopw [24] (fun i wr => ∃ k : Nat, k ≤ ls.length ∧ i = .int .i64 k ∧ (∀ j, j < k → mayHost (ls.getD j noHost) = true ∧ findH (ls.take j) (ls.getD j noHost).id < 0) ∧ Below w.heap.size w wr) (fun i _ => ls.length - (intOf i).toNat)
  case atStart => exact ⟨0, Nat.zero_le _, rfl, fun j h => by omega, HB1.out⟩
  case round =>
    obtain ⟨k, hk, rfl, ha, hb⟩ := hrel
    have HA : Hid (∀ j, j < k → mayHost (ls.getD j noHost) = true ∧ findH (ls.take j) (ls.getD j noHost).id < 0) := ha
    have HB : Hid (Below w.heap.size w wr) := hb
    clear ha hb
    by_cases hlt : k < ls.length
    · have hx := HL.out _ HB.out
      obtain ⟨b, off, rfl, hbl, c0, c1, c2, c3, c4, c5⟩ := hx.at k hlt
      obtain ⟨ta, tc, htv⟩ := (hx.tags k hlt).shaped
      have htg := hx.tags k hlt
      have hokx := hx.ok k hlt
      rw [htv] at c5 htg
      have HN : Hid (mayHost (ls.getD k noHost) = true → findH (ls.take k) (ls.getD k noHost).id < 0 → ∀ j, j < k + 1 → mayHost (ls.getD j noHost) = true ∧ findH (ls.take j) (ls.getD j noHost).id < 0) := fun h1 h2 j hj => by
        rcases Nat.lt_or_ge j k with h3 | h3
        · exact HA.out j h3
        · obtain rfl : j = k := by omega
          exact ⟨h1, h2⟩
      generalize ls.getD k noHost = x at c0 c1 c2 c3 c4 c5 htg htv HN hokx
      go_upto_region 6 with fail
      generalize hW0 : wr.alloc _ = W0
      have hXb : HasBox W0 wr.heap.size 25 (hcells x (.slice ta x.tags.length tc)) := by rw [← hW0]; exact hasBox_new wr _ _
      have HB5 : Hid (Below w.heap.size w W0) := by show Below _ _ _; rw [← hW0]; exact HB.out.alloc HB.out.size _
      have hTg : IsPairs W0 (.slice ta x.tags.length tc) x.tags := by rw [← hW0]; exact htg.below ((Below.refl _ _).alloc (Nat.le_refl _) _)
      have HXb : ∀ W, Below W0.heap.size W0 W → HasBox W wr.heap.size 25 (hcells x (.slice ta x.tags.length tc)) := fun W q => hXb.below q
      have HT : ∀ W, Below W0.heap.size W0 W → IsPairs W (.slice ta x.tags.length tc) x.tags := fun W q => hTg.below q
      have HU : ∀ W, Below W0.heap.size W0 W → IsHosts W (.slice (some ⟨b, off, none⟩) k lc) (us.take k) (ls.take k) := fun W q => (HL.out W (HB5.out.trans (q.mono HB5.out.size))).upto k (by omega)
      have KM := fun W q => rMayHost_any x (.slice ta x.tags.length tc) W hokx q
      have KF := fun W q => rFind_any (ls.take k) x.id (.slice (some ⟨b, off, none⟩) k lc) (us.take k) W q
      have hkc : k ≤ lc := by omega
      have hkc0 : (0 : Int) ≤ (k : Int) := by omega
      have hkc1 : (k : Int) ≤ (lc : Int) := by omega
      generalize findH (ls.take k) x.id = fv at KF HN
      clear hW0 hXb hTg htg hokx hx htv c0 c1 c2 c3 c4 c5 HB
      cases hm : mayHost x with
      | false =>
        rw [hm] at KM
        clear hm HN
        refine wp_region_mp ([eqP (hval x (.slice ta x.tags.length tc)), eqP (.bool false), eqP (.bool true), eqP (.bool true), eqP (undef), eqP (undef), eqP (undef), eqP (undef), eqP (undef), eqP (undef), eqP (undef), eqP (.bool true)]) (by kernel_rfl) (by kernel_rfl) ?_ ?_
        · go_light
          simp only [stepsAll3]
          refine ⟨fun a W hF hE hd => ?_, fun a W hF hE hd => ?_, fun a W hF hE hd => ?_, fun a W hF hE hd => ?_, fun a W hF hE hd => ?_, fun a W hF hE hd => ?_, fun a W hF hE hd => ?_, fun a W hF hE hd => ?_, fun a W hF hE hd => ?_, fun a W hF hE hd => ?_, fun a W hF hE hd => ?_, fun a W hF hE hd => ?_, trivial⟩
          all_goals unfold StepAt
          · have t6 : a.tmps.getD 6 undef = .pointer (some ⟨wr.heap.size, 0, none⟩) := hF.at 6 (by kernel_rfl)
            rw [Array.getD_eq_getD_getElem?] at t6
            refine .inl ⟨rfl, ?_⟩
            rw [run_obox _ _ 25 (.tmp 6) rfl (wr.heap.size) (by simpa [Act.eval] using t6) 25 (hcells x (.slice ta x.tags.length tc)) _ (HXb W hE) Try.underlying25 rfl sizeHost]
            exact ⟨Below.refl _ _, rfl⟩
          · have t29 : a.tmps.getD 29 undef = hval x (.slice ta x.tags.length tc) := hd { on := 0, ground := .data } (by simp) rfl
            rw [Array.getD_eq_getD_getElem?] at t29
            refine .inl ⟨rfl, ?_⟩
            go_simp
            exact (KM W (HT W hE)).mono fun e w2 h => ⟨_, h.1, h.2, rfl⟩
          · have t30 : a.tmps.getD 30 undef = .bool false := hd { on := 1, ground := .data } (by simp) rfl
            rw [Array.getD_eq_getD_getElem?] at t30
            refine .inl ⟨rfl, ?_⟩
            go_simp
            exact ⟨Below.refl _ _, rfl⟩
          · have t31 : a.tmps.getD 31 undef = .bool true := hd { on := 2, ground := .data } (by simp) rfl
            rw [Array.getD_eq_getD_getElem?] at t31
            refine .inl ⟨rfl, ?_⟩
            go_simp
            exact ⟨Below.refl _ _, rfl⟩
          · have g32 : a.eval (.tmp 32) = .bool true := hd { on := 3, ground := .guard } (by simp) rfl
            exact .inr ⟨(by simp only [Region.wanted]; rw [yielded_of (d := 32) (by rfl) g32]; rfl), rfl⟩
          · have g32 : a.eval (.tmp 32) = .bool true := hd { on := 3, ground := .guard } (by simp) rfl
            exact .inr ⟨(by simp only [Region.wanted]; rw [yielded_of (d := 32) (by rfl) g32]; rfl), rfl⟩
          · have g32 : a.eval (.tmp 32) = .bool true := hd { on := 3, ground := .guard } (by simp) rfl
            exact .inr ⟨(by simp only [Region.wanted]; rw [yielded_of (d := 32) (by rfl) g32]; rfl), rfl⟩
          · have g32 : a.eval (.tmp 32) = .bool true := hd { on := 3, ground := .guard } (by simp) rfl
            exact .inr ⟨(by simp only [Region.wanted]; rw [yielded_of (d := 32) (by rfl) g32]; rfl), rfl⟩
          · have g32 : a.eval (.tmp 32) = .bool true := hd { on := 3, ground := .guard } (by simp) rfl
            exact .inr ⟨(by simp only [Region.wanted]; rw [yielded_of (d := 32) (by rfl) g32]; rfl), rfl⟩
          · have g32 : a.eval (.tmp 32) = .bool true := hd { on := 3, ground := .guard } (by simp) rfl
            exact .inr ⟨(by simp only [Region.wanted]; rw [yielded_of (d := 32) (by rfl) g32]; rfl), rfl⟩
          · have g32 : a.eval (.tmp 32) = .bool true := hd { on := 3, ground := .guard } (by simp) rfl
            exact .inr ⟨(by simp only [Region.wanted]; rw [yielded_of (d := 32) (by rfl) g32]; rfl), rfl⟩
          · have t32 : a.tmps.getD 32 undef = .bool true := hd { on := 3, ground := .data } (by simp) rfl
            rw [Array.getD_eq_getD_getElem?] at t32
            refine .inl ⟨rfl, ?_⟩
            go_simp
            exact ⟨Below.refl _ _, rfl⟩
        · intro vs W hE hV
          have h11 : vs 11 = .bool true := hV 11 (by decide)
          have HBf : Hid (Below w.heap.size w W) := HB5.out.trans (hE.mono HB5.out.size)
          clear hV hE
          simp only [putsV, dstsV, List.foldl, h11, Act.put, List.setIfInBounds_toArray, List.set_cons_succ, List.set_cons_zero]
          clear h11
          generalize vs 0 = y0
          generalize vs 1 = y1
          generalize vs 2 = y2
          generalize vs 3 = y3
          generalize vs 4 = y4
          generalize vs 5 = y5
          generalize vs 6 = y6
          generalize vs 7 = y7
          generalize vs 8 = y8
          generalize vs 9 = y9
          generalize vs 10 = y10
          refine ‹∀ (a : Act) (w : World), Code.wp Try.prog (Code.cond _ _ _) _ a w → _› _ _ ?_
          go_wp2_with fail
          refine (KA _).mono ?_
          rintro e w9 ⟨rfl, hb⟩
          have HB9 : Hid (Below w.heap.size w w9) := HBf.out.trans (hb.mono HBf.out.size)
          clear hb
          go_wp2
          go_ret
          exact ⟨rfl, HB9.out⟩
      | true =>
        rw [hm] at KM
        by_cases hfv : 0 ≤ fv
        · clear hm HN
          refine wp_region_mp ([eqP (hval x (.slice ta x.tags.length tc)), eqP (.bool true), eqP (.bool false), eqP (.bool false), eqP (.slice (some ⟨b, off, none⟩) ls.length lc), eqP (.int .i64 (k : Nat)), eqP (.slice (some ⟨b, off, none⟩) k lc), eqP (.pointer (some ⟨wr.heap.size, 0, none⟩)), eqP (.int .i64 x.id), eqP (.int .i64 fv), eqP (.bool true), eqP (.bool true)]) (by kernel_rfl) (by kernel_rfl) ?_ ?_
          · go_light
            simp only [stepsAll3]
            refine ⟨fun a W hF hE hd => ?_, fun a W hF hE hd => ?_, fun a W hF hE hd => ?_, fun a W hF hE hd => ?_, fun a W hF hE hd => ?_, fun a W hF hE hd => ?_, fun a W hF hE hd => ?_, fun a W hF hE hd => ?_, fun a W hF hE hd => ?_, fun a W hF hE hd => ?_, fun a W hF hE hd => ?_, fun a W hF hE hd => ?_, trivial⟩
            all_goals unfold StepAt
            · have t6 : a.tmps.getD 6 undef = .pointer (some ⟨wr.heap.size, 0, none⟩) := hF.at 6 (by kernel_rfl)
              rw [Array.getD_eq_getD_getElem?] at t6
              refine .inl ⟨rfl, ?_⟩
              rw [run_obox _ _ 25 (.tmp 6) rfl (wr.heap.size) (by simpa [Act.eval] using t6) 25 (hcells x (.slice ta x.tags.length tc)) _ (HXb W hE) Try.underlying25 rfl sizeHost]
              exact ⟨Below.refl _ _, rfl⟩
            · have t29 : a.tmps.getD 29 undef = hval x (.slice ta x.tags.length tc) := hd { on := 0, ground := .data } (by simp) rfl
              rw [Array.getD_eq_getD_getElem?] at t29
              refine .inl ⟨rfl, ?_⟩
              go_simp
              exact (KM W (HT W hE)).mono fun e w2 h => ⟨_, h.1, h.2, rfl⟩
            · have t30 : a.tmps.getD 30 undef = .bool true := hd { on := 1, ground := .data } (by simp) rfl
              rw [Array.getD_eq_getD_getElem?] at t30
              refine .inl ⟨rfl, ?_⟩
              go_simp
              exact ⟨Below.refl _ _, rfl⟩
            · have t31 : a.tmps.getD 31 undef = .bool false := hd { on := 2, ground := .data } (by simp) rfl
              rw [Array.getD_eq_getD_getElem?] at t31
              refine .inl ⟨rfl, ?_⟩
              go_simp
              exact ⟨Below.refl _ _, rfl⟩
            · have t0 : a.tmps.getD 0 undef = .slice (some ⟨b, off, none⟩) ls.length lc := hF.at 0 (by kernel_rfl)
              rw [Array.getD_eq_getD_getElem?] at t0
              have g32 : a.eval (.tmp 32) = .bool false := hd { on := 3, ground := .guard } (by simp) rfl
              refine .inl ⟨(by simp only [Region.wanted]; rw [yielded_of (d := 32) (by rfl) g32]; rfl), ?_⟩
              clear g32
              go_simp
              exact ⟨Below.refl _ _, rfl⟩
            · have t5 : a.tmps.getD 5 undef = .int .i64 (k : Nat) := hF.at 5 (by kernel_rfl)
              rw [Array.getD_eq_getD_getElem?] at t5
              have g32 : a.eval (.tmp 32) = .bool false := hd { on := 3, ground := .guard } (by simp) rfl
              refine .inl ⟨(by simp only [Region.wanted]; rw [yielded_of (d := 32) (by rfl) g32]; rfl), ?_⟩
              clear g32
              go_simp
              exact ⟨Below.refl _ _, rfl⟩
            · have t33 : a.tmps.getD 33 undef = .slice (some ⟨b, off, none⟩) ls.length lc := hd { on := 4, ground := .data } (by simp) rfl
              rw [Array.getD_eq_getD_getElem?] at t33
              have t34 : a.tmps.getD 34 undef = .int .i64 (k : Nat) := hd { on := 5, ground := .data } (by simp) rfl
              rw [Array.getD_eq_getD_getElem?] at t34
              have g32 : a.eval (.tmp 32) = .bool false := hd { on := 3, ground := .guard } (by simp) rfl
              refine .inl ⟨(by simp only [Region.wanted]; rw [yielded_of (d := 32) (by rfl) g32]; rfl), ?_⟩
              clear g32
              go_simp
              exact ⟨Below.refl _ _, rfl⟩
            · have t6 : a.tmps.getD 6 undef = .pointer (some ⟨wr.heap.size, 0, none⟩) := hF.at 6 (by kernel_rfl)
              rw [Array.getD_eq_getD_getElem?] at t6
              have g32 : a.eval (.tmp 32) = .bool false := hd { on := 3, ground := .guard } (by simp) rfl
              refine .inl ⟨(by simp only [Region.wanted]; rw [yielded_of (d := 32) (by rfl) g32]; rfl), ?_⟩
              clear g32
              go_simp
              exact ⟨Below.refl _ _, rfl⟩
            · have t36 : a.tmps.getD 36 undef = .pointer (some ⟨wr.heap.size, 0, none⟩) := hd { on := 7, ground := .data } (by simp) rfl
              rw [Array.getD_eq_getD_getElem?] at t36
              have g32 : a.eval (.tmp 32) = .bool false := hd { on := 3, ground := .guard } (by simp) rfl
              refine .inl ⟨(by simp only [Region.wanted]; rw [yielded_of (d := 32) (by rfl) g32]; rfl), ?_⟩
              clear g32
              have cx : W.cell? ⟨wr.heap.size, 0, none⟩ = some (.int .i64 x.id) := (HXb W hE).cell 0
              go_simp
              exact ⟨Below.refl _ _, rfl⟩
            · have t35 : a.tmps.getD 35 undef = .slice (some ⟨b, off, none⟩) k lc := hd { on := 6, ground := .data } (by simp) rfl
              rw [Array.getD_eq_getD_getElem?] at t35
              have t37 : a.tmps.getD 37 undef = .int .i64 x.id := hd { on := 8, ground := .data } (by simp) rfl
              rw [Array.getD_eq_getD_getElem?] at t37
              have g32 : a.eval (.tmp 32) = .bool false := hd { on := 3, ground := .guard } (by simp) rfl
              refine .inl ⟨(by simp only [Region.wanted]; rw [yielded_of (d := 32) (by rfl) g32]; rfl), ?_⟩
              clear g32
              go_simp
              exact (KF W (HU W hE)).mono fun e w2 h => ⟨_, h.1, h.2, rfl⟩
            · have t38 : a.tmps.getD 38 undef = .int .i64 fv := hd { on := 9, ground := .data } (by simp) rfl
              rw [Array.getD_eq_getD_getElem?] at t38
              have g32 : a.eval (.tmp 32) = .bool false := hd { on := 3, ground := .guard } (by simp) rfl
              refine .inl ⟨(by simp only [Region.wanted]; rw [yielded_of (d := 32) (by rfl) g32]; rfl), ?_⟩
              clear g32
              go_simp
              exact ⟨Below.refl _ _, rfl⟩
            · have t32 : a.tmps.getD 32 undef = .bool false := hd { on := 3, ground := .data } (by simp) rfl
              rw [Array.getD_eq_getD_getElem?] at t32
              have t39 : a.tmps.getD 39 undef = .bool true := hd { on := 10, ground := .data } (by simp) rfl
              rw [Array.getD_eq_getD_getElem?] at t39
              refine .inl ⟨rfl, ?_⟩
              go_simp
              exact ⟨Below.refl _ _, rfl⟩
          · intro vs W hE hV
            have h11 : vs 11 = .bool true := hV 11 (by decide)
            have HBf : Hid (Below w.heap.size w W) := HB5.out.trans (hE.mono HB5.out.size)
            clear hV hE
            simp only [putsV, dstsV, List.foldl, h11, Act.put, List.setIfInBounds_toArray, List.set_cons_succ, List.set_cons_zero]
            clear h11
            generalize vs 0 = y0
            generalize vs 1 = y1
            generalize vs 2 = y2
            generalize vs 3 = y3
            generalize vs 4 = y4
            generalize vs 5 = y5
            generalize vs 6 = y6
            generalize vs 7 = y7
            generalize vs 8 = y8
            generalize vs 9 = y9
            generalize vs 10 = y10
            refine ‹∀ (a : Act) (w : World), Code.wp Try.prog (Code.cond _ _ _) _ a w → _› _ _ ?_
            go_wp2_with fail
            refine (KA _).mono ?_
            rintro e w9 ⟨rfl, hb⟩
            have HB9 : Hid (Below w.heap.size w w9) := HBf.out.trans (hb.mono HBf.out.size)
            clear hb
            go_wp2
            go_ret
            exact ⟨rfl, HB9.out⟩
        · have HNx : Hid (∀ j, j < k + 1 → mayHost (ls.getD j noHost) = true ∧ findH (ls.take j) (ls.getD j noHost).id < 0) := HN hm (by omega)
          clear hm HN
          refine wp_region_mp ([eqP (hval x (.slice ta x.tags.length tc)), eqP (.bool true), eqP (.bool false), eqP (.bool false), eqP (.slice (some ⟨b, off, none⟩) ls.length lc), eqP (.int .i64 (k : Nat)), eqP (.slice (some ⟨b, off, none⟩) k lc), eqP (.pointer (some ⟨wr.heap.size, 0, none⟩)), eqP (.int .i64 x.id), eqP (.int .i64 fv), eqP (.bool false), eqP (.bool false)]) (by kernel_rfl) (by kernel_rfl) ?_ ?_
          · go_light
            simp only [stepsAll3]
            refine ⟨fun a W hF hE hd => ?_, fun a W hF hE hd => ?_, fun a W hF hE hd => ?_, fun a W hF hE hd => ?_, fun a W hF hE hd => ?_, fun a W hF hE hd => ?_, fun a W hF hE hd => ?_, fun a W hF hE hd => ?_, fun a W hF hE hd => ?_, fun a W hF hE hd => ?_, fun a W hF hE hd => ?_, fun a W hF hE hd => ?_, trivial⟩
            all_goals unfold StepAt
            · have t6 : a.tmps.getD 6 undef = .pointer (some ⟨wr.heap.size, 0, none⟩) := hF.at 6 (by kernel_rfl)
              rw [Array.getD_eq_getD_getElem?] at t6
              refine .inl ⟨rfl, ?_⟩
              rw [run_obox _ _ 25 (.tmp 6) rfl (wr.heap.size) (by simpa [Act.eval] using t6) 25 (hcells x (.slice ta x.tags.length tc)) _ (HXb W hE) Try.underlying25 rfl sizeHost]
              exact ⟨Below.refl _ _, rfl⟩
            · have t29 : a.tmps.getD 29 undef = hval x (.slice ta x.tags.length tc) := hd { on := 0, ground := .data } (by simp) rfl
              rw [Array.getD_eq_getD_getElem?] at t29
              refine .inl ⟨rfl, ?_⟩
              go_simp
              exact (KM W (HT W hE)).mono fun e w2 h => ⟨_, h.1, h.2, rfl⟩
            · have t30 : a.tmps.getD 30 undef = .bool true := hd { on := 1, ground := .data } (by simp) rfl
              rw [Array.getD_eq_getD_getElem?] at t30
              refine .inl ⟨rfl, ?_⟩
              go_simp
              exact ⟨Below.refl _ _, rfl⟩
            · have t31 : a.tmps.getD 31 undef = .bool false := hd { on := 2, ground := .data } (by simp) rfl
              rw [Array.getD_eq_getD_getElem?] at t31
              refine .inl ⟨rfl, ?_⟩
              go_simp
              exact ⟨Below.refl _ _, rfl⟩
            · have t0 : a.tmps.getD 0 undef = .slice (some ⟨b, off, none⟩) ls.length lc := hF.at 0 (by kernel_rfl)
              rw [Array.getD_eq_getD_getElem?] at t0
              have g32 : a.eval (.tmp 32) = .bool false := hd { on := 3, ground := .guard } (by simp) rfl
              refine .inl ⟨(by simp only [Region.wanted]; rw [yielded_of (d := 32) (by rfl) g32]; rfl), ?_⟩
              clear g32
              go_simp
              exact ⟨Below.refl _ _, rfl⟩
            · have t5 : a.tmps.getD 5 undef = .int .i64 (k : Nat) := hF.at 5 (by kernel_rfl)
              rw [Array.getD_eq_getD_getElem?] at t5
              have g32 : a.eval (.tmp 32) = .bool false := hd { on := 3, ground := .guard } (by simp) rfl
              refine .inl ⟨(by simp only [Region.wanted]; rw [yielded_of (d := 32) (by rfl) g32]; rfl), ?_⟩
              clear g32
              go_simp
              exact ⟨Below.refl _ _, rfl⟩
            · have t33 : a.tmps.getD 33 undef = .slice (some ⟨b, off, none⟩) ls.length lc := hd { on := 4, ground := .data } (by simp) rfl
              rw [Array.getD_eq_getD_getElem?] at t33
              have t34 : a.tmps.getD 34 undef = .int .i64 (k : Nat) := hd { on := 5, ground := .data } (by simp) rfl
              rw [Array.getD_eq_getD_getElem?] at t34
              have g32 : a.eval (.tmp 32) = .bool false := hd { on := 3, ground := .guard } (by simp) rfl
              refine .inl ⟨(by simp only [Region.wanted]; rw [yielded_of (d := 32) (by rfl) g32]; rfl), ?_⟩
              clear g32
              go_simp
              exact ⟨Below.refl _ _, rfl⟩
            · have t6 : a.tmps.getD 6 undef = .pointer (some ⟨wr.heap.size, 0, none⟩) := hF.at 6 (by kernel_rfl)
              rw [Array.getD_eq_getD_getElem?] at t6
              have g32 : a.eval (.tmp 32) = .bool false := hd { on := 3, ground := .guard } (by simp) rfl
              refine .inl ⟨(by simp only [Region.wanted]; rw [yielded_of (d := 32) (by rfl) g32]; rfl), ?_⟩
              clear g32
              go_simp
              exact ⟨Below.refl _ _, rfl⟩
            · have t36 : a.tmps.getD 36 undef = .pointer (some ⟨wr.heap.size, 0, none⟩) := hd { on := 7, ground := .data } (by simp) rfl
              rw [Array.getD_eq_getD_getElem?] at t36
              have g32 : a.eval (.tmp 32) = .bool false := hd { on := 3, ground := .guard } (by simp) rfl
              refine .inl ⟨(by simp only [Region.wanted]; rw [yielded_of (d := 32) (by rfl) g32]; rfl), ?_⟩
              clear g32
              have cx : W.cell? ⟨wr.heap.size, 0, none⟩ = some (.int .i64 x.id) := (HXb W hE).cell 0
              go_simp
              exact ⟨Below.refl _ _, rfl⟩
            · have t35 : a.tmps.getD 35 undef = .slice (some ⟨b, off, none⟩) k lc := hd { on := 6, ground := .data } (by simp) rfl
              rw [Array.getD_eq_getD_getElem?] at t35
              have t37 : a.tmps.getD 37 undef = .int .i64 x.id := hd { on := 8, ground := .data } (by simp) rfl
              rw [Array.getD_eq_getD_getElem?] at t37
              have g32 : a.eval (.tmp 32) = .bool false := hd { on := 3, ground := .guard } (by simp) rfl
              refine .inl ⟨(by simp only [Region.wanted]; rw [yielded_of (d := 32) (by rfl) g32]; rfl), ?_⟩
              clear g32
              go_simp
              exact (KF W (HU W hE)).mono fun e w2 h => ⟨_, h.1, h.2, rfl⟩
            · have t38 : a.tmps.getD 38 undef = .int .i64 fv := hd { on := 9, ground := .data } (by simp) rfl
              rw [Array.getD_eq_getD_getElem?] at t38
              have g32 : a.eval (.tmp 32) = .bool false := hd { on := 3, ground := .guard } (by simp) rfl
              refine .inl ⟨(by simp only [Region.wanted]; rw [yielded_of (d := 32) (by rfl) g32]; rfl), ?_⟩
              clear g32
              go_simp
              exact ⟨Below.refl _ _, rfl⟩
            · have t32 : a.tmps.getD 32 undef = .bool false := hd { on := 3, ground := .data } (by simp) rfl
              rw [Array.getD_eq_getD_getElem?] at t32
              have t39 : a.tmps.getD 39 undef = .bool false := hd { on := 10, ground := .data } (by simp) rfl
              rw [Array.getD_eq_getD_getElem?] at t39
              refine .inl ⟨rfl, ?_⟩
              go_simp
              exact ⟨Below.refl _ _, rfl⟩
          · intro vs W hE hV
            have h11 : vs 11 = .bool false := hV 11 (by decide)
            have HBf : Hid (Below w.heap.size w W) := HB5.out.trans (hE.mono HB5.out.size)
            clear hV hE
            simp only [putsV, dstsV, List.foldl, h11, Act.put, List.setIfInBounds_toArray, List.set_cons_succ, List.set_cons_zero]
            clear h11
            generalize vs 0 = y0
            generalize vs 1 = y1
            generalize vs 2 = y2
            generalize vs 3 = y3
            generalize vs 4 = y4
            generalize vs 5 = y5
            generalize vs 6 = y6
            generalize vs 7 = y7
            generalize vs 8 = y8
            generalize vs 9 = y9
            generalize vs 10 = y10
            refine ‹∀ (a : Act) (w : World), Code.wp Try.prog (Code.cond _ _ _) _ a w → _› _ _ ?_
            go_wp2
            go_roundw
            case rel => exact ⟨k + 1, by omega, by go_num, HNx.out, HBf.out⟩
            case measure => simp [intOf]; omega
    · have HAll : Hid (∀ j, j < ls.length → mayHost (ls.getD j noHost) = true ∧ findH (ls.take j) (ls.getD j noHost).id < 0) := fun j hj => HA.out j (by omega)
      have hap : ApartH ls := apart_of fun i hi => (HAll.out i hi).2
      have hmy : ∀ x ∈ ls, mayHost x = true := fun x hx => by
        obtain ⟨i, hi, rfl⟩ := List.mem_iff_getElem.1 hx
        have := (HAll.out i hi).1
        have e : ls.getD i noHost = ls[i] := by simp [hi]
        rwa [e] at this
      obtain ⟨K, hK, eK⟩ := u_mod8 t (ls.length + 1) (by omega)
      replace eK : (IntKind.u64.wrap t).tmod ((ls.length : Int) + 1) = (K : Int) := by simpa using eK
      have hwl : IntKind.u64.wrap ((ls.length : Int) + 1) = (ls.length : Int) + 1 := by rw [IntKind.wrap_u64]; omega
      have hp2 := fromH_perm ls K
      have hlf := hp2.length_eq
      have HF : Hid (∀ i, i < ls.length → ∃ q : Nat, q < ls.length ∧ ((i : Int) + (K : Int)).tmod (ls.length : Int) = (q : Int) ∧ (fromH ls K).getD i noHost = ls.getD q noHost) := fun i hi => fromH_at ls K i (by omega) hi
      have HE : Hid (putH ls = putH (fromH ls K)) := putH_eq hap (apart_perm hp2.symm hap) hp2.symm
      have P1 := fun k hk mv v vs W p q => put_any hap hmy (by omega) HOk.out k hk mv v vs W p q
      have P2 := fun k hk mv v vs W p q => put_any (l := fromH ls K) (apart_perm hp2.symm hap) (fun x hx => hmy x (hp2.mem_iff.1 hx)) (by omega) (fun x hx => HOk.out x (hp2.mem_iff.1 hx)) k hk mv v vs W p q
      have HP1 : Hid _ := P1
      have HP2 : Hid _ := P2
      have HMt : Hid (mayTab (putH ls) = true ∧ (putH ls).length = ls.length) := ⟨putH_may hap hmy (by omega), (putH_perm ls).length_eq⟩
      have HFl : Hid ((fromH ls K).length = ls.length) := hlf
      clear P1 P2 hap hmy hp2 hlf HAll HA
      go_wp2
      go_loopw [8, 9, 53] (fun a b i wr => ∃ (k : Nat) (cs ds : List Value), k ≤ ls.length ∧ i = .int .i64 k ∧ IsHosts wr a cs (putH (ls.take k)) ∧ IsHosts wr b ds (putH ((fromH ls K).take k)) ∧ Below w.heap.size w wr) (fun _ _ i _ => ls.length - (intOf i).toNat)
      case atStart => exact ⟨0, [], [], Nat.zero_le _, rfl, isHosts_nil _, isHosts_nil _, HB.out⟩
      case round =>
        obtain ⟨i, cs, ds, hi, rfl, ha, hb', hb⟩ := hrel
        obtain ⟨ao, ac, hao⟩ := ha.shaped
        obtain ⟨bo, bc, hbo⟩ := hb'.shaped
        have HA : Hid (IsHosts wr u8 cs (putH (ls.take i))) := ha
        have HD : Hid (IsHosts wr u9 ds (putH ((fromH ls K).take i))) := hb'
        have HB2 : Hid (Below w.heap.size w wr) := hb
        clear ha hb' hb
        subst hao
        subst hbo
        by_cases hlt2 : i < ls.length
        · obtain ⟨q, hq, eq, eg⟩ := HF.out i hlt2
          obtain ⟨b, off, hlo, hbl, c0, c1, c2, c3, c4, c5⟩ := (HL.out _ HB2.out).at i hlt2
          obtain ⟨ta, tc, htv⟩ := ((HL.out _ HB2.out).tags i hlt2).shaped
          have htg := (HL.out _ HB2.out).tags i hlt2
          rw [htv] at c5 htg
          have K1 := HP1.out i hlt2 _ _ _ wr HA.out htg
          generalize ls.getD i noHost = x at c0 c1 c2 c3 c4 c5 K1
          clear htv htg
          subst hlo
          go_wp2_with fail
          refine K1.mono ?_
          rintro e w4 ⟨v', vs', rfl, p1, hb⟩
          have HA4 : Hid (IsHosts w4 v' vs' (putH (ls.take (i + 1)))) := p1
          have HD4 : Hid (IsHosts w4 (.slice bo (putH ((fromH ls K).take i)).length bc) ds (putH ((fromH ls K).take i))) := HD.out.below hb
          have HB4 : Hid (Below w.heap.size w w4) := HB2.out.trans (hb.mono HB2.out.size)
          clear p1 hb K1 c0 c1 c2 c3 c4 c5 HA HD hbl
          obtain ⟨b2, off2, hlo2, hbl, c0, c1, c2, c3, c4, c5⟩ := (HL.out _ HB4.out).at q hq
          simp only [Option.some.injEq, Addr.mk.injEq, and_true] at hlo2
          obtain ⟨rfl, rfl⟩ := hlo2
          obtain ⟨sa, sc, hsv⟩ := ((HL.out _ HB4.out).tags q hq).shaped
          have hsg := (HL.out _ HB4.out).tags q hq
          rw [hsv] at c5 hsg
          have K2 := HP2.out i (by rw [HFl.out]; exact hlt2) (.slice sa (ls.getD q noHost).tags.length sc) _ ds w4 HD4.out (by rw [eg]; exact hsg)
          rw [eg] at K2
          generalize ls.getD q noHost = y at c0 c1 c2 c3 c4 c5 K2
          have hwi : IntKind.i64.wrap ((i : Int) + (K : Int)) = (i : Int) + (K : Int) := by rw [IntKind.wrap_i64]; omega
          have hz : ¬ ((ls.length : Int) = 0) := by omega
          have hq1 : (q : Int) < (ls.length : Int) := by omega
          clear hsv hsg eg
          go_wp2_with fail
          refine K2.mono ?_
          rintro e w5 ⟨v2, vs2, rfl, p1, hb⟩
          have HD5 : Hid (IsHosts w5 v2 vs2 (putH ((fromH ls K).take (i + 1)))) := p1
          have HA5 : Hid (IsHosts w5 v' vs' (putH (ls.take (i + 1)))) := HA4.out.below hb
          have HB5 : Hid (Below w.heap.size w w5) := HB4.out.trans (hb.mono HB4.out.size)
          clear p1 hb K2 c0 c1 c2 c3 c4 c5 HA4 HD4
          go_wp2
          go_roundw
          case rel => exact ⟨i + 1, vs', vs2, by omega, by go_num, HA5.out, HD5.out, HB5.out⟩
          case measure => simp [intOf]; omega
        · have hi2 : i = ls.length := by omega
          have ht1 : ls.take i = ls := List.take_of_length_le (by omega)
          have ht2 : (fromH ls K).take i = fromH ls K := List.take_of_length_le (by rw [HFl.out]; omega)
          rw [ht1] at HA
          rw [ht2, ← HE.out] at HD
          rw [ht1, ht2, ← HE.out]
          have hlp := HMt.out.2
          have HMy : Hid (mayTab (putH ls) = true) := HMt.out.1
          obtain ⟨PL, hPL⟩ : ∃ PL, putH ls = PL := ⟨_, rfl⟩
          rw [hPL] at HA HD hlp HMy ⊢
          have hlp2 : ((PL.length : Int) == (ls.length : Int)) = true := by rw [beq_iff_eq]; omega
          have hlight := fun W => lightb_any noHost nilW W ⟨by decide, by decide⟩ (isPairs_nil W)
          rw [light_no] at hlight
          clear ht1 ht2 HP1 HP2 HF HE HMt HFl hPL hlp
          go_wp2_with fail
          refine (same_o PL _ _ _ _ _ HA.out HD.out).mono ?_
          rintro e w4 ⟨rfl, hb⟩
          have HA4 : Hid _ := HA.out.below hb
          have HB4 : Hid (Below w.heap.size w w4) := HB2.out.trans (hb.mono HB2.out.size)
          clear hb
          have KM := tmay_any PL _ _ _ HA4.out
          rw [HMy.out] at KM
          go_wp2_with fail
          refine KM.mono ?_
          rintro e w5 ⟨rfl, hb⟩
          have HB5 : Hid (Below w.heap.size w w5) := HB4.out.trans (hb.mono HB4.out.size)
          clear hb KM
          go_wp2_with fail
          refine (hlight _).mono ?_
          rintro e w6 ⟨rfl, hb⟩
          have HB6 : Hid (Below w.heap.size w w6) := HB5.out.trans (hb.mono HB5.out.size)
          clear hb
          go_wp2_with fail
          refine (KA _).mono ?_
          rintro e w7 ⟨rfl, hb⟩
          have HB7 : Hid (Below w.heap.size w w7) := HB6.out.trans (hb.mono HB6.out.size)
          clear hb
          go_wp2
          go_ret
          exact ⟨rfl, HB7.out⟩


set_option maxRecDepth 100000 in
theorem lifted_TableOrder (os : Os) (started : os.Started) (H : Type) (enc : TypeId × Value → H) :
    ReturnsInHanded {} Try.checked os 6 .any (Rows.tableOrderSpec.pre6 enc Try.prog Try.f6 Rows.tableOrderRow.domain false) (Rows.tableOrderSpec.post enc Try.prog Try.f6 false true false false) := by
  refine returnsInHanded_of_change (C := Try.checked) own started (by kernel_rfl) Try.func6
    (ChangeSpec.witness6 (enc := enc) (C := Try.checked) false ⟨#[], #[.slice none 0 0, .int .i64 0], []⟩ 8 (by kernel_rfl) (by kernel_rfl) (by kernel_rfl) (by kernel_rfl)) ?_
  intro W base args ds gs before hval0 hW hcnd _
  have hval : ∀ (j : Nat) t v, Try.f6.params[j]? = some t → args[j]? = some v → Value.okWide Try.prog W .any base t v := hval0
  have hW' := hW
  obtain ⟨p, q, hA0, hV, rfl, hfz, hnd⟩ := hW
  have hA : DataW.TrodAll enc Try.prog W 0 (fun _ => true) true Try.f6.params.toList args.toList ds p := hA0
  rw [Try.params6] at hA hval
  obtain ⟨v0, vs0, d0, ds0, p0, q0, hargs, rfl, rfl, h0, r0⟩ := trodAll_cons hA
  obtain ⟨v1, vs1, d1, ds1, p1, q1, rfl, rfl, rfl, h1, r1⟩ := trodAll_cons r0
  obtain ⟨rfl, rfl, rfl⟩ := trodAll_nil r1
  obtain rfl : args = #[v0, v1] := by cases args; simp_all
  obtain ⟨rfl, rfl⟩ := trodVars_none hV
  have k0 := h0
  have lt0 : ∀ x ∈ p0, x.block < W.heap.size := by obtain ⟨m, hm⟩ := k0; exact DataW.trod_lt m _ _ _ hm
  obtain ⟨us0, c0, w0, i0⟩ := open_hosts (hval 0 22 v0 rfl rfl) h0
  obtain ⟨a1, rfl, rfl, rfl, w1⟩ := open_int Try.underlying3 (hval 1 3 v1 rfl rfl) h1
  clear hA0 hval0
  refine (walk_TableOrder c0 v0 us0 i0 a1 (wf_i64 w1) W w0).mono fun e W' ⟨he, bel⟩ => ?_
  subst he
  exact ⟨_, rfl, _, _, _, [], _, [], hW', trodAll_mk1 (shut_bool Try.underlying4 _), (trodAll_cons_mk (Below.trod laidOut (by kernel_rfl) (of_decide_eq_true (by kernel_rfl)) k0 bel lt0) (trodAll_cons_mk (shut_int Try.underlying3 w1) trodAll_mk0)), rfl, bel.frame _, fun h => by cases h⟩

theorem over_TableOrder : Rows.tableOrderRow.holds Try.pinned (OpenSpec.ofChange Rows.tableOrderSpec) :=
  OpenClaim.holds_of_wide 6 Try.f6 rfl rfl rfl rfl rfl rfl rfl ⟨rfl, rfl, rfl, rfl, rfl⟩ rfl rfl rfl rfl rfl (by kernel_rfl) Try.func6 (by kernel_rfl)
    (of_decide_eq_true (by kernel_rfl)) (by unfold Func.isWrapper; first | (rw [if_pos (by decide +kernel)]; kernel_rfl) | (rw [if_neg (by decide +kernel)]; exact ⟨rfl, rfl⟩))
    (fun os started H enc _ => lifted_TableOrder os started H enc)

/-- The statement. -/
theorem tableOrder_holds : Rows.TableOrderSaid := over_TableOrder
#print axioms tableOrder_holds

end Go.Proofs.Ytcafjjfaamjipaa

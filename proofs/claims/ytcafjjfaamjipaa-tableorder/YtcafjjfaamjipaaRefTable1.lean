/-
  The reference's answers to chapter 8: the place of a host, what may be a table, tables held against each other.
-/
import Derived.Test.YtcafjjfaamjipaaHostsKit
import Derived.Test.YtcafjjfaamjipaaHostMP
import Derived.Test.YtcafjjfaamjipaaRefHost2
import Derived.Test.YtcafjjfaamjipaaTablePlain
import Derived.Deep.Light
namespace Go.Proofs.Ytcafjjfaamjipaa
open Go.RowKit

set_option maxHeartbeats 1000000 in
theorem rFind_any (hs : List HostT) (id : Int) (v : Value) (vs : List Value) (w : World) (hv : IsHosts w v vs hs) :
    Calls Try.prog 22 #[v, .int .i64 id] w fun e w' => e = .returned (.int .i64 (findH hs id)) ∧ Below w.heap.size w w' := by
  obtain ⟨ao, cap, rfl⟩ := hv.shaped
  have hlen := hv.len
  have HV : Hid (IsHosts w (.slice ao hs.length cap) vs hs) := hv
  clear hv
  go_enter Try.func22, Try.ntmps22
  go_wp2
  go_loopw [9] (fun i wr => ∃ k : Nat, k ≤ hs.length ∧ i = .int .i64 k ∧ (∀ j, j < k → (hs.getD j noHost).id ≠ id) ∧ Below w.heap.size w wr) (fun i _ => hs.length - (intOf i).toNat)
  case atStart => exact ⟨0, Nat.zero_le _, rfl, fun j h => by omega, Below.refl _ _⟩
  case round =>
    obtain ⟨k, hk, rfl, ht, hb⟩ := hrel
    have HT : Hid (∀ j, j < k → (hs.getD j noHost).id ≠ id) := ht
    have HB : Hid (Below w.heap.size w wr) := hb
    clear ht hb
    by_cases hlt : k < hs.length
    · have hx := HV.out.below HB.out
      obtain ⟨b, off, rfl, hbl, c0, c1, c2, c3, c4, c5⟩ := hx.at k hlt
      obtain ⟨to, tc, htv⟩ := (hx.tags k hlt).shaped
      rw [htv] at c5
      have HH : Hid ((hs.getD k noHost).id = id → findH hs id = k) := findH_hit hlt HT.out
      have HN : Hid ((hs.getD k noHost).id ≠ id → ∀ j, j < k + 1 → (hs.getD j noHost).id ≠ id) := fun h j hj => by
        rcases Nat.lt_or_ge j k with h1 | h1
        · exact HT.out j h1
        · obtain rfl : j = k := by omega
          exact h
      generalize hs.getD k noHost = x at c0 c1 c2 c3 c4 c5 HH HN
      clear hx htv
      by_cases he : x.id = id
      · have hb1 : (x.id == id) = true := by rw [beq_iff_eq]; exact he
        have HF : Hid (findH hs id = k) := HH.out he
        clear HH HN he
        go_wp2
        go_ret
        exact ⟨by rw [HF.out]; rfl, HB.out.trans (((Below.refl _ _).alloc (Nat.le_refl _) _).mono HB.out.size)⟩
      · have hb1 : (x.id == id) = false := by rw [beq_eq_false_iff_ne]; exact he
        have HF : Hid (∀ j, j < k + 1 → (hs.getD j noHost).id ≠ id) := HN.out he
        clear HH HN he
        go_wp2
        go_roundw
        case rel => exact ⟨k + 1, by omega, by go_num, HF.out, HB.out.trans (((Below.refl _ _).alloc (Nat.le_refl _) _).mono HB.out.size)⟩
        case measure => simp [intOf]; omega
    · have HF : Hid (findH hs id = -1) := findH_none fun j hj => HT.out j (by omega)
      go_wp2
      go_ret
      exact ⟨by rw [HF.out]; rfl, HB.out⟩

set_option maxRecDepth 100000 in
set_option maxHeartbeats 4000000 in
theorem rMayTable_any (hs : List HostT) (v : Value) (vs : List Value) (w : World) (hv : IsHosts w v vs hs) :
    Calls Try.prog 20 #[v] w fun e w' => e = .returned (.bool (mayTab hs)) ∧ Below w.heap.size w w' := by
  obtain ⟨ao, cap, rfl⟩ := hv.shaped
  have hlen := hv.len
  have HV : Hid (IsHosts w (.slice ao hs.length cap) vs hs) := hv
  clear hv
  go_enter Try.func20, Try.ntmps20
  go_wp2
  go_loopw [7] (fun i wr => ∃ k : Nat, k ≤ hs.length ∧ i = .int .i64 k ∧ GoodTo hs k ∧ Below w.heap.size w wr) (fun i _ => hs.length - (intOf i).toNat)
  case atStart => exact ⟨0, Nat.zero_le _, rfl, goodTo_zero hs, Below.refl _ _⟩
  case round =>
    obtain ⟨k, hk, rfl, ht, hb⟩ := hrel
    have HTo : Hid (GoodTo hs k) := ht
    have HB0 : Hid (Below w.heap.size w wr) := hb
    clear ht hb
    by_cases hlt : k < hs.length
    · have hx := HV.out.below HB0.out
      obtain ⟨b, off, rfl, hbl, c0, c1, c2, c3, c4, c5⟩ := hx.at k hlt
      obtain ⟨to, tc, htv⟩ := (hx.tags k hlt).shaped
      have htg := hx.tags k hlt
      rw [htv] at c5 htg
      have hokx := hx.ok k hlt
      have HS : Hid (∀ q : Bool, q = (mayHost (hs.getD k noHost) && (k == 0 || decide ((hs.getD (k - 1) noHost).id < (hs.getD k noHost).id))) → if q then GoodTo hs (k + 1) else mayTab hs = false) := goodTo_step hlt HTo.out
      have hprev : 0 < k → ∃ y, (hs.getD (k - 1) noHost).id = y ∧ wr.cell? ⟨b, off + (k - 1) * 6, none⟩ = some (.int .i64 y) := fun h0 => by
        obtain ⟨b2, off2, e2, _, d0, _⟩ := hx.at (k - 1) (by omega)
        simp only [Option.some.injEq, Addr.mk.injEq, and_true] at e2
        obtain ⟨rfl, rfl⟩ := e2
        exact ⟨_, rfl, d0⟩
      generalize hs.getD k noHost = x at c0 c1 c2 c3 c4 c5 htg hokx HS htv
      clear hx htv
      go_upto_region 4 with fail
      generalize hW0 : wr.alloc _ = W0
      have hXb : HasBox W0 wr.heap.size 25 (hcells x (.slice to x.tags.length tc)) := by rw [← hW0]; exact hasBox_new wr _ _
      have hTg : IsPairs W0 (.slice to x.tags.length tc) x.tags := by rw [← hW0]; exact htg.below ((Below.refl _ _).alloc (Nat.le_refl _) _)
      have HB : Hid (Below w.heap.size w W0) := by show Below _ _ _; rw [← hW0]; exact HB0.out.alloc HB0.out.size _
      have hcell : ∀ {o : Nat} {u : Value}, wr.cell? ⟨b, o, none⟩ = some u → W0.cell? ⟨b, o, none⟩ = some u := fun {o u} q => by rw [← hW0, World.cell?_alloc_past _ _ _ (by show b < _; omega)]; exact q
      have hbW : b < W0.heap.size := by rw [← hW0]; simp; omega
      have HXb : ∀ W, Below W0.heap.size W0 W → HasBox W wr.heap.size 25 (hcells x (.slice to x.tags.length tc)) := fun W q => hXb.below q
      have HT : ∀ W, Below W0.heap.size W0 W → IsPairs W (.slice to x.tags.length tc) x.tags := fun W q => hTg.below q
      have KM : ∀ W, IsPairs W (.slice to x.tags.length tc) x.tags → Calls Try.prog 24 #[hval x (.slice to x.tags.length tc)] W fun e w' => e = .returned (.bool (mayHost x)) ∧ Below W.heap.size W w' := fun W q => rMayHost_any x _ W hokx q
      clear hXb hTg htg hokx c0 c1 c2 c3 c4 c5
      cases hm : mayHost x with
      | false =>
        rw [hm] at KM HS
        have HF : Hid (mayTab hs = false) := by have := HS.out false rfl; show mayTab hs = false; simpa using this
        clear hm HS hprev hcell hW0 HB0
        refine wp_region_mp ([eqP (hval x (.slice to x.tags.length tc)), eqP (.bool false), eqP (.bool true), eqP (.bool true), eqP (undef), eqP (undef), eqP (undef), eqP (undef), eqP (undef), eqP (undef), eqP (undef), eqP (undef), eqP (undef), eqP (undef), eqP (undef), eqP (undef), eqP (undef), eqP (.bool true)]) (by kernel_rfl) (by kernel_rfl) ?_ ?_
        · go_light
          simp only [stepsAll3]
          refine ⟨fun a W hF hE hd => ?_, fun a W hF hE hd => ?_, fun a W hF hE hd => ?_, fun a W hF hE hd => ?_, fun a W hF hE hd => ?_, fun a W hF hE hd => ?_, fun a W hF hE hd => ?_, fun a W hF hE hd => ?_, fun a W hF hE hd => ?_, fun a W hF hE hd => ?_, fun a W hF hE hd => ?_, fun a W hF hE hd => ?_, fun a W hF hE hd => ?_, fun a W hF hE hd => ?_, fun a W hF hE hd => ?_, fun a W hF hE hd => ?_, fun a W hF hE hd => ?_, fun a W hF hE hd => ?_, trivial⟩
          all_goals unfold StepAt
          · have t4 : a.tmps.getD 4 undef = .pointer (some ⟨wr.heap.size, 0, none⟩) := hF.at 4 (by kernel_rfl)
            rw [Array.getD_eq_getD_getElem?] at t4
            refine .inl ⟨rfl, ?_⟩
            rw [run_obox _ _ 25 (.tmp 4) rfl (wr.heap.size) (by simpa [Act.eval] using t4) 25 (hcells x (.slice to x.tags.length tc)) _ (HXb W hE) Try.underlying25 rfl sizeHost]
            exact ⟨Below.refl _ _, rfl⟩
          · have t12 : a.tmps.getD 12 undef = hval x (.slice to x.tags.length tc) := hd { on := 0, ground := .data } (by simp) rfl
            rw [Array.getD_eq_getD_getElem?] at t12
            refine .inl ⟨rfl, ?_⟩
            go_simp
            exact (KM W (HT W hE)).mono fun e w2 h => ⟨_, h.1, h.2, rfl⟩
          · have t13 : a.tmps.getD 13 undef = .bool false := hd { on := 1, ground := .data } (by simp) rfl
            rw [Array.getD_eq_getD_getElem?] at t13
            refine .inl ⟨rfl, ?_⟩
            go_simp
            exact ⟨Below.refl _ _, rfl⟩
          · have t14 : a.tmps.getD 14 undef = .bool true := hd { on := 2, ground := .data } (by simp) rfl
            rw [Array.getD_eq_getD_getElem?] at t14
            refine .inl ⟨rfl, ?_⟩
            go_simp
            exact ⟨Below.refl _ _, rfl⟩
          · have g15 : a.eval (.tmp 15) = .bool true := hd { on := 3, ground := .guard } (by simp) rfl
            exact .inr ⟨(by simp only [Region.wanted]; rw [yielded_of (d := 15) (by rfl) g15]; rfl), rfl⟩
          · have g15 : a.eval (.tmp 15) = .bool true := hd { on := 3, ground := .guard } (by simp) rfl
            exact .inr ⟨(by simp only [Region.wanted]; rw [yielded_of (d := 15) (by rfl) g15]; rfl), rfl⟩
          · have g15 : a.eval (.tmp 15) = .bool true := hd { on := 3, ground := .guard } (by simp) rfl
            exact .inr ⟨(by simp only [Region.wanted]; rw [yielded_of (d := 15) (by rfl) g15]; rfl), rfl⟩
          · have g18 : a.eval (.tmp 18) = undef := hd { on := 6, ground := .guard } (by simp) rfl
            exact .inr ⟨(by simp only [Region.wanted]; rw [yielded_undef (d := 18) (by rfl) g18]; rfl), rfl⟩
          · have g18 : a.eval (.tmp 18) = undef := hd { on := 6, ground := .guard } (by simp) rfl
            exact .inr ⟨(by simp only [Region.wanted]; rw [yielded_undef (d := 18) (by rfl) g18]; rfl), rfl⟩
          · have g18 : a.eval (.tmp 18) = undef := hd { on := 6, ground := .guard } (by simp) rfl
            exact .inr ⟨(by simp only [Region.wanted]; rw [yielded_undef (d := 18) (by rfl) g18]; rfl), rfl⟩
          · have g18 : a.eval (.tmp 18) = undef := hd { on := 6, ground := .guard } (by simp) rfl
            exact .inr ⟨(by simp only [Region.wanted]; rw [yielded_undef (d := 18) (by rfl) g18]; rfl), rfl⟩
          · have g18 : a.eval (.tmp 18) = undef := hd { on := 6, ground := .guard } (by simp) rfl
            exact .inr ⟨(by simp only [Region.wanted]; rw [yielded_undef (d := 18) (by rfl) g18]; rfl), rfl⟩
          · have g18 : a.eval (.tmp 18) = undef := hd { on := 6, ground := .guard } (by simp) rfl
            exact .inr ⟨(by simp only [Region.wanted]; rw [yielded_undef (d := 18) (by rfl) g18]; rfl), rfl⟩
          · have g18 : a.eval (.tmp 18) = undef := hd { on := 6, ground := .guard } (by simp) rfl
            exact .inr ⟨(by simp only [Region.wanted]; rw [yielded_undef (d := 18) (by rfl) g18]; rfl), rfl⟩
          · have g18 : a.eval (.tmp 18) = undef := hd { on := 6, ground := .guard } (by simp) rfl
            exact .inr ⟨(by simp only [Region.wanted]; rw [yielded_undef (d := 18) (by rfl) g18]; rfl), rfl⟩
          · have g18 : a.eval (.tmp 18) = undef := hd { on := 6, ground := .guard } (by simp) rfl
            exact .inr ⟨(by simp only [Region.wanted]; rw [yielded_undef (d := 18) (by rfl) g18]; rfl), rfl⟩
          · have g15 : a.eval (.tmp 15) = .bool true := hd { on := 3, ground := .guard } (by simp) rfl
            exact .inr ⟨(by simp only [Region.wanted]; rw [yielded_of (d := 15) (by rfl) g15]; rfl), rfl⟩
          · have t15 : a.tmps.getD 15 undef = .bool true := hd { on := 3, ground := .data } (by simp) rfl
            rw [Array.getD_eq_getD_getElem?] at t15
            refine .inl ⟨rfl, ?_⟩
            go_simp
            exact ⟨Below.refl _ _, rfl⟩
        · intro vs W hE hV
          have h17 : vs 17 = .bool true := hV 17 (by decide)
          have HBf : Hid (Below w.heap.size w W) := HB.out.trans (hE.mono HB.out.size)
          clear hV hE
          simp only [putsV, dstsV, List.foldl, h17, Act.put, List.setIfInBounds_toArray, List.set_cons_succ, List.set_cons_zero]
          clear h17
          generalize vs 0 = y0
          generalize vs 1 = y1
          generalize vs 2 = y2
          generalize vs 3 = y3
          generalize vs 4 = y4
          generalize vs 5 = y5
          generalize vs 6 = y6
          generalize vs 7 = y7
          generalize vs 8 = y8
          generalize vs 9 = y9
          generalize vs 10 = y10
          generalize vs 11 = y11
          generalize vs 12 = y12
          generalize vs 13 = y13
          generalize vs 14 = y14
          generalize vs 15 = y15
          generalize vs 16 = y16
          refine ‹∀ (a : Act) (w : World), Code.wp Try.prog (Code.cond _ _ _) _ a w → _› _ _ ?_
          go_wp2
          go_ret
          exact ⟨by rw [HF.out]; rfl, HBf.out⟩
      | true =>
        rw [hm] at KM HS
        rcases Nat.eq_zero_or_pos k with h0 | h0
        · subst h0
          have HF : Hid (GoodTo hs 1) := by have := HS.out true rfl; show GoodTo hs 1; simpa using this
          clear hm HS hprev hcell hW0 HB0
          refine wp_region_mp ([eqP (hval x (.slice to x.tags.length tc)), eqP (.bool true), eqP (.bool false), eqP (.bool false), eqP (.int .i64 (0 : Nat)), eqP (.bool false), eqP (.bool false), eqP (undef), eqP (undef), eqP (undef), eqP (undef), eqP (undef), eqP (undef), eqP (undef), eqP (undef), eqP (undef), eqP (.bool false), eqP (.bool false)]) (by kernel_rfl) (by kernel_rfl) ?_ ?_
          · go_light
            simp only [stepsAll3]
            refine ⟨fun a W hF hE hd => ?_, fun a W hF hE hd => ?_, fun a W hF hE hd => ?_, fun a W hF hE hd => ?_, fun a W hF hE hd => ?_, fun a W hF hE hd => ?_, fun a W hF hE hd => ?_, fun a W hF hE hd => ?_, fun a W hF hE hd => ?_, fun a W hF hE hd => ?_, fun a W hF hE hd => ?_, fun a W hF hE hd => ?_, fun a W hF hE hd => ?_, fun a W hF hE hd => ?_, fun a W hF hE hd => ?_, fun a W hF hE hd => ?_, fun a W hF hE hd => ?_, fun a W hF hE hd => ?_, trivial⟩
            all_goals unfold StepAt
            · have t4 : a.tmps.getD 4 undef = .pointer (some ⟨wr.heap.size, 0, none⟩) := hF.at 4 (by kernel_rfl)
              rw [Array.getD_eq_getD_getElem?] at t4
              refine .inl ⟨rfl, ?_⟩
              rw [run_obox _ _ 25 (.tmp 4) rfl (wr.heap.size) (by simpa [Act.eval] using t4) 25 (hcells x (.slice to x.tags.length tc)) _ (HXb W hE) Try.underlying25 rfl sizeHost]
              exact ⟨Below.refl _ _, rfl⟩
            · have t12 : a.tmps.getD 12 undef = hval x (.slice to x.tags.length tc) := hd { on := 0, ground := .data } (by simp) rfl
              rw [Array.getD_eq_getD_getElem?] at t12
              refine .inl ⟨rfl, ?_⟩
              go_simp
              exact (KM W (HT W hE)).mono fun e w2 h => ⟨_, h.1, h.2, rfl⟩
            · have t13 : a.tmps.getD 13 undef = .bool true := hd { on := 1, ground := .data } (by simp) rfl
              rw [Array.getD_eq_getD_getElem?] at t13
              refine .inl ⟨rfl, ?_⟩
              go_simp
              exact ⟨Below.refl _ _, rfl⟩
            · have t14 : a.tmps.getD 14 undef = .bool false := hd { on := 2, ground := .data } (by simp) rfl
              rw [Array.getD_eq_getD_getElem?] at t14
              refine .inl ⟨rfl, ?_⟩
              go_simp
              exact ⟨Below.refl _ _, rfl⟩
            · have t3 : a.tmps.getD 3 undef = .int .i64 (0 : Nat) := hF.at 3 (by kernel_rfl)
              rw [Array.getD_eq_getD_getElem?] at t3
              have g15 : a.eval (.tmp 15) = .bool false := hd { on := 3, ground := .guard } (by simp) rfl
              refine .inl ⟨(by simp only [Region.wanted]; rw [yielded_of (d := 15) (by rfl) g15]; rfl), ?_⟩
              clear g15
              go_simp
              exact ⟨Below.refl _ _, rfl⟩
            · have t16 : a.tmps.getD 16 undef = .int .i64 (0 : Nat) := hd { on := 4, ground := .data } (by simp) rfl
              rw [Array.getD_eq_getD_getElem?] at t16
              have g15 : a.eval (.tmp 15) = .bool false := hd { on := 3, ground := .guard } (by simp) rfl
              refine .inl ⟨(by simp only [Region.wanted]; rw [yielded_of (d := 15) (by rfl) g15]; rfl), ?_⟩
              clear g15
              go_simp
              exact ⟨Below.refl _ _, rfl⟩
            · have t17 : a.tmps.getD 17 undef = .bool false := hd { on := 5, ground := .data } (by simp) rfl
              rw [Array.getD_eq_getD_getElem?] at t17
              have g15 : a.eval (.tmp 15) = .bool false := hd { on := 3, ground := .guard } (by simp) rfl
              refine .inl ⟨(by simp only [Region.wanted]; rw [yielded_of (d := 15) (by rfl) g15]; rfl), ?_⟩
              clear g15
              go_simp
              exact ⟨Below.refl _ _, rfl⟩
            · have g18 : a.eval (.tmp 18) = .bool false := hd { on := 6, ground := .guard } (by simp) rfl
              exact .inr ⟨(by simp only [Region.wanted]; rw [yielded_of (d := 18) (by rfl) g18]; rfl), rfl⟩
            · have g18 : a.eval (.tmp 18) = .bool false := hd { on := 6, ground := .guard } (by simp) rfl
              exact .inr ⟨(by simp only [Region.wanted]; rw [yielded_of (d := 18) (by rfl) g18]; rfl), rfl⟩
            · have g18 : a.eval (.tmp 18) = .bool false := hd { on := 6, ground := .guard } (by simp) rfl
              exact .inr ⟨(by simp only [Region.wanted]; rw [yielded_of (d := 18) (by rfl) g18]; rfl), rfl⟩
            · have g18 : a.eval (.tmp 18) = .bool false := hd { on := 6, ground := .guard } (by simp) rfl
              exact .inr ⟨(by simp only [Region.wanted]; rw [yielded_of (d := 18) (by rfl) g18]; rfl), rfl⟩
            · have g18 : a.eval (.tmp 18) = .bool false := hd { on := 6, ground := .guard } (by simp) rfl
              exact .inr ⟨(by simp only [Region.wanted]; rw [yielded_of (d := 18) (by rfl) g18]; rfl), rfl⟩
            · have g18 : a.eval (.tmp 18) = .bool false := hd { on := 6, ground := .guard } (by simp) rfl
              exact .inr ⟨(by simp only [Region.wanted]; rw [yielded_of (d := 18) (by rfl) g18]; rfl), rfl⟩
            · have g18 : a.eval (.tmp 18) = .bool false := hd { on := 6, ground := .guard } (by simp) rfl
              exact .inr ⟨(by simp only [Region.wanted]; rw [yielded_of (d := 18) (by rfl) g18]; rfl), rfl⟩
            · have g18 : a.eval (.tmp 18) = .bool false := hd { on := 6, ground := .guard } (by simp) rfl
              exact .inr ⟨(by simp only [Region.wanted]; rw [yielded_of (d := 18) (by rfl) g18]; rfl), rfl⟩
            · have g18 : a.eval (.tmp 18) = .bool false := hd { on := 6, ground := .guard } (by simp) rfl
              exact .inr ⟨(by simp only [Region.wanted]; rw [yielded_of (d := 18) (by rfl) g18]; rfl), rfl⟩
            · have t18 : a.tmps.getD 18 undef = .bool false := hd { on := 6, ground := .data } (by simp) rfl
              rw [Array.getD_eq_getD_getElem?] at t18
              have g15 : a.eval (.tmp 15) = .bool false := hd { on := 3, ground := .guard } (by simp) rfl
              refine .inl ⟨(by simp only [Region.wanted]; rw [yielded_of (d := 15) (by rfl) g15]; rfl), ?_⟩
              clear g15
              go_simp
              exact ⟨Below.refl _ _, rfl⟩
            · have t15 : a.tmps.getD 15 undef = .bool false := hd { on := 3, ground := .data } (by simp) rfl
              rw [Array.getD_eq_getD_getElem?] at t15
              have t28 : a.tmps.getD 28 undef = .bool false := hd { on := 16, ground := .data } (by simp) rfl
              rw [Array.getD_eq_getD_getElem?] at t28
              refine .inl ⟨rfl, ?_⟩
              go_simp
              exact ⟨Below.refl _ _, rfl⟩
          · intro vs W hE hV
            have h17 : vs 17 = .bool false := hV 17 (by decide)
            have HBf : Hid (Below w.heap.size w W) := HB.out.trans (hE.mono HB.out.size)
            clear hV hE
            simp only [putsV, dstsV, List.foldl, h17, Act.put, List.setIfInBounds_toArray, List.set_cons_succ, List.set_cons_zero]
            clear h17
            generalize vs 0 = y0
            generalize vs 1 = y1
            generalize vs 2 = y2
            generalize vs 3 = y3
            generalize vs 4 = y4
            generalize vs 5 = y5
            generalize vs 6 = y6
            generalize vs 7 = y7
            generalize vs 8 = y8
            generalize vs 9 = y9
            generalize vs 10 = y10
            generalize vs 11 = y11
            generalize vs 12 = y12
            generalize vs 13 = y13
            generalize vs 14 = y14
            generalize vs 15 = y15
            generalize vs 16 = y16
            refine ‹∀ (a : Act) (w : World), Code.wp Try.prog (Code.cond _ _ _) _ a w → _› _ _ ?_
            go_wp2
            go_roundw
            case rel => exact ⟨1, by omega, rfl, HF.out, HBf.out⟩
            case measure => simp [intOf]; omega
        · obtain ⟨y, hy, hyc⟩ := hprev h0
          obtain ⟨j, hj⟩ : ∃ j, k = j + 1 := ⟨k - 1, by omega⟩
          obtain ⟨q, hq⟩ : ∃ q, decide (x.id ≤ y) = q := ⟨_, rfl⟩
          have hyc' := hcell hyc
          rw [show k - 1 = j by omega] at hyc'
          have HF : Hid (if q then mayTab hs = false else GoodTo hs (k + 1)) := by
            have h1 := HS.out (!q) (by rw [← hq, hy]; have e0 : (k == 0) = false := by rw [beq_eq_false_iff_ne]; omega
                                       rw [e0, Bool.true_and, Bool.false_or, ← decide_not]; exact decide_eq_decide.2 (by omega))
            show if q then mayTab hs = false else GoodTo hs (k + 1)
            cases q <;> simpa using h1
          have HY : ∀ W, Below W0.heap.size W0 W → W.cell? ⟨b, off + j * 6, none⟩ = some (.int .i64 y) := fun W p => (p.cell (p := ⟨b, off + j * 6, none⟩) hbW).trans hyc'
          have hk0 : (0 : Int) < (k : Int) := by omega
          have e1 : wrap64 ((k : Int) - 1) = (j : Int) := by unfold wrap64; omega
          have e2 : IntKind.i64.wrap ((k : Int) - 1) = (j : Int) := by rw [IntKind.wrap_i64]; omega
          have hjl : j < hs.length := by omega
          have hji : (j : Int) < (hs.length : Int) := by omega
          have HK : Hid (k = j + 1) := hj
          clear hm HS hprev hcell hW0 HB0 hyc hyc' hy hj
          refine wp_region_mp ([eqP (hval x (.slice to x.tags.length tc)), eqP (.bool true), eqP (.bool false), eqP (.bool false), eqP (.int .i64 k), eqP (.bool true), eqP (.bool true), eqP (.pointer (some ⟨wr.heap.size, 0, none⟩)), eqP (.int .i64 x.id), eqP (.slice (some ⟨b, off, none⟩) hs.length cap), eqP (.int .i64 k), eqP (.int .i64 j), eqP (.pointer (some ⟨b, off + j * 6, none⟩)), eqP (.pointer (some ⟨b, off + j * 6, none⟩)), eqP (.int .i64 y), eqP (.bool q), eqP (.bool q), eqP (.bool q)]) (by kernel_rfl) (by kernel_rfl) ?_ ?_
          · go_light
            simp only [stepsAll3]
            refine ⟨fun a W hF hE hd => ?_, fun a W hF hE hd => ?_, fun a W hF hE hd => ?_, fun a W hF hE hd => ?_, fun a W hF hE hd => ?_, fun a W hF hE hd => ?_, fun a W hF hE hd => ?_, fun a W hF hE hd => ?_, fun a W hF hE hd => ?_, fun a W hF hE hd => ?_, fun a W hF hE hd => ?_, fun a W hF hE hd => ?_, fun a W hF hE hd => ?_, fun a W hF hE hd => ?_, fun a W hF hE hd => ?_, fun a W hF hE hd => ?_, fun a W hF hE hd => ?_, fun a W hF hE hd => ?_, trivial⟩
            all_goals unfold StepAt
            · have t4 : a.tmps.getD 4 undef = .pointer (some ⟨wr.heap.size, 0, none⟩) := hF.at 4 (by kernel_rfl)
              rw [Array.getD_eq_getD_getElem?] at t4
              refine .inl ⟨rfl, ?_⟩
              rw [run_obox _ _ 25 (.tmp 4) rfl (wr.heap.size) (by simpa [Act.eval] using t4) 25 (hcells x (.slice to x.tags.length tc)) _ (HXb W hE) Try.underlying25 rfl sizeHost]
              exact ⟨Below.refl _ _, rfl⟩
            · have t12 : a.tmps.getD 12 undef = hval x (.slice to x.tags.length tc) := hd { on := 0, ground := .data } (by simp) rfl
              rw [Array.getD_eq_getD_getElem?] at t12
              refine .inl ⟨rfl, ?_⟩
              go_simp
              exact (KM W (HT W hE)).mono fun e w2 h => ⟨_, h.1, h.2, rfl⟩
            · have t13 : a.tmps.getD 13 undef = .bool true := hd { on := 1, ground := .data } (by simp) rfl
              rw [Array.getD_eq_getD_getElem?] at t13
              refine .inl ⟨rfl, ?_⟩
              go_simp
              exact ⟨Below.refl _ _, rfl⟩
            · have t14 : a.tmps.getD 14 undef = .bool false := hd { on := 2, ground := .data } (by simp) rfl
              rw [Array.getD_eq_getD_getElem?] at t14
              refine .inl ⟨rfl, ?_⟩
              go_simp
              exact ⟨Below.refl _ _, rfl⟩
            · have t3 : a.tmps.getD 3 undef = .int .i64 k := hF.at 3 (by kernel_rfl)
              rw [Array.getD_eq_getD_getElem?] at t3
              have g15 : a.eval (.tmp 15) = .bool false := hd { on := 3, ground := .guard } (by simp) rfl
              refine .inl ⟨(by simp only [Region.wanted]; rw [yielded_of (d := 15) (by rfl) g15]; rfl), ?_⟩
              clear g15
              go_simp
              exact ⟨Below.refl _ _, rfl⟩
            · have t16 : a.tmps.getD 16 undef = .int .i64 k := hd { on := 4, ground := .data } (by simp) rfl
              rw [Array.getD_eq_getD_getElem?] at t16
              have g15 : a.eval (.tmp 15) = .bool false := hd { on := 3, ground := .guard } (by simp) rfl
              refine .inl ⟨(by simp only [Region.wanted]; rw [yielded_of (d := 15) (by rfl) g15]; rfl), ?_⟩
              clear g15
              go_simp
              exact ⟨Below.refl _ _, rfl⟩
            · have t17 : a.tmps.getD 17 undef = .bool true := hd { on := 5, ground := .data } (by simp) rfl
              rw [Array.getD_eq_getD_getElem?] at t17
              have g15 : a.eval (.tmp 15) = .bool false := hd { on := 3, ground := .guard } (by simp) rfl
              refine .inl ⟨(by simp only [Region.wanted]; rw [yielded_of (d := 15) (by rfl) g15]; rfl), ?_⟩
              clear g15
              go_simp
              exact ⟨Below.refl _ _, rfl⟩
            · have t4 : a.tmps.getD 4 undef = .pointer (some ⟨wr.heap.size, 0, none⟩) := hF.at 4 (by kernel_rfl)
              rw [Array.getD_eq_getD_getElem?] at t4
              have g18 : a.eval (.tmp 18) = .bool true := hd { on := 6, ground := .guard } (by simp) rfl
              refine .inl ⟨(by simp only [Region.wanted]; rw [yielded_of (d := 18) (by rfl) g18]; rfl), ?_⟩
              clear g18
              go_simp
              exact ⟨Below.refl _ _, rfl⟩
            · have t19 : a.tmps.getD 19 undef = .pointer (some ⟨wr.heap.size, 0, none⟩) := hd { on := 7, ground := .data } (by simp) rfl
              rw [Array.getD_eq_getD_getElem?] at t19
              have g18 : a.eval (.tmp 18) = .bool true := hd { on := 6, ground := .guard } (by simp) rfl
              refine .inl ⟨(by simp only [Region.wanted]; rw [yielded_of (d := 18) (by rfl) g18]; rfl), ?_⟩
              clear g18
              have cx := (HXb W hE).cell 0
              have cx : W.cell? ⟨wr.heap.size, 0, none⟩ = some (.int .i64 x.id) := cx
              go_simp
              exact ⟨Below.refl _ _, rfl⟩
            · have t0 : a.tmps.getD 0 undef = .slice (some ⟨b, off, none⟩) hs.length cap := hF.at 0 (by kernel_rfl)
              rw [Array.getD_eq_getD_getElem?] at t0
              have g18 : a.eval (.tmp 18) = .bool true := hd { on := 6, ground := .guard } (by simp) rfl
              refine .inl ⟨(by simp only [Region.wanted]; rw [yielded_of (d := 18) (by rfl) g18]; rfl), ?_⟩
              clear g18
              go_simp
              exact ⟨Below.refl _ _, rfl⟩
            · have t3 : a.tmps.getD 3 undef = .int .i64 k := hF.at 3 (by kernel_rfl)
              rw [Array.getD_eq_getD_getElem?] at t3
              have g18 : a.eval (.tmp 18) = .bool true := hd { on := 6, ground := .guard } (by simp) rfl
              refine .inl ⟨(by simp only [Region.wanted]; rw [yielded_of (d := 18) (by rfl) g18]; rfl), ?_⟩
              clear g18
              go_simp
              exact ⟨Below.refl _ _, rfl⟩
            · have t22 : a.tmps.getD 22 undef = .int .i64 k := hd { on := 10, ground := .data } (by simp) rfl
              rw [Array.getD_eq_getD_getElem?] at t22
              have g18 : a.eval (.tmp 18) = .bool true := hd { on := 6, ground := .guard } (by simp) rfl
              refine .inl ⟨(by simp only [Region.wanted]; rw [yielded_of (d := 18) (by rfl) g18]; rfl), ?_⟩
              clear g18
              go_simp
              exact ⟨Below.refl _ _, rfl⟩
            · have t21 : a.tmps.getD 21 undef = .slice (some ⟨b, off, none⟩) hs.length cap := hd { on := 9, ground := .data } (by simp) rfl
              rw [Array.getD_eq_getD_getElem?] at t21
              have t23 : a.tmps.getD 23 undef = .int .i64 j := hd { on := 11, ground := .data } (by simp) rfl
              rw [Array.getD_eq_getD_getElem?] at t23
              have g18 : a.eval (.tmp 18) = .bool true := hd { on := 6, ground := .guard } (by simp) rfl
              refine .inl ⟨(by simp only [Region.wanted]; rw [yielded_of (d := 18) (by rfl) g18]; rfl), ?_⟩
              clear g18
              go_simp
              exact ⟨Below.refl _ _, rfl⟩
            · have t24 : a.tmps.getD 24 undef = .pointer (some ⟨b, off + j * 6, none⟩) := hd { on := 12, ground := .data } (by simp) rfl
              rw [Array.getD_eq_getD_getElem?] at t24
              have g18 : a.eval (.tmp 18) = .bool true := hd { on := 6, ground := .guard } (by simp) rfl
              refine .inl ⟨(by simp only [Region.wanted]; rw [yielded_of (d := 18) (by rfl) g18]; rfl), ?_⟩
              clear g18
              go_simp
              exact ⟨Below.refl _ _, rfl⟩
            · have t25 : a.tmps.getD 25 undef = .pointer (some ⟨b, off + j * 6, none⟩) := hd { on := 13, ground := .data } (by simp) rfl
              rw [Array.getD_eq_getD_getElem?] at t25
              have g18 : a.eval (.tmp 18) = .bool true := hd { on := 6, ground := .guard } (by simp) rfl
              refine .inl ⟨(by simp only [Region.wanted]; rw [yielded_of (d := 18) (by rfl) g18]; rfl), ?_⟩
              clear g18
              have cx := HY W hE
              go_simp
              exact ⟨Below.refl _ _, rfl⟩
            · have t20 : a.tmps.getD 20 undef = .int .i64 x.id := hd { on := 8, ground := .data } (by simp) rfl
              rw [Array.getD_eq_getD_getElem?] at t20
              have t26 : a.tmps.getD 26 undef = .int .i64 y := hd { on := 14, ground := .data } (by simp) rfl
              rw [Array.getD_eq_getD_getElem?] at t26
              have g18 : a.eval (.tmp 18) = .bool true := hd { on := 6, ground := .guard } (by simp) rfl
              refine .inl ⟨(by simp only [Region.wanted]; rw [yielded_of (d := 18) (by rfl) g18]; rfl), ?_⟩
              clear g18
              go_simp
              exact ⟨Below.refl _ _, rfl⟩
            · have t18 : a.tmps.getD 18 undef = .bool true := hd { on := 6, ground := .data } (by simp) rfl
              rw [Array.getD_eq_getD_getElem?] at t18
              have t27 : a.tmps.getD 27 undef = .bool q := hd { on := 15, ground := .data } (by simp) rfl
              rw [Array.getD_eq_getD_getElem?] at t27
              have g15 : a.eval (.tmp 15) = .bool false := hd { on := 3, ground := .guard } (by simp) rfl
              refine .inl ⟨(by simp only [Region.wanted]; rw [yielded_of (d := 15) (by rfl) g15]; rfl), ?_⟩
              clear g15
              go_simp
              exact ⟨Below.refl _ _, rfl⟩
            · have t15 : a.tmps.getD 15 undef = .bool false := hd { on := 3, ground := .data } (by simp) rfl
              rw [Array.getD_eq_getD_getElem?] at t15
              have t28 : a.tmps.getD 28 undef = .bool q := hd { on := 16, ground := .data } (by simp) rfl
              rw [Array.getD_eq_getD_getElem?] at t28
              refine .inl ⟨rfl, ?_⟩
              go_simp
              exact ⟨Below.refl _ _, rfl⟩
          · intro vs W hE hV
            have h17 : vs 17 = .bool q := hV 17 (by decide)
            have HBf : Hid (Below w.heap.size w W) := HB.out.trans (hE.mono HB.out.size)
            clear hV hE
            simp only [putsV, dstsV, List.foldl, h17, Act.put, List.setIfInBounds_toArray, List.set_cons_succ, List.set_cons_zero]
            clear h17
            generalize vs 0 = y0
            generalize vs 1 = y1
            generalize vs 2 = y2
            generalize vs 3 = y3
            generalize vs 4 = y4
            generalize vs 5 = y5
            generalize vs 6 = y6
            generalize vs 7 = y7
            generalize vs 8 = y8
            generalize vs 9 = y9
            generalize vs 10 = y10
            generalize vs 11 = y11
            generalize vs 12 = y12
            generalize vs 13 = y13
            generalize vs 14 = y14
            generalize vs 15 = y15
            generalize vs 16 = y16
            refine ‹∀ (a : Act) (w : World), Code.wp Try.prog (Code.cond _ _ _) _ a w → _› _ _ ?_
            cases q with
            | true =>
              have HF2 : Hid (mayTab hs = false) := by have := HF.out; show mayTab hs = false; simpa using this
              go_wp2
              go_ret
              exact ⟨by rw [HF2.out]; rfl, HBf.out⟩
            | false =>
              have HF2 : Hid (GoodTo hs (k + 1)) := by have := HF.out; show GoodTo hs (k + 1); simpa using this
              go_wp2
              go_roundw
              case rel => exact ⟨k + 1, by omega, by go_num, HF2.out, HBf.out⟩
              case measure => simp [intOf]; omega
    · have hkl : k = hs.length := by omega
      have HF : Hid (mayTab hs = decide (hs.length ≤ 64)) := goodTo_end (hkl ▸ HTo.out)
      by_cases h64 : hs.length ≤ 64
      · have HF2 : Hid (mayTab hs = true) := HF.out.trans (decide_eq_true h64)
        go_wp2
        go_ret
        exact ⟨by rw [HF2.out]; simp; omega, HB0.out⟩
      · have HF2 : Hid (mayTab hs = false) := HF.out.trans (decide_eq_false h64)
        go_wp2
        go_ret
        exact ⟨by rw [HF2.out]; simp; omega, HB0.out⟩

end Go.Proofs.Ytcafjjfaamjipaa

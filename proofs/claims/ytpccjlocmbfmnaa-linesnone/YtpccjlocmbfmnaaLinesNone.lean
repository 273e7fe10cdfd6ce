/-
  Proved: triagelaw5.LinesNone returns true for every slice of ints and every int and changes nothing that was there. No condition.
-/
import Derived.Test.YtpccjlocmbfmnaaLinesFrame
import Derived.Test.YtpccjlocmbfmnaaLinesMath
namespace Go.Proofs.Ytpccjlocmbfmnaa
open Go.ChangeShapes Go.WideShapes Go.ChangeAt Go.RowKit

theorem mkS_list (l : List UInt8) : (mkS l).data.toList = l := by unfold mkS; simp

/-- A line with words, a line without; b blanks. -/
def lineN (b : Nat) (e : Bool) : List UInt8 := if e then List.replicate b 32 ++ [119] ++ List.replicate b 32 ++ [32, 118] else List.replicate b 32 ++ [35, 110, 111]
def textN (b : Nat) (es : List Bool) : List UInt8 := (es.map (lineN b)).flatMap fun d => d ++ [10]
def wantN (i : Nat) : List Bool → List Int
  | [] => []
  | e :: r => (if e then [((i + 1 : Nat) : Int)] else []) ++ wantN (i + 1) r
def wv : List ByteArray := [mkS [119], mkS [118]]

theorem lineN_facts (b : Nat) (hb : b < 5) (e : Bool) : lineOK (mkS (lineN b e)) = true ∧ wordsOf (mkS (lineN b e)) = (if e then wv else []) ∧ (lineN b e).length ≤ 11 ∧ ∀ x ∈ lineN b e, (x.toNat : Int) ≠ 10 := by
  have h : ∀ k : Fin 5, ∀ e : Bool, lineOK (mkS (lineN k.1 e)) = true ∧ wordsOf (mkS (lineN k.1 e)) = (if e then wv else []) ∧ (lineN k.1 e).length ≤ 11 ∧ ∀ x ∈ lineN k.1 e, (x.toNat : Int) ≠ 10 := by decide +kernel
  exact h ⟨b, hb⟩ e
theorem textN_snoc (b : Nat) (es : List Bool) (e : Bool) : textN b (es ++ [e]) = textN b es ++ (lineN b e ++ [10]) := by unfold textN; simp
theorem textN_length (b : Nat) (hb : b < 5) (es : List Bool) : (textN b es).length ≤ 12 * es.length := by
  induction es with
  | nil => simp [textN]
  | cons e r ih =>
    have h := (lineN_facts b hb e).2.2.1
    have e1 : textN b (e :: r) = (lineN b e ++ [10]) ++ textN b r := by simp [textN]
    rw [e1]
    simp only [List.length_append, List.length_cons, List.length_nil]
    omega
theorem wantN_append (i : Nat) (a c : List Bool) : wantN i (a ++ c) = wantN i a ++ wantN (i + a.length) c := by
  induction a generalizing i with
  | nil => simp [wantN]
  | cons e r ih =>
    simp only [List.cons_append, wantN, List.length_cons]
    rw [ih, List.append_assoc, show i + 1 + r.length = i + (r.length + 1) by omega]
theorem wantN_snoc (es : List Bool) (e : Bool) : wantN 0 (es ++ [e]) = wantN 0 es ++ (if e then [((es.length + 1 : Nat) : Int)] else []) := by
  rw [wantN_append, Nat.zero_add]; simp [wantN]
theorem wantN_length (i : Nat) (es : List Bool) : (wantN i es).length ≤ es.length := by
  induction es generalizing i with
  | nil => simp [wantN]
  | cons e r ih =>
    have := ih (i + 1)
    simp only [wantN, List.length_append, List.length_cons]
    split
    · simp; omega
    · simp; omega
theorem wantN_bd (i : Nat) (es : List Bool) : ∀ x ∈ wantN i es, 0 ≤ x ∧ x ≤ ((i + es.length : Nat) : Int) := by
  induction es generalizing i with
  | nil => simp [wantN]
  | cons e r ih =>
    intro x hx
    simp only [wantN, List.mem_append] at hx
    rcases hx with h | h
    · split at h
      · simp at h; subst h; simp; omega
      · simp at h
    · have := ih (i + 1) x h
      simp only [List.length_cons]; omega
theorem linesOf_none (b : Nat) (hb : b < 5) (i : Nat) (es : List Bool) : linesOf i ((es.map (lineN b)).map mkS ++ [mkS []]) = (wantN i es).map fun n => (n, wv) := by
  induction es generalizing i with
  | nil => rfl
  | cons e r ih =>
    rw [List.map_cons, List.map_cons, List.cons_append, linesOf, ih (i + 1), (lineN_facts b hb e).2.1]
    cases e
    · simp [wantN]
    · have : ¬ wv = [] := by decide
      simp [wantN, this]
theorem split_none (b : Nat) (hb : b < 5) (es : List Bool) (hl : es.length ≤ 20) : splitV (mkS (textN b es)) = ((wantN 0 es).map fun n => (n, wv), 0, 0) := by
  have hsz := textN_length b hb es
  have e1 : partsV (mkS (textN b es)) 10 = (es.map (lineN b)).map mkS ++ [mkS []] := by
    unfold partsV textN
    rw [mkS_list]
    have := goL_lines 10 10 rfl (es.map (lineN b)) [] (fun d hd => by
      simp only [List.mem_map] at hd
      obtain ⟨e, _, rfl⟩ := hd
      exact (lineN_facts b hb e).2.2.2)
    rw [List.append_nil] at this
    rw [this]
    simp [goL]
  have e2 := split_good (s := mkS (textN b es)) (by rw [mkS_data']; omega) (fun j hj => by
    rw [e1] at hj ⊢
    rcases Nat.lt_or_ge j ((es.map (lineN b)).map mkS).length with h1 | h1
    · rw [getD_snoc_left _ _ _ _ h1]
      have h2 : j < es.length := by simpa using h1
      have e3 : ((es.map (lineN b)).map mkS).getD j ByteArray.empty = mkS (lineN b es[j]) := by simp [h2]
      rw [e3]; exact (lineN_facts b hb _).1
    · have : j = ((es.map (lineN b)).map mkS).length := by simp at hj h1 ⊢; omega
      rw [this, getD_snoc_last]; decide +kernel)
  rw [e2, e1, linesOf_none b hb 0 es]

theorem pad_eq (b : Nat) (hb : b < 5) : ({ data := #[32, 32, 32, 32] } : ByteArray).extract 0 b = mkS (List.replicate b 32) := by
  have h : ∀ k : Fin 5, (({ data := #[32, 32, 32, 32] } : ByteArray).extract 0 k.1) = mkS (List.replicate k.1 32) := by decide +kernel
  exact h ⟨b, hb⟩
theorem line_even (b : Nat) (X : List UInt8) : mkS X ++ (mkS (List.replicate b 32) ++ { data := #[119] } ++ mkS (List.replicate b 32) ++ { data := #[32, 118, 10] }) = mkS (X ++ (lineN b true ++ [10])) := by
  apply ByteArray.ext; unfold mkS lineN; simp
theorem line_odd (b : Nat) (X : List UInt8) : mkS X ++ (mkS (List.replicate b 32) ++ { data := #[35, 110, 111, 10] }) = mkS (X ++ (lineN b false ++ [10])) := by
  apply ByteArray.ext; unfold mkS lineN; simp

theorem IsInts.at {w : World} {ao : Option Addr} {n cap : Nat} {zs : List Int} (h : IsInts w (.slice ao n cap) zs) (i : Nat) (hi : i < zs.length) :
    ∃ b off, ao = some ⟨b, off, none⟩ ∧ b < w.heap.size ∧ w.cell? ⟨b, off + i, none⟩ = some (.int .i64 (zs.getD i 0)) := by
  rcases h.2.2 with ⟨h0, _⟩ | ⟨_, b, off, c, e, hlt, hc⟩
  · rw [h0] at hi; simp at hi
  · simp only [Value.slice.injEq] at e
    exact ⟨b, off, e.1, hlt, hc i hi⟩

def evB (x : Int) : Bool := bits .and .i64 x 1 == 0

theorem infoInt0 : (Try.prog.info? 3).map (fun i => (i.zero, i.size, i.bytes)) = some (some (.int .i64 0), 1, 8) := by kernel_rfl

set_option maxRecDepth 100000 in
set_option maxHeartbeats 4000000 in
theorem walk_LinesNone (v : Value) (xs : List Int) {w : World} (hv : IsInts w v xs) (hxl : xs.length ≤ 17592186043904) (n : Int) (_wn : -9223372036854775808 ≤ n ∧ n ≤ 9223372036854775807) :
    Calls Try.prog 8 #[v, .int .i64 n] w fun e w' => e = .returned (.bool true) ∧ Below w.heap.size w w' := by
  obtain ⟨ao, c1, rfl⟩ := hv.shape
  by_cases hbig : (20 : Int) < (xs.length : Int)
  · go_enter Try.func8, Try.ntmps8
    go_wp2_with fail
    refine (awake_any _).mono ?_
    rintro e w8 ⟨rfl, hb8⟩
    have HB8 : Hid (Below w.heap.size w w8) := hb8
    clear hb8
    go_wp2
    go_ret
    exact ⟨rfl, HB8.out⟩
  · obtain ⟨i0, hi, hz0, hz1, hz2⟩ := info_parts infoInt0
    obtain ⟨b, hb, eb⟩ := u_mod n 5 (by omega)
    replace eb : (IntKind.u64.wrap n).tmod 5 = (b : Int) := eb
    have HV : Hid (IsInts w (.slice ao xs.length c1) xs) := hv
    have hpad := pad_eq b hb
    have hps : (mkS (List.replicate b 32)).size = b := by rw [mkS_size, List.length_replicate]
    have h4 : (b : Int) ≤ 4 := by omega
    clear hv
    have hpad4 : ¬ (b : Int) < 4 → ({ data := #[32, 32, 32, 32] } : ByteArray).extract 0 4 = mkS (List.replicate b 32) := fun h => by
      have : b = 4 := by omega
      rw [← hpad, this]
    have HEven : Hid (∀ X, mkS X ++ (mkS (List.replicate b 32) ++ { data := #[119] } ++ mkS (List.replicate b 32) ++ { data := #[32, 118, 10] }) = mkS (X ++ (lineN b true ++ [10]))) := line_even b
    have HOdd : Hid (∀ X, mkS X ++ (mkS (List.replicate b 32) ++ { data := #[35, 110, 111, 10] }) = mkS (X ++ (lineN b false ++ [10]))) := line_odd b
    generalize mkS (List.replicate b 32) = Pd at hpad hpad4 hps HEven HOdd
    have hq1 : ({ data := #[119] } : ByteArray).size = 1 := rfl
    have hq2 : ({ data := #[32, 118, 10] } : ByteArray).size = 3 := rfl
    have hq3 : ({ data := #[35, 110, 111, 10] } : ByteArray).size = 4 := rfl
    have hq4 : ({ data := #[32, 32, 32, 32] } : ByteArray).size = 4 := rfl
    have key : ((b : Int) < 4 ∧ True) ∨ (¬ (b : Int) < 4 ∧ ({ data := #[32, 32, 32, 32] } : ByteArray).extract 0 4 = Pd) := by
      by_cases h : (b : Int) < 4
      · exact .inl ⟨h, trivial⟩
      · exact .inr ⟨h, hpad4 h⟩
    have hmin : min (4 : Int) (b : Int) = (b : Int) := by omega
    clear hpad4
    rcases key with ⟨hb4, hp4⟩ | ⟨hb4, hp4⟩
    all_goals
      go_enter Try.func8, Try.ntmps8
      go_wp2
      clear hpad hp4
      go_loopw [6, 7, 28] (fun t o q wr => ∃ k : Nat, k ≤ xs.length ∧ q = .int .i64 k ∧ t = .string (mkS (textN b ((xs.take k).map evB))) ∧ wr.ownsRow w.heap.size 3 1 o (wantN 0 ((xs.take k).map evB)).length ((wantN 0 ((xs.take k).map evB)).map (Value.int .i64)) ∧ Below w.heap.size w wr) (fun _ _ q _ => xs.length - (intOf q).toNat)
      case atStart => exact ⟨0, Nat.zero_le _, rfl, rfl, World.ownsRow_nil _ _ _ _, Below.refl _ _⟩
      case round =>
        obtain ⟨k, hk, rfl, rfl, ho, hbw⟩ := hrel
        have hwl := wantN_length 0 ((xs.take k).map evB)
        have htl := textN_length b hb ((xs.take k).map evB)
        have hEl : ((xs.take k).map evB).length = k := by rw [List.length_map, List.length_take]; omega
        have HO : Hid (wr.ownsRow w.heap.size 3 1 u7 (wantN 0 ((xs.take k).map evB)).length ((wantN 0 ((xs.take k).map evB)).map (Value.int .i64))) := ho
        have HB : Hid (Below w.heap.size w wr) := hbw
        clear ho hbw
        by_cases hlt : k < xs.length
        · obtain ⟨b1, o1, rfl, hbl1, g1⟩ := (HV.out.below HB.out).at k hlt
          have HNt : Hid ((xs.take (k + 1)).map evB = (xs.take k).map evB ++ [evB (xs.getD k 0)]) := by
            show _ = _
            rw [List.take_succ_eq_append_getElem hlt, List.map_append, getD_get _ _ hlt]; rfl
          generalize xs.getD k 0 = x at g1 HNt
          generalize (xs.take k).map evB = E at HO HNt hwl htl hEl ⊢
          have hsz : (mkS (textN b E)).size ≤ 240 := by rw [mkS_size]; omega
          obtain ⟨ev, hev⟩ : ∃ ev, ev = evB x := ⟨_, rfl⟩
          have hev2 : (bits .and .i64 x 1 == 0) = ev := by rw [hev]; rfl
          rw [← hev] at HNt
          clear hev
          cases ev
          · have HT : Hid (mkS (textN b E) ++ (Pd ++ { data := #[35, 110, 111, 10] }) = mkS (textN b (E ++ [false]))) := by show _ = _; rw [HOdd.out, textN_snoc]
            have HW : Hid (wantN 0 (E ++ [false]) = wantN 0 E) := by show _ = _; rw [wantN_snoc]; simp
            generalize mkS (textN b E) = Tx at hsz HT ⊢
            go_wp2
            go_roundw
            case rel => exact ⟨k + 1, by omega, by go_num, by rw [HNt.out, HT.out], by rw [HNt.out, HW.out]; exact HO.out, HB.out⟩
            case measure => simp [intOf]; omega
          · have HT : Hid (mkS (textN b E) ++ (Pd ++ { data := #[119] } ++ Pd ++ { data := #[32, 118, 10] }) = mkS (textN b (E ++ [true]))) := by show _ = _; rw [HEven.out, textN_snoc]
            have HW : Hid (wantN 0 (E ++ [true]) = wantN 0 E ++ [(k : Int) + 1]) := by show _ = _; rw [wantN_snoc, hEl]; simp
            generalize mkS (textN b E) = Tx at hsz HT ⊢
            generalize wantN 0 E = Wn at HO HW hwl
            go_wp2_with (at_builtin; refine wpList_append_row rfl (.tmp 43) (.tmp 46) 45 rfl w.heap.size 3 i0 _ 1 8 Try.underlying45 hi hz0 hz1 hz2 rfl (by decide) _ Wn.length _ rfl (HO.out.alloc _) _ 1 [.int .i64 ((k : Int) + 1)] rfl (one_cell _ _ _ _ (by simp)) (by simp [Value.oneCell']) (by unfold maxLen; omega) (by omega) (by have := HB.out.size; simp; omega) ?_)
            intro v' w6 hown hgrow _
            have HO6 : Hid (w6.ownsRow w.heap.size 3 1 v' (Wn ++ [(k : Int) + 1]).length ((Wn ++ [(k : Int) + 1]).map (Value.int .i64))) := by
              show World.ownsRow _ _ _ _ _ _ _
              rw [List.length_append, List.map_append]; exact hown
            have HB6 : Hid (Below w.heap.size w w6) := (HB.out.alloc HB.out.size _).grown hgrow (by have := HB.out.size; simp; omega) (own_base HO.out)
            clear hown hgrow
            go_wp2
            go_roundw
            case rel => exact ⟨k + 1, by omega, by go_num, by rw [HNt.out, HT.out], by rw [HNt.out, HW.out]; exact HO6.out, HB6.out⟩
            case measure => simp [intOf]; omega
        · have hall : xs.take k = xs := List.take_of_length_le (by omega)
          rw [hall] at HO hwl htl hEl ⊢
          have hsp := fun W => split_any (mkS (textN b (xs.map evB))) W (by rw [mkS_size]; omega)
          rw [split_none b hb (xs.map evB) (by omega)] at hsp
          have hwb := wantN_bd 0 (xs.map evB)
          generalize mkS (textN b (xs.map evB)) = Tx at hsp ⊢
          generalize wantN 0 (xs.map evB) = Wn at HO hwl hsp hwb
          have HWi : Hid (IsInts wr u7 Wn) := isInts_own HO.out rfl (by omega) (fun x hx => by have := hwb x hx; omega)
          obtain ⟨wo, wc, rfl⟩ := HWi.out.shape
          have HSp : Hid _ := hsp
          clear hsp hwb HO hall
          go_wp2_with fail
          refine (HSp.out _).mono ?_
          rintro e w3 ⟨v3, rfl, ⟨vs, hk3⟩, hb3⟩
          obtain ⟨lo, lc, rfl⟩ := hk3.2.1.shaped
          have hml : (Wn.map fun n => (n, wv)).length = Wn.length := List.length_map _
          have HK3 : Hid (IsLines w3 (.slice lo (Wn.map fun n => (n, wv)).length lc) vs (Wn.map fun n => (n, wv))) := hk3
          have HB3 : Hid (Below w.heap.size w w3) := HB.out.trans (hb3.mono HB.out.size)
          have HWi3 : Hid (IsInts w3 (.slice wo Wn.length wc) Wn) := HWi.out.below hb3
          clear hk3 hb3 HWi
          have hwl2 : Wn.length ≤ 20 := by omega
          rw [hml] at HK3 ⊢
          clear hml
          go_wp2
          go_loopw [70] (fun q wq => ∃ m : Nat, m ≤ Wn.length ∧ q = .int .i64 m ∧ Below w3.heap.size w3 wq) (fun q _ => Wn.length - (intOf q).toNat)
          case atStart => exact ⟨0, Nat.zero_le _, rfl, Below.refl _ _⟩
          case round =>
            obtain ⟨m, hm, rfl, hb5⟩ := hrel
            have HB5 : Hid (Below w3.heap.size w3 wr) := hb5
            clear hb5
            by_cases hlt2 : m < Wn.length
            · obtain ⟨b1, o1, rfl, hbl1, g1, g2⟩ := (HK3.out.below HB5.out).at m (by rw [List.length_map]; exact hlt2)
              have hW := (HK3.out.below HB5.out).2.2 m (by rw [List.length_map]; exact hlt2)
              obtain ⟨b2, o2, rfl, hbl2, g3⟩ := (HWi3.out.below HB5.out).at m hlt2
              have e1 : (Wn.map fun n => (n, wv)).getD m (0, []) = (Wn.getD m 0, wv) := by simp [hlt2]
              rw [e1] at g1 hW
              simp only at g1 hW
              clear e1
              generalize Wn.getD m 0 = x at g1 g3
              generalize vs.getD m nilW = p1 at g2 hW
              obtain ⟨po, pc, rfl⟩ := IsRow.shaped hW
              obtain ⟨b3, o3, rfl, hbl3, g4⟩ := strsAt hW 0 (by decide)
              obtain ⟨_, _, e, _, g5⟩ := strsAt hW 1 (by decide)
              simp only [Option.some.injEq, Addr.mk.injEq, and_true] at e
              obtain ⟨rfl, rfl⟩ := e
              have e2 : wv.length = 2 := rfl
              have e3 : wv.getD 0 ByteArray.empty = mkS [119] := rfl
              have e4 : wv.getD 1 ByteArray.empty = mkS [118] := rfl
              rw [e2] at g2
              rw [e3] at g4
              rw [e4] at g5
              have t1 : (mkS [119]).toList = [119] := ByteArray.toList_eq _
              have t2 : (mkS [118]).toList = [118] := ByteArray.toList_eq _
              simp only [Nat.add_zero] at g4
              clear hW e2 e3 e4
              go_wp2
              have hA : Below wr.heap.size wr (wr.alloc (.cells #[.int .i64 x, .slice (some ⟨b3, o3, none⟩) 2 pc] 37)) := (Below.refl _ _).alloc (Nat.le_refl _) _
              have f1 : (wr.alloc (.cells #[.int .i64 x, .slice (some ⟨b3, o3, none⟩) 2 pc] 37)).cell? ⟨wr.heap.size, 0, none⟩ = some (.int .i64 x) := by simp
              have f2 : (wr.alloc (.cells #[.int .i64 x, .slice (some ⟨b3, o3, none⟩) 2 pc] 37)).cell? ⟨wr.heap.size, 1, none⟩ = some (.slice (some ⟨b3, o3, none⟩) 2 pc) := by simp
              have f3 := (hA.cell (p := ⟨b2, o2 + m, none⟩) hbl2).trans g3
              have f4 := (hA.cell (p := ⟨b3, o3, none⟩) hbl3).trans g4
              have f5 := (hA.cell (p := ⟨b3, o3 + 1, none⟩) hbl3).trans g5
              have HB9 : Hid (Below w3.heap.size w3 (wr.alloc (.cells #[.int .i64 x, .slice (some ⟨b3, o3, none⟩) 2 pc] 37))) := HB5.out.alloc HB5.out.size _
              generalize wr.alloc (.cells #[.int .i64 x, .slice (some ⟨b3, o3, none⟩) 2 pc] 37) = W9 at f1 f2 f3 f4 f5 HB9 ⊢
              clear hA g1 g2 g3 g4 g5
              go_quiet (fail)
              go_wp2
              go_roundw
              case rel => exact ⟨m + 1, by omega, by go_num, below_drewN HB9.out _⟩
              case measure => simp [intOf]; omega
            · go_wp2_with fail
              refine (awake_any _).mono ?_
              rintro e w8 ⟨rfl, hb8⟩
              have HB8 : Hid (Below w.heap.size w w8) := (HB3.out.trans (HB5.out.mono HB3.out.size)).trans (hb8.mono (Nat.le_trans HB3.out.size HB5.out.size))
              clear hb8
              go_wp2
              go_ret
              exact ⟨rfl, HB8.out⟩


set_option maxRecDepth 100000 in
theorem lifted_LinesNone (os : Os) (started : os.Started) (H : Type) (enc : TypeId × Value → H) :
    ReturnsInHanded {} Try.checked os 8 .any (Rows.linesNoneSpec.pre6 enc Try.prog Try.f8 Rows.linesNoneRow.domain false) (Rows.linesNoneSpec.post enc Try.prog Try.f8 false true false false) := by
  refine returnsInHanded_of_change_sized (C := Try.checked) own started (by kernel_rfl) Try.func8
    (ChangeSpec.witness6 (enc := enc) (C := Try.checked) false ⟨#[], #[.slice none 0 0, .int .i64 0], []⟩ 8 (by kernel_rfl) (by kernel_rfl) (by kernel_rfl) (by kernel_rfl)) ?_
  intro W base args ds gs before hval0 hW hcnd hsz0 hholds
  have hval : ∀ (j : Nat) t v, Try.f8.params[j]? = some t → args[j]? = some v → Value.okWide Try.prog W .any base t v := hval0
  have hW' := hW
  obtain ⟨p, q, hA0, hV, rfl, hfz, hnd⟩ := hW
  have hA : DataW.TrodAll enc Try.prog W 0 (fun _ => true) true Try.f8.params.toList args.toList ds p := hA0
  have hsz : (DataW.weightsEach Try.prog (Try.f8.params.toList ++ Rows.linesNoneSpec.plain.varTypes Try.prog) (ds ++ gs)).all (· ≤ reachBytes) = true := hsz0
  rw [Try.params8] at hA hval hsz
  obtain ⟨v0, vs0, d0, ds0, p0, q0, hargs, rfl, rfl, h0, r0⟩ := trodAll_cons hA
  obtain ⟨v1, vs1, d1, ds1, p1, q1, rfl, rfl, rfl, h1, r1⟩ := trodAll_cons r0
  obtain ⟨rfl, rfl, rfl⟩ := trodAll_nil r1
  obtain rfl : args = #[v0, v1] := by cases args; simp_all
  obtain ⟨rfl, rfl⟩ := trodVars_none hV
  obtain ⟨a0, len0, cap0, rfl⟩ := okWide_slice Try.underlying45 (hval 0 45 v0 rfl rfl)
  have k0 := h0
  have lt0 : ∀ x ∈ p0, x.block < W.heap.size := by obtain ⟨m, hm⟩ := k0; exact DataW.trod_lt m _ _ _ hm
  obtain ⟨z0, w0, y0⟩ : ∃ zs, IsInts W (.slice a0 len0 cap0) zs ∧ zs.length ≤ 17592186043904 := by
    obtain ⟨fuel, hf⟩ := h0
    rcases open_ints Try.underlying45 Try.underlying3 (by kernel_rfl) hf with ⟨hcs, _⟩ | ⟨x, l, c, zs, hcs, _, hl, hm, hz, hx, hcell, hwz⟩
    · simp [Value.cells] at hcs
      obtain ⟨rfl, rfl, rfl⟩ := hcs
      exact ⟨[], isInts_nil W, by simp⟩
    · simp [Value.cells] at hcs
      obtain ⟨rfl, rfl, rfl⟩ := hcs
      simp only [Prod.mk.injEq] at hx
      obtain ⟨rfl, rfl⟩ := hx
      have hs := sized_slice hsz (j := 0) (t := 45) (e := 3) rfl rfl Try.underlying45
      rw [Try.bytes3] at hs
      simp only [lits, List.length_map, reachBytes] at hs
      exact ⟨_, isInts_row hl hm (by simpa using hz) hcell hwz, by omega⟩
  obtain ⟨a1, rfl, rfl, rfl, w1⟩ := open_int Try.underlying3 (hval 1 3 v1 rfl rfl) h1
  clear hA0 hval0
  refine (walk_LinesNone _ z0 w0 y0 a1 (wf_i64 w1)).mono fun e W' ⟨he, bel⟩ => ?_
  subst he
  exact ⟨_, rfl, _, _, _, [], _, [], hW', trodAll_mk1 (shut_bool Try.underlying4 _), (trodAll_cons_mk (Below.trod laidOut (by kernel_rfl) (of_decide_eq_true (by kernel_rfl)) k0 bel lt0) (trodAll_cons_mk (shut_int Try.underlying3 w1) trodAll_mk0)), rfl, bel.frame _, fun h => by cases h⟩

theorem over_LinesNone : Rows.linesNoneRow.holds Try.pinned (OpenSpec.ofChange Rows.linesNoneSpec) :=
  OpenClaim.holds_of_wide 8 Try.f8 rfl rfl rfl rfl rfl rfl rfl ⟨rfl, rfl, rfl, rfl, rfl⟩ rfl rfl rfl rfl rfl (by kernel_rfl) Try.func8 (by kernel_rfl)
    (of_decide_eq_true (by kernel_rfl)) (by unfold Func.isWrapper; first | (rw [if_pos (by decide +kernel)]; kernel_rfl) | (rw [if_neg (by decide +kernel)]; exact ⟨rfl, rfl⟩))
    (fun os started H enc _ => lifted_LinesNone os started H enc)

/-- The statement. -/
theorem linesNone_holds : Rows.LinesNoneSaid := over_LinesNone
#print axioms linesNone_holds

end Go.Proofs.Ytpccjlocmbfmnaa

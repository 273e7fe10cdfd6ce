/-
  The contract of package lines' Join, as landed: over the library's own contracts of strings.Builder and strings.Join.
-/
import Derived.Test.YtkninlahlgipoaaDoorShelf
import Derived.Test.YtkninlahlgipoaaDoorBase
import Derived.Test.YtkninlahlgipoaaDoorChecked
import Derived.WalkSmall
import Derived.BigQuiet
namespace Go.Proofs.YtkninlahlgipoaaDoor
open Go.RowKit Go.Shelf

theorem laysWS : Lays.n166 Tryd.prog Tryd.lays156_ren := { Tryd.lays156 with }
def renWB : Ren := ⟨fun | 167 => 40 | n => Tryd.lays156_ren.f n, Tryd.lays156_ren.t, Tryd.lays156_ren.g⟩
set_option maxRecDepth 100000 in
theorem extraWB : Builder.Extra Tryd.prog renWB := { Tryd.Builder_Extra_156 with }
theorem laysWB : Lays.n167 Tryd.prog renWB := { Tryd.lays156, Tryd.Builder_Extra_156 with
  f167 := Tryd.func40.trans (congrArg some (by kernel_rfl))
  f240 := Tryd.func51.trans (congrArg some (by kernel_rfl))
  f276 := Tryd.func58.trans (congrArg some (by kernel_rfl)) }

theorem wstring_any (B b : Nat) (bs : List Value) (s : ByteArray) (w : World) (h : Lib.IsBuilderF 74 5 B b bs w) (hlen : bs.length + s.size ≤ 140737488355328) (hBw : B ≤ w.heap.size) :
    Calls Tryd.prog 38 #[.pointer (some ⟨b, 0, none⟩), .string s] w fun e w' => e = .returned (.tuple #[.int .i64 s.size, .nilIface]) ∧ (Lib.BuilderAtF 74 5 B b (.pointer (some ⟨b, 0, none⟩)) (bs ++ Lib.strCells s) w' ∧ Below B w w' ∧ Lib.OthersKept 5 (some b) w w') := Any.Builder_WriteString_k laysWS Tryd.Builder_Extra_156 B b bs s w h hlen hBw
theorem wbyte_any (B b : Nat) (bs : List Value) (c : Int) (w : World) (h : Lib.IsBuilderF 74 5 B b bs w) (hlen : bs.length + 1 ≤ 140737488355328) (hBw : B ≤ w.heap.size) :
    Calls Tryd.prog 40 #[.pointer (some ⟨b, 0, none⟩), .int .u8 c] w fun e w' => e = .returned .nilIface ∧ (Lib.BuilderAtF 74 5 B b (.pointer (some ⟨b, 0, none⟩)) (bs ++ [.int .u8 c]) w' ∧ Below B w w' ∧ Lib.OthersKept 5 (some b) w w') := Any.Builder_WriteByte_k laysWB extraWB B b bs c w h hlen hBw

theorem builder_below {T e : TypeId} {B b : Nat} {bs : List Value} {W W' : World} (h : Lib.IsBuilderF T e B b bs W) (hb : Below W.heap.size W W') : Lib.IsBuilderF T e B b bs W' := by
  have one : ∀ p, Lib.BuilderAtF T e B b p bs W → Lib.BuilderAtF T e B b p bs W' := fun p h => by
    obtain ⟨hB, v, hv, hown, hne⟩ := h
    exact ⟨hB, v, (hb.block b (Array.getElem?_eq_some_iff.1 hv).1).trans hv, hown.kept (row := none) ⟨hb.os, hb.tape, hb.output, hb.size, fun k hk _ => hb.block k hk⟩ (Classical.em _), hne⟩
  exact h.elim (fun x => .inl (one _ x)) (fun x => .inr (one _ x))

theorem join_words (ws : List ByteArray) : Lib.join (ws.map (·.data.toList)) [32] = wordsL ws := by
  unfold wordsL
  cases ws with
  | nil => rfl
  | cons x r =>
    rw [List.map_cons, Lib.join_cons]
    show _ = x.data.toList ++ _
    congr 1
theorem words_few (ws : List ByteArray) : ws.length ≤ (wordsL ws).length + 1 := by
  unfold wordsL
  cases ws with
  | nil => simp
  | cons x r =>
    show _ ≤ (x.data.toList ++ _).length + 1
    have : ∀ q : List (List UInt8), q.length ≤ (q.flatMap fun y => (32 : UInt8) :: y).length := fun q => by
      induction q with
      | nil => simp
      | cons y t ih => simp only [List.flatMap_cons, List.length_cons, List.length_append]; omega
    have h := this (r.map fun s => s.data.toList)
    rw [List.length_map] at h
    simp only [List.length_append, List.length_cons]
    omega

set_option maxHeartbeats 1000000 in
/-- strings.Join of words, a blank between. -/
theorem sjoin_any (ws : List ByteArray) (ao : Option Addr) (c : Nat) (w : World) (h : IsStrs w (.slice ao ws.length c) ws) (hl : (wordsL ws).length ≤ 1000000) :
    Calls Tryd.prog 39 #[.slice ao ws.length c, .string ⟨#[32]⟩] w fun e w' => e = .returned (.string (mkS (wordsL ws))) ∧ Below w.heap.size w w' := by
  cases ws with
  | nil =>
    refine (Tryd.strings_Join_none ao c ⟨#[32]⟩ w).mono ?_
    rintro e w1 ⟨rfl, rfl⟩
    exact ⟨rfl, Below.refl _ _⟩
  | cons x r =>
    have hf := words_few (x :: r)
    obtain ⟨h1, ⟨h2, hr⟩, h3⟩ := h
    rcases h3 with ⟨h0, _⟩ | ⟨_, b, off, cap, e, hlt, hc⟩
    · simp at h0
    · simp only [Value.slice.injEq] at e
      obtain ⟨rfl, _, rfl⟩ := e
      have hj := join_words (x :: r)
      have hcap : (x :: r).length ≤ c := hr.1
      refine (Tryd.strings_Join b off c (x :: r) ⟨#[32]⟩ w (fun j y hy => ?_) hlt (by omega) hcap (by rw [show (⟨#[32]⟩ : ByteArray).data.toList = [32] from rfl, hj]; omega)).mono ?_
      · have hj' : j < (x :: r).length := (List.getElem?_eq_some_iff.1 hy).1
        rw [hc j (by omega), List.getElem?_map, hy]; rfl
      · rintro e w1 ⟨rfl, hb⟩
        refine ⟨?_, hb⟩
        rw [show (⟨#[32]⟩ : ByteArray).data.toList = [32] from rfl, hj]
        rfl

theorem cells_snoc (A B : List UInt8) : Lib.byteCells A ++ Lib.strCells (mkS B) ++ [.int .u8 10] = Lib.byteCells (A ++ (B ++ [10])) := by
  unfold Lib.byteCells Lib.strCells mkS
  simp

set_option maxHeartbeats 2000000 in
theorem join_own (L : List LineT) (vs : List Value) (v : Value) (w : World) (hv : IsLines w v vs L) (hlen : (textL L).length ≤ 1000000) :
    Calls Tryd.prog 23 #[v] w fun e w' => e = .returned (.string (mkS (textL L))) ∧ Below w.heap.size w w' := by
  obtain ⟨ao, c1, rfl⟩ := hv.2.1.shaped
  have hLm : L.length ≤ 9223372036854775807 := hv.2.1.2.1.1
  have HV : Hid (IsLines w (.slice ao L.length c1) vs L) := hv
  have HLe : Hid ((textL L).length ≤ 1000000) := hlen
  clear hv hlen
  go_enter Tryd.func23, Tryd.ntmps23
  go_wp2
  go_loopw [8] (fun i wr => ∃ k : Nat, k ≤ L.length ∧ i = .int .i64 k ∧ Lib.IsBuilderF 74 5 w.heap.size w.heap.size (Lib.byteCells (textL (L.take k))) wr ∧ Below w.heap.size w wr) (fun i _ => L.length - (intOf i).toNat)
  case atStart => exact ⟨0, Nat.zero_le _, rfl, Lib.IsBuilderF.of (Lib.fresh_isBuilder 74 5 w), (Below.refl _ w).alloc (Nat.le_refl _) _⟩
  case round =>
    obtain ⟨i, hi, rfl, hbd, hb⟩ := hrel
    have HB : Hid (Below w.heap.size w wr) := hb
    have HBd : Hid (Lib.IsBuilderF 74 5 w.heap.size w.heap.size (Lib.byteCells (textL (L.take i))) wr) := hbd
    clear hb hbd
    by_cases hlt : i < L.length
    · obtain ⟨b, off, rfl, hbl, g1, g2⟩ := (HV.out.below HB.out).at i hlt
      have hW := (HV.out.below HB.out).2.2 i hlt
      have HT : Hid (textL (L.take (i + 1)) = textL (L.take i) ++ (wordsL (L.getD i (0, [])).2 ++ [10])) := textL_take L i hlt
      have HZ : Hid ((textL (L.take i) ++ (wordsL (L.getD i (0, [])).2 ++ [10])).length ≤ 1000000) := by
        show _ ≤ _
        rw [← HT.out]; exact Nat.le_trans (textL_le L (i + 1)) HLe.out
      generalize L.getD i (0, []) = l at g1 hW HT HZ
      obtain ⟨no, ws⟩ := l
      simp only at g1 hW HT HZ
      generalize vs.getD i nilW = u at g2 hW
      obtain ⟨wo, wc, rfl⟩ := hW.shaped
      have HWs : Hid (IsStrs wr (.slice wo ws.length wc) ws) := hW
      clear hW
      generalize textL (L.take i) = A at HT HZ HBd ⊢
      have hz := HZ.out
      simp only [List.length_append, List.length_singleton] at hz
      have hsz := HB.out.size
      go_wp2_with fail
      have HB1 : Hid (Below w.heap.size w (wr.alloc (.cells #[.int .i64 no, .slice wo ws.length wc] 38))) := HB.out.alloc HB.out.size _
      have HWs1 : Hid (IsStrs (wr.alloc (.cells #[.int .i64 no, .slice wo ws.length wc] 38)) (.slice wo ws.length wc) ws) := HWs.out.below ((Below.refl _ _).alloc (Nat.le_refl _) _)
      have HBd1 : Hid (Lib.IsBuilderF 74 5 w.heap.size w.heap.size (Lib.byteCells A) (wr.alloc (.cells #[.int .i64 no, .slice wo ws.length wc] 38))) := builder_below HBd.out ((Below.refl _ _).alloc (Nat.le_refl _) _)
      generalize wr.alloc (.cells #[.int .i64 no, .slice wo ws.length wc] 38) = W1 at HB1 HWs1 HBd1 ⊢
      refine (sjoin_any ws wo wc W1 HWs1.out (by omega)).mono ?_
      rintro e W2 ⟨rfl, hb2⟩
      have HB2 : Hid (Below w.heap.size w W2) := HB1.out.trans (hb2.mono HB1.out.size)
      have HBd2 : Hid (Lib.IsBuilderF 74 5 w.heap.size w.heap.size (Lib.byteCells A) W2) := builder_below HBd1.out hb2
      clear hb2
      go_wp2_with fail
      refine (wstring_any w.heap.size w.heap.size _ (mkS (wordsL ws)) W2 HBd2.out (by rw [Lib.byteCells_length, mkS_size]; omega) HB2.out.size).mono ?_
      rintro e W3 ⟨rfl, h3, b3, _⟩
      have HB3 : Hid (Below w.heap.size w W3) := HB2.out.trans b3
      have HBd3 : Hid (Lib.BuilderAtF 74 5 w.heap.size w.heap.size _ _ W3) := h3
      clear h3 b3
      go_wp2_with fail
      refine (wbyte_any w.heap.size w.heap.size _ 10 W3 (.inr HBd3.out) (by rw [List.length_append, Lib.byteCells_length, Lib.strCells_length, mkS_size]; omega) HB3.out.size).mono ?_
      rintro e W4 ⟨rfl, h4, b4, _⟩
      have HB4 : Hid (Below w.heap.size w W4) := HB3.out.trans b4
      rw [cells_snoc, ← HT.out] at h4
      have HBd4 : Hid (Lib.BuilderAtF 74 5 w.heap.size w.heap.size _ _ W4) := h4
      clear h4 b4
      go_wp2
      go_roundw
      case rel => exact ⟨i + 1, by omega, by go_num, .inr HBd4.out, HB4.out⟩
      case measure => simp [intOf]; omega
    · have hd := HBd.out
      rw [List.take_of_length_le (by omega)] at hd
      have HD : Hid (Lib.IsBuilderF 74 5 w.heap.size w.heap.size (Lib.byteCells (textL L)) wr) := hd
      clear hd HBd
      go_wp2_with fail
      refine (Tryd.Builder_String_any_k w.heap.size w.heap.size _ wr HD.out HB.out.size).mono ?_
      rintro e W4 ⟨rfl, _, b4, _⟩
      have HB4 : Hid (Below w.heap.size w W4) := HB.out.trans b4
      clear b4
      go_wp2
      go_ret
      exact ⟨rfl, HB4.out⟩

end Go.Proofs.YtkninlahlgipoaaDoor

/-
  The contract of package turn's Runs, as landed.
-/
import Derived.Test.YtkninlahlgipoaaDoorSeqOwn
import Derived.Test.YtkninlahlgipoaaDoorBase
import Derived.Test.YtkninlahlgipoaaDoorChecked
import Derived.WalkSmall
import Derived.Lib.Bytealg
import Derived.BigQuiet
namespace Go.Proofs.YtkninlahlgipoaaDoor
open Go.RowKit Go.Shelf

attribute [local go_sem] Oper.semAt_some

def encP (p : Int × ByteArray) : Array Value := #[.int .i64 p.1, .string p.2]

theorem index_split (l : List UInt8) (c : UInt8) : (Go.Lib.indexByte l c = -1 ∧ c ∉ l) ∨ ∃ pre post, l = pre ++ c :: post ∧ c ∉ pre ∧ Go.Lib.indexByte l c = (pre.length : Int) := by
  induction l with
  | nil => exact .inl ⟨rfl, by simp⟩
  | cons b r ih =>
    by_cases h : b = c
    · subst h
      exact .inr ⟨[], r, rfl, by simp, by simp [Go.Lib.indexByte]⟩
    · have hb : (b == c) = false := by simpa using h
      rcases ih with ⟨h1, h2⟩ | ⟨pre, post, h1, h2, h3⟩
      · refine .inl ⟨by simp [Go.Lib.indexByte, hb, h1], fun hm => ?_⟩
        rcases List.mem_cons.1 hm with e | e
        · exact h e.symm
        · exact h2 e
      · refine .inr ⟨b :: pre, post, by rw [h1]; rfl, fun hm => ?_, ?_⟩
        · rcases List.mem_cons.1 hm with e | e
          · exact h e.symm
          · exact h2 e
        · have hne : ((pre.length : Int) == -1) = false := by rw [beq_eq_false_iff_ne]; omega
          simp [Go.Lib.indexByte, hb, h3, hne]
theorem byte_ne {c : Int} (h0 : 0 ≤ c) (h1 : c ≤ 255) (b : UInt8) : (b.toNat : Int) = c ↔ b = c.toNat.toUInt8 := by
  have e : (c.toNat.toUInt8).toNat = c.toNat := by simp; omega
  constructor
  · intro h
    apply UInt8.toNat_inj.1
    omega
  · rintro rfl
    omega
theorem goL_free {c : Int} (h0 : 0 ≤ c) (h1 : c ≤ 255) (cur l : List UInt8) (h : c.toNat.toUInt8 ∉ l) : goL c cur l = [cur ++ l] := by
  induction l generalizing cur with
  | nil => simp [goL]
  | cons b r ih =>
    rw [goL, if_neg (fun e => h (by rw [(byte_ne h0 h1 b).1 e]; simp)), ih _ (fun hm => h (List.mem_cons_of_mem _ hm))]
    simp
theorem goL_cut {c : Int} (h0 : 0 ≤ c) (h1 : c ≤ 255) (cur pre post : List UInt8) (h : c.toNat.toUInt8 ∉ pre) : goL c cur (pre ++ c.toNat.toUInt8 :: post) = (cur ++ pre) :: goL c [] post := by
  induction pre generalizing cur with
  | nil => rw [List.nil_append, goL, if_pos ((byte_ne h0 h1 _).2 rfl)]; simp
  | cons b r ih =>
    rw [List.cons_append, goL, if_neg (fun e => h (by rw [(byte_ne h0 h1 b).1 e]; simp)), ih _ (fun hm => h (List.mem_cons_of_mem _ hm))]
    simp

/-- D is told, r is left. -/
def Left (s : ByteArray) (c : Int) (D : List ByteArray) (r : ByteArray) : Prop := D ++ partsV r c = partsV s c ∧ D.length + r.size ≤ s.size
theorem left_hit {s : ByteArray} {c : Int} {D : List ByteArray} {r : ByteArray} (h0 : 0 ≤ c) (h1 : c ≤ 255) (h : Left s c D r) {pre post : List UInt8} (he : r.data.toList = pre ++ c.toNat.toUInt8 :: post) (hp : c.toNat.toUInt8 ∉ pre) :
    Left s c (D ++ [r.extract 0 pre.length]) (r.extract (pre.length + 1) r.size) ∧ (numbered (partsV s c)).take (D.length + 1) = (numbered (partsV s c)).take D.length ++ [((D.length : Int), r.extract 0 pre.length)] ∧ D.length < (numbered (partsV s c)).length ∧ pre.length < r.size ∧ D.length < s.size := by
  have hsz : r.size = pre.length + 1 + post.length := by
    show r.data.toList.length = _
    rw [he]; simp; omega
  have e1 : r.extract 0 pre.length = mkS pre := by rw [extract_cut, he]; unfold cutL; simp
  have e2 : r.extract (pre.length + 1) r.size = mkS post := by
    rw [extract_cut, he, hsz]; unfold cutL
    rw [show pre ++ c.toNat.toUInt8 :: post = (pre ++ [c.toNat.toUInt8]) ++ post by simp, List.drop_append_of_le_length (by simp), show List.drop (pre.length + 1) (pre ++ [c.toNat.toUInt8]) = [] by apply List.drop_of_length_le; simp]
    rw [List.nil_append, List.take_of_length_le (by omega)]
  have e3 : partsV r c = mkS pre :: partsV (mkS post) c := by
    unfold partsV; rw [he, goL_cut h0 h1 _ _ _ hp]; simp [mkS]
  have hst : D ++ mkS pre :: partsV (mkS post) c = partsV s c := by rw [← h.1, e3]
  have h2 := h.2
  refine ⟨⟨by rw [e1, e2, ← hst]; simp, ?_⟩, ?_, ?_, by omega, by omega⟩
  · rw [e2]; show _ + post.length ≤ _; simp; omega
  · have hlt : D.length < (numbered (partsV s c)).length := by rw [numbered_length, ← hst]; simp
    rw [List.take_succ_eq_append_getElem hlt, numbered_at, e1]
    have : ∀ (q : List ByteArray) (hq : D.length < q.length), q = D ++ mkS pre :: partsV (mkS post) c → q[D.length] = mkS pre := fun q hq e => by subst e; simp
    rw [this _ _ hst.symm]
  · rw [numbered_length, ← hst]; simp
theorem left_end {s : ByteArray} {c : Int} {D : List ByteArray} {r : ByteArray} (h0 : 0 ≤ c) (h1 : c ≤ 255) (h : Left s c D r) (hp : c.toNat.toUInt8 ∉ r.data.toList) :
    (numbered (partsV s c)).take D.length ++ [((D.length : Int), r)] = numbered (partsV s c) ∧ (numbered (partsV s c)).length = D.length + 1 := by
  have e3 : partsV r c = [r] := by
    unfold partsV; rw [goL_free h0 h1 _ _ hp]; simp [mkS]
  have hst : D ++ [r] = partsV s c := by rw [← h.1, e3]
  have hl : (numbered (partsV s c)).length = D.length + 1 := by rw [numbered_length, ← hst]; simp
  refine ⟨?_, hl⟩
  have hlt : D.length < (numbered (partsV s c)).length := by omega
  have h5 := List.take_succ_eq_append_getElem hlt
  rw [numbered_at] at h5
  have : ∀ (q : List ByteArray) (hq : D.length < q.length), q = D ++ [r] → q[D.length] = r := fun q hq e => by subst e; simp
  rw [this _ _ hst.symm] at h5
  rw [← h5, List.take_of_length_le (by omega)]

set_option maxHeartbeats 1000000 in
theorem index2_any (s : ByteArray) (c : Int) (w : World) :
    Calls Tryd.prog 56 #[.string s, .int .u8 c] w fun e w' => e = .returned (.int .i64 (Go.Lib.indexByte s.data.toList c.toNat.toUInt8)) ∧ w' = w := by
  go_enter Tryd.func56, Tryd.ntmps56
  go_wp2
  rw [run_callFunc_extern Tryd.func64 (by kernel_rfl) (by kernel_rfl) (by kernel_rfl) (e := Extern.BytealgIndexByte.indexByte) (by kernel_rfl), Go.Lib.run_indexByteString]
  simp only [Result.andThen]
  rw [Oper.upon_value]
  go_wp2
  go_ret
  exact ⟨rfl, rfl⟩
set_option maxHeartbeats 1000000 in
theorem index_any (s : ByteArray) (c : Int) (w : World) :
    Calls Tryd.prog 49 #[.string s, .int .u8 c] w fun e w' => e = .returned (.int .i64 (Go.Lib.indexByte s.data.toList c.toNat.toUInt8)) ∧ w' = w := by
  go_enter Tryd.func49, Tryd.ntmps49
  go_wp2_with fail
  refine (index2_any s c w).mono ?_
  rintro e w1 ⟨rfl, hw⟩
  subst w1
  go_wp2
  go_ret
  exact ⟨rfl, rfl⟩

def strSize : Value → Nat
  | .string b => b.size
  | _ => 0

set_option maxRecDepth 100000 in
set_option maxHeartbeats 2000000 in
theorem runs1_stops (s : ByteArray) (c : Int) (hs : s.size ≤ 1000000) (hc0 : 0 ≤ c) (hc1 : c ≤ 255) (B n₀ : Nat) (w : World) (hB : n₀ ≤ B) (hw : B + 1 < w.heap.size)
    (c1 : w.cell? ⟨B, 0, none⟩ = some (.string s)) (c2 : w.cell? ⟨B + 1, 0, none⟩ = some (.int .u8 c)) (m : Nat) :
    SeqStopsK Fence.wide m Tryd.prog 48 #[.pointer (some ⟨B, 0, none⟩), .pointer (some ⟨B + 1, 0, none⟩)] encP (KeepsIv n₀ w.heap.size) (fun ys => ys = numbered (partsV s c)) (fun pre => pre <+: numbered (partsV s c)) (numbered (partsV s c)).length w := by
  intro l J Jx W hW hJ hJx hY h0
  have d1 := (hW.cell (p := ⟨B, 0, none⟩) (by show B < _; omega)).trans c1
  have d2 := (hW.cell (p := ⟨B + 1, 0, none⟩) hw).trans c2
  have HY : Hid _ := hY
  clear hY
  have HHit : Hid (∀ (D : List ByteArray) (r : ByteArray) (pre post : List UInt8), Left s c D r → r.data.toList = pre ++ c.toNat.toUInt8 :: post → c.toNat.toUInt8 ∉ pre → _) := fun D r pre post h => left_hit hc0 hc1 h
  have HEnd : Hid (∀ (D : List ByteArray) (r : ByteArray), Left s c D r → c.toNat.toUInt8 ∉ r.data.toList → _) := fun D r h => left_end hc0 hc1 h
  have HSt : Hid (Left s c [] s) := ⟨rfl, by simp⟩
  refine callsIn_of_wp Tryd.func48 rfl trivial ?_ rfl
  simp only [Tryd.ntmps48, List.size_toArray, List.length_cons, List.length_nil, Nat.reduceAdd, Nat.reduceSub, Array.replicate_succ, Array.replicate_zero, List.push_toArray, List.append_toArray, List.nil_append, List.cons_append]
  generalize numbered (partsV s c) = X at HY HHit HEnd ⊢
  gi_wp2
  gi_region
  gi_wp2
  refine ⟨trivial, fun h => (by simp [Fence.wide] at h), (callsIn_wide.2 (index_any s c _)).mono ?_⟩
  rintro e w1 ⟨rfl, hw1⟩
  have h0' : J [] w1 := by rw [hw1]; exact hJ [] W _ none h0 ⟨rfl, rfl, rfl, Nat.le_refl _, fun _ _ _ => rfl⟩ (fun r e => by cases e)
  have d2' : w1.cell? ⟨B + 1, 0, none⟩ = some (.int .u8 c) := by rw [hw1]; exact d2
  clear hw1 h0 d1 d2
  gi_wp2
  gi_loopw [4, 5, 6] (fun no rest en wr => ∃ (D : List ByteArray) (r : ByteArray), no = .int .i64 (D.length : Int) ∧ rest = .string r ∧ en = .int .i64 (Go.Lib.indexByte r.data.toList c.toNat.toUInt8) ∧ Left s c D r ∧ J (X.take D.length) wr ∧ wr.cell? ⟨B + 1, 0, none⟩ = some (.int .u8 c)) (fun _ rest _ _ => strSize rest)
  case atStart => exact ⟨[], s, rfl, rfl, rfl, HSt.out, by simpa using h0', d2'⟩
  case round =>
    obtain ⟨D, r, rfl, rfl, rfl, hL, hj, e2⟩ := hrel
    have HL : Hid _ := hL
    clear hL
    rcases index_split r.data.toList c.toNat.toUInt8 with ⟨hi, hno⟩ | ⟨pre, post, hsp, hno, hi⟩
    · obtain ⟨hX, hXl⟩ := HEnd.out D r HL.out hno
      have HX : Hid _ := hX
      obtain ⟨fn, tmps, assign, body, hy, hR⟩ := HY.out (X.take D.length) ((D.length : Int), r) wr hj (by rw [List.length_take]; omega)
      unfold encP at hy
      dsimp only at hy
      clear hX
      rw [hi]
      gi_wp2
      refine ⟨fun h => (by simp [Fence.wide] at h), hR.mono ?_⟩
      rintro e W3 (⟨rfl, hJ3, hk3⟩ | ⟨rfl, hJx3⟩)
      · gi_wp2
        go_end0
        rw [HX.out] at hJ3
        exact ⟨⟨_, rfl⟩, .inl (by first | exact hJ3 | exact ⟨X, rfl, hJ3⟩)⟩
      · gi_wp2
        go_end0
        rw [HX.out] at hJx3
        exact ⟨⟨_, rfl⟩, .inr ⟨X, List.prefix_refl _, hJx3⟩⟩
    · obtain ⟨hL2, hX, hXl, hpl, hDl⟩ := HHit.out D r pre post HL.out hsp hno
      have HX : Hid _ := hX
      have HL2 : Hid _ := hL2
      obtain ⟨fn, tmps, assign, body, hy, hR⟩ := HY.out (X.take D.length) ((D.length : Int), r.extract 0 pre.length) wr hj (by rw [List.length_take]; omega)
      unfold encP at hy
      dsimp only at hy
      clear hX hL2
      rw [hi]
      have hpi : (pre.length : Int) ≤ (r.size : Int) := by omega
      have hpi2 : (pre.length : Int) + 1 ≤ (r.size : Int) := by omega
      have hrs : (r.size : Int) ≤ 1000000 := by have := HL.out.2; omega
      gi_wp2
      refine ⟨fun h => (by simp [Fence.wide] at h), hR.mono ?_⟩
      rintro e W3 (⟨rfl, hJ3, hk3⟩ | ⟨rfl, hJx3⟩)
      · have f2 : W3.cell? ⟨B + 1, 0, none⟩ = some (.int .u8 c) := (hk3.cell (B + 1) 0 (by omega) (by omega)).trans e2
        gi_wp2
        gi_region
        gi_wp2
        refine ⟨trivial, fun h => (by simp [Fence.wide] at h), (callsIn_wide.2 (index_any (r.extract (pre.length + 1) r.size) c _)).mono ?_⟩
        rintro e w1 ⟨rfl, hw1⟩
        have h0' : J (X.take D.length ++ [((D.length : Int), r.extract 0 pre.length)]) w1 := by rw [hw1]; exact hJ _ W3 _ none hJ3 ⟨rfl, rfl, rfl, Nat.le_refl _, fun _ _ _ => rfl⟩ (fun r e => by cases e)
        have d2' : w1.cell? ⟨B + 1, 0, none⟩ = some (.int .u8 c) := by rw [hw1]; exact f2
        clear hw1
        obtain ⟨q, hq⟩ : ∃ q, Go.Lib.indexByte (r.extract (pre.length + 1) r.size).data.toList c.toNat.toUInt8 = q := ⟨_, rfl⟩
        rw [hq]
        have HQ : Hid _ := hq
        clear hq
        gi_wp2
        go_roundw
        case rel => exact ⟨D ++ [r.extract 0 pre.length], r.extract (pre.length + 1) r.size, by simp, rfl, by rw [HQ.out], HL2.out, by rw [List.length_append]; simp only [List.length_cons, List.length_nil]; rw [HX.out]; exact h0', d2'⟩
        case measure => simp [strSize]; omega
      · gi_wp2
        refine bodyPost_ret (results_none rfl _ _ _) rfl ?_
        exact ⟨⟨_, rfl⟩, .inr ⟨_, by rw [← HX.out]; exact List.take_prefix _ _, hJx3⟩⟩

set_option maxHeartbeats 1000000 in
theorem runs_any (s : ByteArray) (c : Int) (w : World) (hs : s.size ≤ 1000000) (hc0 : 0 ≤ c) (hc1 : c ≤ 255) :
    Calls Tryd.prog 27 #[.string s, .int .u8 c] w fun e w' => ∃ v', e = .returned v' ∧ IsSeqK Tryd.prog encP w.heap.size w' v' (numbered (partsV s c)) ∧ Below w.heap.size w w' := by
  go_enter Tryd.func27, Tryd.ntmps27
  go_wp2
  go_ret
  refine ⟨_, rfl, ⟨48, _, rfl, enters_of Tryd.func48 (by kernel_rfl) rfl, fun m _ => runs1_stops s c hs hc0 hc1 w.heap.size w.heap.size _ (Nat.le_refl _) (by simp) (by simp) (by simp) m⟩, ((Below.refl _ _).alloc (Nat.le_refl _) _).alloc (by simp) _⟩

end Go.Proofs.YtkninlahlgipoaaDoor

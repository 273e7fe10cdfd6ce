/-
  The contracts of package turn's span and place, as landed.
-/
import Derived.Test.YtcpajkhefhnmeaaTurnRow
import Derived.Test.YtcpajkhefhnmeaaTurnPlain
namespace Go.Proofs.Ytcpajkhefhnmeaa
open Go.RowKit Go.Shelf

attribute [local go_sem] Oper.semAt_some

/-- The numbers from f to t - 1. -/
def spanV (f t : Int) : List Int := (List.range (t - f).toNat).map fun i : Nat => f + (i : Int)
theorem spanV_length (f t : Int) : (spanV f t).length = (t - f).toNat := by unfold spanV; simp
theorem spanV_take (f t : Int) (k : Nat) (hk : k < (spanV f t).length) : (spanV f t).take (k + 1) = (spanV f t).take k ++ [f + (k : Int)] := by
  have e := List.getElem?_eq_getElem hk
  have e2 : (spanV f t)[k]? = some (f + (k : Int)) := by
    unfold spanV
    rw [List.getElem?_map, List.getElem?_range (by rw [spanV_length] at hk; exact hk)]
    rfl
  rw [e] at e2
  rw [List.take_succ_eq_append_getElem hk, Option.some.inj e2]
theorem turnV_split (n f : Int) (hn : 1 ≤ n) : turnV n f = spanV (drawV f n) n ++ spanV 0 (drawV f n) := by
  have hd : 0 ≤ drawV f n ∧ drawV f n < n := by
    unfold drawV; rw [if_neg (by omega)]
    exact ⟨Int.emod_nonneg _ (by omega), Int.emod_lt_of_pos _ (by omega)⟩
  apply List.ext_getElem?
  intro j
  unfold turnV
  generalize drawV f n = d at hd
  rw [List.getElem?_map, List.getElem?_append, spanV_length]
  split
  · rename_i h
    unfold spanV
    rw [List.getElem?_map, List.getElem?_range h, List.getElem?_range (by omega)]
    simp only [Option.map_some]
    rw [Int.emod_eq_of_lt (by omega) (by omega)]
  · rename_i h
    unfold spanV
    rw [List.getElem?_map]
    rcases Nat.lt_or_ge j n.toNat with hj | hj
    · rw [List.getElem?_range hj, List.getElem?_range (by omega)]
      simp only [Option.map_some]
      rw [show d + (j : Int) = (d + (j : Int) - n) + n by omega, Int.add_emod_right, Int.emod_eq_of_lt (by omega) (by omega)]
      congr 1; omega
    · rw [List.getElem?_eq_none (by simp; omega), List.getElem?_eq_none (by simp; omega)]
      rfl

set_option maxRecDepth 100000 in
set_option maxHeartbeats 2000000 in
theorem span1_stops (f t : Int) (hf0 : -9223372036854775808 ≤ f) (ht : t ≤ 9223372036854775807) (B n₀ : Nat) (w : World) (hB : n₀ ≤ B) (hw : B + 1 < w.heap.size)
    (c1 : w.cell? ⟨B, 0, none⟩ = some (.int .i64 f)) (c2 : w.cell? ⟨B + 1, 0, none⟩ = some (.int .i64 t)) (m : Nat) :
    SeqStopsK Fence.wide m Try.prog 19 #[.pointer (some ⟨B, 0, none⟩), .pointer (some ⟨B + 1, 0, none⟩)] encI (KeepsIv n₀ w.heap.size) (fun ys => ys = spanV f t) (fun pre => pre <+: spanV f t) (spanV f t).length w := by
  intro l J Jx W hW hJ hJx hY h0
  have d1 := (hW.cell (p := ⟨B, 0, none⟩) (by show B < _; omega)).trans c1
  have d2 := (hW.cell (p := ⟨B + 1, 0, none⟩) hw).trans c2
  have HY : Hid _ := hY
  clear hY
  refine callsIn_of_wp Try.func19 rfl trivial ?_ rfl
  simp only [Try.ntmps19, List.size_toArray, List.length_cons, List.length_nil, Nat.reduceAdd, Nat.reduceSub, Array.replicate_succ, Array.replicate_zero, List.push_toArray, List.append_toArray, List.nil_append, List.cons_append]
  have HTk : Hid _ := spanV_take f t
  have HLen : Hid ((spanV f t).length = (t - f).toNat) := spanV_length f t
  generalize spanV f t = X at HY HTk HLen ⊢
  gi_wp2
  gi_loopw [4] (fun i wr => ∃ k : Nat, k ≤ X.length ∧ i = .int .i64 (f + (k : Int)) ∧ J (X.take k) wr ∧ wr.cell? ⟨B + 1, 0, none⟩ = some (.int .i64 t)) (fun i _ => (t - intOf i).toNat)
  case atStart => exact ⟨0, by omega, by simp, by simpa using h0, d2⟩
  case round =>
    obtain ⟨k, hk, rfl, hj, e1⟩ := hrel
    have hl := HLen.out
    by_cases hlt : f + (k : Int) < t
    · have hkl : k < X.length := by omega
      have HTk2 : Hid _ := HTk.out k hkl
      obtain ⟨fn, tmps, assign, body, hy, hR⟩ := HY.out (X.take k) (f + (k : Int)) wr hj (by rw [List.length_take]; omega)
      unfold encI at hy
      clear hl
      have hx0 : -9223372036854775808 ≤ f + (k : Int) := by omega
      have hnext : f + ((k + 1 : Nat) : Int) = f + (k : Int) + 1 := by omega
      have HNx : Hid _ := hnext
      clear hnext
      generalize f + (k : Int) = x at hy HTk2 hR hlt HNx hx0 ⊢
      gi_wp2
      refine ⟨fun h => (by simp [Fence.wide] at h), hR.mono ?_⟩
      rintro e W3 (⟨rfl, hJ3, hk3⟩ | ⟨rfl, hJx3⟩)
      · have e3 : W3.cell? ⟨B + 1, 0, none⟩ = some (.int .i64 t) := (hk3.cell (B + 1) 0 (by omega) (by omega)).trans e1
        gi_wp2
        go_roundw
        case rel => exact ⟨k + 1, by omega, by rw [HNx.out], by rw [HTk2.out]; exact hJ3, e3⟩
        case measure => simp [intOf]; omega
      · gi_wp2
        refine bodyPost_ret (results_none rfl _ _ _) rfl ?_
        exact ⟨⟨_, rfl⟩, .inr ⟨X.take k ++ [x], by rw [← HTk2.out]; exact List.take_prefix _ _, hJx3⟩⟩
    · gi_wp2
      go_end0
      have hj2 := hj
      rw [List.take_of_length_le (show X.length ≤ k by omega)] at hj2
      exact ⟨⟨_, rfl⟩, .inl (by first | exact hj2 | exact ⟨X, rfl, hj2⟩)⟩

set_option maxHeartbeats 1000000 in
theorem span_any (f t : Int) (w : World) (hf0 : -9223372036854775808 ≤ f) (ht : t ≤ 9223372036854775807) :
    Calls Try.prog 16 #[.int .i64 f, .int .i64 t] w fun e w' => ∃ v', e = .returned v' ∧ IsSeqK Try.prog encI w.heap.size w' v' (spanV f t) ∧ Below w.heap.size w w' := by
  go_enter Try.func16, Try.ntmps16
  go_wp2
  go_ret
  refine ⟨_, rfl, ⟨19, _, rfl, enters_of Try.func19 (by kernel_rfl) rfl, fun m _ => span1_stops f t hf0 ht w.heap.size w.heap.size _ (Nat.le_refl _) (by simp) (by simp) (by simp) m⟩, ((Below.refl _ _).alloc (Nat.le_refl _) _).alloc (by simp) _⟩

set_option maxHeartbeats 1000000 in
theorem place_any (n d : Int) (w : World) (hn1 : 1 ≤ n) (hn : n ≤ 9223372036854775807) :
    Calls Try.prog 15 #[.int .i64 n, .int .i64 d] w fun e w' => e = .returned (.int .i64 (drawV d n)) ∧ w' = w := by
  have b := tmod_bd d n hn1
  by_cases ht : d.tmod n < 0
  · have H : Hid (d.tmod n + n = drawV d n) := draw_neg d n hn1 ht
    go_enter Try.func15, Try.ntmps15
    go_wp2
    go_ret
    rw [H.out]; exact ⟨rfl, rfl⟩
  · have H : Hid (d.tmod n = drawV d n) := draw_pos d n hn1 (by omega)
    go_enter Try.func15, Try.ntmps15
    go_wp2
    go_ret
    rw [H.out]; exact ⟨rfl, rfl⟩

end Go.Proofs.Ytcpajkhefhnmeaa

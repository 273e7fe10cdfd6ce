/-
  The contract of the statements' own Draw (package triageref1), which chapter 4 asks.
-/
import Derived.Test.YtcpajkhefhnmeaaTurnRow
import Derived.Test.YtcpajkhefhnmeaaRefParts
namespace Go.Proofs.Ytcpajkhefhnmeaa
open Go.RowKit

set_option maxHeartbeats 1000000 in
theorem rDraw_any (d n : Int) (w : World) (h3 : n ≤ 9223372036854775807) :
    Calls Try.prog 10 #[.int .i64 d, .int .i64 n] w fun e w' => e = .returned (.int .i64 (drawV d n)) ∧ w' = w := by
  by_cases hn : n < 1
  · have H : Hid (0 = drawV d n) := by show _ = _; unfold drawV; rw [if_pos hn]
    go_enter Try.func10, Try.ntmps10
    go_wp2
    go_ret
    exact ⟨ret_int H.out, rfl⟩
  · have hn' : 1 ≤ n := by omega
    have b := tmod_bd d n hn'
    clear hn
    by_cases ht : d.tmod n < 0
    · have H : Hid (d.tmod n + n = drawV d n) := draw_neg d n hn' ht
      go_enter Try.func10, Try.ntmps10
      go_wp2
      go_ret
      exact ⟨ret_int H.out, rfl⟩
    · have H : Hid (d.tmod n = drawV d n) := draw_pos d n hn' (by omega)
      go_enter Try.func10, Try.ntmps10
      go_wp2
      go_ret
      exact ⟨ret_int H.out, rfl⟩

end Go.Proofs.Ytcpajkhefhnmeaa

/-
  What the bulk of what was read says of hosts and rows of pairs.
-/
import Derived.Test.YtgjancpogblakaaHostFrame
import Derived.JoinedCond
namespace Go.Proofs.Ytgjancpogblakaa
open Go.RowKit

theorem bulkP {H : Type} (ps : List PairT) : ps.length ≤ Rows.uptoBulkAll (ps.map (pairD (H := H))) := by
  induction ps with
  | nil => simp
  | cons p r ih => simp only [List.map_cons, Rows.uptoBulkAll, List.length_cons, pairD, Rows.uptoBulk]; omega
theorem bulk_pairs {H : Type} {d : DataW H} {ps : List PairT} (h : PairsD d ps) : ps.length ≤ Rows.uptoBulk d := by
  rcases h with ⟨_, rfl⟩ | ⟨sp, rfl⟩
  · simp
  · have := bulkP (H := H) ps
    simp only [Rows.uptoBulk]
    omega
theorem bulk_host {H : Type} {dm : DataW H} {c : HostT} (h : PairsD dm c.tags) : c.addr.size + c.zone.size + c.tags.length ≤ Rows.uptoBulk (hostD c dm) := by
  have h1 := bulk_pairs h
  have h2 : c.addr.data.toList.length = c.addr.size := rfl
  have h3 : c.zone.data.toList.length = c.zone.size := rfl
  simp only [hostD, Rows.uptoBulk, Rows.uptoBulkAll]
  omega
theorem short_HostParts {H : Type} {dm d1 d2 : DataW H} {c : HostT} {l m : List PairT} (x0 : PairsD dm c.tags) (x1 : PairsD d1 l) (x2 : PairsD d2 m) (hk : Rows.uptoBulkAll [hostD c dm, d1, d2] ≤ 1048576) : l.length + m.length ≤ 1048576 := by
  have h0 := bulk_host x0
  have h1 := bulk_pairs x1
  have h2 := bulk_pairs x2
  simp only [Rows.uptoBulkAll] at hk
  omega
theorem short_HostTurned {H : Type} {dm : DataW H} {c : HostT} {x : Int} (x0 : PairsD dm c.tags) (hk : Rows.uptoBulkAll [hostD c dm, .lit (.int .i64 x)] ≤ 1048576) : c.addr.size + c.zone.size + c.tags.length ≤ 1048576 := by
  have h0 := bulk_host x0
  simp only [Rows.uptoBulkAll] at hk
  omega

end Go.Proofs.Ytgjancpogblakaa

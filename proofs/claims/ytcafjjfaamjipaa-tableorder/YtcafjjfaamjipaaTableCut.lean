/-
  Contracts of package table: Cut.
-/
import Derived.Test.YtcafjjfaamjipaaTableMath
import Derived.Test.YtcafjjfaamjipaaTableEdit
import Derived.Test.YtcafjjfaamjipaaTableFind
namespace Go.Proofs.Ytcafjjfaamjipaa
open Go.RowKit

/-- What Cut tells. -/
def cutR (hs : List HostT) (id : Int) : List HostT × Int := if mayTab hs then (if findH hs id < 0 then (lessH hs id, 4) else (lessH hs id, 0)) else (lessH hs id, 1)

set_option maxRecDepth 100000 in
set_option maxHeartbeats 4000000 in
theorem tcut_any (hs : List HostT) (id : Int) (v : Value) (us : List Value) (w : World) (hv : IsHosts w v us hs) :
    Calls Try.prog 13 #[v, .int .i64 id] w fun e w' => Listed w (cutR hs id) e w' ∧ Below w.heap.size w w' := by
  obtain ⟨ao, cap, rfl⟩ := hv.shaped
  have HV : Hid (IsHosts w (.slice ao hs.length cap) us hs) := hv
  have KM := fun W q => tmay_any hs (.slice ao hs.length cap) us W q
  have KF := fun W q => tfind_any hs id (.slice ao hs.length cap) us W q
  clear hv
  obtain ⟨R, hR⟩ : ∃ R, cutR hs id = R := ⟨_, rfl⟩
  rw [hR]
  have HR : Hid (cutR hs id = R) := hR
  clear hR
  go_enter Try.func13, Try.ntmps13
  go_wp2_with fail
  refine (KM _ HV.out).mono ?_
  rintro e w1 ⟨rfl, hb⟩
  have HB1 : Hid (Below w.heap.size w w1) := hb
  clear hb KM
  cases hm : mayTab hs with
  | false =>
    have HF : Hid (R = (lessH hs id, 1)) := by show R = _; rw [← HR.out]; unfold cutR; rw [hm]; rfl
    go_wp2
    go_ret2
    exact ⟨by rw [HF.out]; exact listed_no (by decide), HB1.out⟩
  | true =>
    have h64 : hs.length ≤ 64 := mayTab_le hm
    have HMay : Hid (∀ i, i < hs.length → mayHost (hs.getD i noHost) = true) := mayTab_at hm
    have HMb : Hid (mayTab hs = true) := hm
    have HRi : Hid (RisesH hs) := mayTab_rises hm
    clear hm
    go_wp2_with fail
    refine (KF _ (HV.out.below HB1.out)).mono ?_
    rintro e w2 ⟨rfl, hb⟩
    have HB2 : Hid (Below w.heap.size w w2) := HB1.out.trans (hb.mono HB1.out.size)
    clear hb KF HB1
    rcases findH_at hs id with h1 | ⟨j, hj, h1⟩
    · have HF : Hid (R = (lessH hs id, 4)) := by show R = _; rw [← HR.out]; unfold cutR; rw [HMb.out, if_pos rfl, if_pos (by omega)]
      rw [h1]
      clear h1
      go_wp2
      go_ret2
      exact ⟨by rw [HF.out]; exact listed_no (by decide), HB2.out⟩
    · have HF : Hid (R = (hs.take j ++ hs.drop (j + 1), 0)) := by show R = _; rw [← HR.out]; unfold cutR; rw [HMb.out, if_pos rfl, if_neg (by omega), lessH_at HRi.out hj (findH_id h1).2]
      have KC := copied_any hs (.slice ao hs.length cap) us w2 (HV.out.below HB2.out) (fun i hi => mayHost_tags (HMay.out i hi)) h64
      rw [h1]
      clear h1
      go_wp2_with fail
      refine KC.mono ?_
      rintro e w3 ⟨vs, rfl, ho, hb⟩
      have HB3 : Hid (Below w.heap.size w w3) := HB2.out.trans (hb.mono HB2.out.size)
      have KD := delete_any hs vs j w2.heap.size w.heap.size w3 (ho.from HB2.out.size) hj h64 HB3.out.size
      have hcast : ((j + 1 : Nat) : Int) = (j : Int) + 1 := by omega
      rw [hcast] at KD
      clear ho hb hcast KC
      go_wp2_with fail
      refine KD.mono ?_
      rintro e w4 ⟨v', vs', rfl, ho, hb⟩
      have HO : Hid (OwnHosts w4 w.heap.size 25 48 v' vs' (hs.take j ++ hs.drop (j + 1))) := ho
      have HB4 : Hid (Below w.heap.size w w4) := HB3.out.trans hb
      clear ho hb KD
      go_wp2
      go_ret2
      exact ⟨by rw [HF.out]; exact listed_yes HO.out, HB4.out⟩

end Go.Proofs.Ytcafjjfaamjipaa

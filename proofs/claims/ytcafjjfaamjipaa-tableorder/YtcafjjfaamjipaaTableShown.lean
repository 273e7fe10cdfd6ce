/-
  What Add and Cut tell, as rows of hosts, of the program and of the statement's own.
-/
import Derived.Test.YtcafjjfaamjipaaTableAdd
import Derived.Test.YtcafjjfaamjipaaTableCut
namespace Go.Proofs.Ytcafjjfaamjipaa
open Go.RowKit

def shown (p : List HostT × Int) : List HostT := if p.2 = 0 then p.1 else []
/-- Hosts whose words are no longer than a word may be. -/
def okAll (x : HostT) : Prop := okHost x ∧ ∀ p ∈ x.tags, okPair p
theorem okAll_of {w : World} {v : Value} {vs : List Value} {hs : List HostT} (h : IsHosts w v vs hs) : ∀ x ∈ hs, okAll x := fun x hx => by
  obtain ⟨i, hi, rfl⟩ := List.mem_iff_getElem.1 hx
  have e : hs.getD i noHost = hs[i] := by simp [hi]
  rw [← e]
  exact ⟨h.ok i hi, (h.tags i hi).1⟩
theorem listed_hosts {w w' : World} {p : List HostT × Int} {e : Ending} (h : Listed w p e w') (hok : p.2 = 0 → ∀ x ∈ p.1, okAll x) :
    ∃ v' vs', e = .returned (.tuple #[v', .int .i64 p.2]) ∧ IsHosts w' v' vs' (shown p) := by
  rcases h with ⟨h0, rfl⟩ | ⟨h0, v', vs', rfl, ho⟩
  · refine ⟨_, [], rfl, ?_⟩
    unfold shown
    rw [if_neg h0]
    exact isHosts_nil _
  · refine ⟨v', vs', by rw [h0], ?_⟩
    unfold shown
    rw [if_pos h0]
    refine ho.isHosts (fun i hi => ?_) (fun i hi => ?_)
    all_goals
      have e : p.1.getD i noHost = p.1[i] := by simp [hi]
      rw [e]
    · exact (hok h0 _ (List.getElem_mem hi)).1
    · exact (hok h0 _ (List.getElem_mem hi)).2
theorem moreH_mem {hs : List HostT} {h x : HostT} (hx : x ∈ moreH hs h) : x = h ∨ x ∈ hs := by
  induction hs with
  | nil => simp [moreH] at hx; exact .inl hx
  | cons y r ih =>
    simp only [moreH] at hx
    split at hx
    · rcases List.mem_cons.1 hx with e | e
      · exact .inl e
      · exact .inr e
    · rcases List.mem_cons.1 hx with e | e
      · exact .inr (e ▸ List.mem_cons_self ..)
      · rcases ih e with e | e
        · exact .inl e
        · exact .inr (List.mem_cons_of_mem _ e)
theorem addR_ok {hs : List HostT} {h : HostT} (h1 : ∀ x ∈ hs, okAll x) (h2 : okAll h) : (addR hs h).2 = 0 → ∀ x ∈ (addR hs h).1, okAll x := by
  unfold addR
  split
  · split
    · intro e; simp at e
    · split
      · intro e; simp at e
      · intro _ x hx
        rcases moreH_mem hx with e | e
        · rw [e]; exact h2
        · exact h1 x e
  · intro e; simp at e
theorem cutR_ok {hs : List HostT} {id : Int} (h1 : ∀ x ∈ hs, okAll x) : (cutR hs id).2 = 0 → ∀ x ∈ (cutR hs id).1, okAll x := by
  have hl : ∀ x ∈ lessH hs id, okAll x := fun x hx => h1 x (List.mem_filter.1 hx).1
  unfold cutR
  intro _ x hx
  split at hx
  · split at hx <;> exact hl x hx
  · exact hl x hx

theorem tadd_hosts (hs : List HostT) (h : HostT) (mv v : Value) (vs : List Value) (w : World) (hv : IsHosts w v vs hs) (oh : okHost h) (hm : IsPairs w mv h.tags) :
    Calls Try.prog 11 #[v, hval h mv] w fun e w' => ∃ v' vs', e = .returned (.tuple #[v', .int .i64 (addR hs h).2]) ∧ IsHosts w' v' vs' (shown (addR hs h)) ∧ Below w.heap.size w w' :=
  (tadd_any hs h mv v vs w hv oh hm).mono fun _ _ ⟨h1, h2⟩ => by
    obtain ⟨v', vs', h3, h4⟩ := listed_hosts h1 (addR_ok (okAll_of hv) ⟨oh, hm.1⟩)
    exact ⟨v', vs', h3, h4, h2⟩
theorem tcut_hosts (hs : List HostT) (id : Int) (v : Value) (vs : List Value) (w : World) (hv : IsHosts w v vs hs) :
    Calls Try.prog 13 #[v, .int .i64 id] w fun e w' => ∃ v' vs', e = .returned (.tuple #[v', .int .i64 (cutR hs id).2]) ∧ IsHosts w' v' vs' (shown (cutR hs id)) ∧ Below w.heap.size w w' :=
  (tcut_any hs id v vs w hv).mono fun _ _ ⟨h1, h2⟩ => by
    obtain ⟨v', vs', h3, h4⟩ := listed_hosts h1 (cutR_ok (okAll_of hv))
    exact ⟨v', vs', h3, h4, h2⟩

end Go.Proofs.Ytcafjjfaamjipaa

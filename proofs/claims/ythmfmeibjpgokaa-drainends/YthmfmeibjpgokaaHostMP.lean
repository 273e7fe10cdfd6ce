/-
  Words for regions that draw their order and hold hosts and rows of pairs.
-/
import Derived.Test.YthmfmeibjpgokaaHost3
import Derived.Test.YthmfmeibjpgokaaRel6
namespace Go.Proofs.Ythmfmeibjpgokaa
open Go.RowKit

theorem run_obox {P : Program} {w : World} (ρ : Operand → Value) (o : Oper) (ty : TypeId) (x : Operand) (ho : o.op = .load ty x) (g : Nat) (hx : ρ x = .pointer (some ⟨g, 0, none⟩)) (t : TypeId) (cs : Array Value) (d : TypeDesc) (hg : HasBox w g t cs)
    (hu : P.underlying ty = some d) (hd : (match d with | .struct _ | .array _ _ => true | _ => false) = true) (hi : (P.info? ty).map (·.size) = some cs.size) : (execOp ρ o).run P w = .ok (.value (.agg cs)) w := by
  unfold execOp
  simp only [ho, hx, Instr.loadAt, Instr.sureAddr, Sem.run_bind, Sem.run_pure, Result.andThen_ok, run_loadVar_row w g t ty cs _ d hg hu hd hi]

theorem wpList_load_box {P : Program} {ops : Array Oper} {rest : List Oper} {o : Oper} {a : Act} {w : World} {Q : Exit → Act → World → Prop} (hw : Region.wanted o (yielded ops a.tmps) = true) (ty : TypeId) (x : Operand) (ho : o.op = .load ty x)
    (g : Nat) (hx : a.eval x = .pointer (some ⟨g, 0, none⟩)) (t : TypeId) (cs : Array Value) (d : TypeDesc) (hg : HasBox w g t cs)
    (hu : P.underlying ty = some d) (hd : (match d with | .struct _ | .array _ _ => true | _ => false) = true) (hi : (P.info? ty).map (·.size) = some cs.size)
    (h : wpList P ops Q rest (a.put o.dst (.agg cs)) w) : wpList P ops Q (o :: rest) a w :=
  BigFrame.wpList_want hw fun _ hK => wp_load_row ty x ho g hx t cs _ d hg hu hd hi (hK _ _ h)

def pairsP (ps : List PairT) : MP := ⟨fun v w => IsPairs w v ps, fun h hb => h.below hb⟩
def hostP (h : HostT) : MP := ⟨fun v w => ∃ mv, v = hval h mv ∧ IsPairs w mv h.tags, fun ⟨mv, h1, h2⟩ hb => ⟨mv, h1, h2.below hb⟩⟩
def intP : MP := ⟨fun v _ => ∃ n : Int, v = .int .i64 n, fun h _ => h⟩
def boolP : MP := ⟨fun v _ => ∃ b : Bool, v = .bool b, fun h _ => h⟩

end Go.Proofs.Ythmfmeibjpgokaa

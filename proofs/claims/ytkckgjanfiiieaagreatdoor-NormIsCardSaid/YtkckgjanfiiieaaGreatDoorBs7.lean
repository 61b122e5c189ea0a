/-
  Small things of the parser's walks: a token's cells and value, an append that is run, a row of filters joined.
-/
import Derived.Test.YtkckgjanfiiieaaGreatDoorLxA
import Derived.Test.YtkckgjanfiiieaaGreatDoorQryA6
import Derived.Test.YtkckgjanfiiieaaGreatDoorPxA
import Derived.Test.YtkckgjanfiiieaaGreatDoorMkA
import Derived.StillTailTactics
import Derived.BigRegion
import Derived.Deep.QuietTactic
import Derived.BigQuiet
namespace Go.Proofs.YtkckgjanfiiieaaGreatDoor
open Go.RowKit Go
open PX (tk isT)

theorem wpList_append_run {P : Program} {ops : Array Oper} {rest : List Oper} {o : Oper} {a : Act} {w w' : World} {Q : Exit → Act → World → Prop} {sv xv v' : Value} (hgd : o.guard = none) (s x : Operand) (t : TypeId)
    (ho : o.op = .call { callee := .builtin .append, args := #[s, x], argTypes := #[t, t] }) (hs : a.eval s = sv) (hx : a.eval x = xv)
    (hrun : (Builtin.append_ #[t, t] o.type #[sv, xv]).run P w = .ok v' w') (hK : wpList P ops Q rest (a.put o.dst v') w') : wpList P ops Q (o :: rest) a w := by
  refine wpList_plain hgd fun K hK' => ?_
  unfold Oper.wp
  simp [execOp, ho, resolve, invoke, builtin, hs, hx, hrun, Result.andThen]
  exact hK' _ _ hK

end Go.Proofs.YtkckgjanfiiieaaGreatDoor

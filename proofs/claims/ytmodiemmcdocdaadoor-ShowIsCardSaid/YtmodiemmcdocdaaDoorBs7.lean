/-
  Small things of the parser's walks: a token's cells and value, an append that is run, a row of filters joined.
-/
import Derived.Test.YtmodiemmcdocdaaDoorLxA
import Derived.Test.YtmodiemmcdocdaaDoorQryA6
import Derived.Test.YtmodiemmcdocdaaDoorPxA
import Derived.Test.YtmodiemmcdocdaaDoorMkA
import Derived.StillTailTactics
import Derived.BigRegion
import Derived.Deep.QuietTactic
import Derived.BigQuiet
namespace Go.Proofs.YtmodiemmcdocdaaDoor
open Go.RowKit Go
open PX (tk isT)

theorem flatT_get : ∀ (R : List LX.Tok) (i : Nat) (h : i < R.length) (c : Nat), c < 4 → (flatT R)[i * 4 + c]? = (tokC R[i])[c]?
  | [], i, h, _, _ => by simp at h
  | x :: r, 0, _, c, hc => by
    simp only [flatT, Nat.zero_mul, Nat.zero_add, List.getElem_cons_zero]
    rw [List.getElem?_append_left (by simp [tokC]; omega)]
  | x :: r, i + 1, h, c, hc => by
    simp only [flatT, List.getElem_cons_succ]
    rw [List.getElem?_append_right (by simp [tokC]; omega), ← flatT_get r i (by simpa using h) c hc]
    congr 1
    simp [tokC]
    omega

/-- A token's value. -/
def tokW (t : LX.Tok) : Value := .agg #[.int .i64 (t.kind : Nat), .string ⟨t.says.toArray⟩, .int .i64 t.n, .int .i64 (t.place : Nat)]

theorem wpList_append_run {P : Program} {ops : Array Oper} {rest : List Oper} {o : Oper} {a : Act} {w w' : World} {Q : Exit → Act → World → Prop} {sv xv v' : Value} (hgd : o.guard = none) (s x : Operand) (t : TypeId)
    (ho : o.op = .call { callee := .builtin .append, args := #[s, x], argTypes := #[t, t] }) (hs : a.eval s = sv) (hx : a.eval x = xv)
    (hrun : (Builtin.append_ #[t, t] o.type #[sv, xv]).run P w = .ok v' w') (hK : wpList P ops Q rest (a.put o.dst v') w') : wpList P ops Q (o :: rest) a w := by
  refine wpList_plain hgd fun K hK' => ?_
  unfold Oper.wp
  simp [execOp, ho, resolve, invoke, builtin, hs, hx, hrun, Result.andThen]
  exact hK' _ _ hK

theorem join_many (op : Int) : ∀ {l : List Ft}, l.length ≠ 1 → PX.join op l = .mk op ⟨#[]⟩ ⟨#[]⟩ l
  | [], _ => rfl
  | [_], h => absurd rfl h
  | _ :: _ :: _, _ => rfl

end Go.Proofs.YtmodiemmcdocdaaDoor

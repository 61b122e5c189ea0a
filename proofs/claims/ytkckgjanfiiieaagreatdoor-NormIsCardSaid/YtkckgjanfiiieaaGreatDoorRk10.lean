/-
  ARE TWO MATCHERS THE SAME?
-/
import Derived.Test.YtkckgjanfiiieaaGreatDoorQyA
import Derived.Test.YtkckgjanfiiieaaGreatDoorOc10
namespace Go.Proofs.YtkckgjanfiiieaaGreatDoor
open Go.RowKit Go

theorem eql_mt (x m : Mt) (w : World) : (binOp .eql 45 (.agg #[.string x.name, .bool x.not, .string x.value]) (.agg #[.string m.name, .bool m.not, .string m.value])).run Tryz.prog w = .ok (.bool (decide (x = m))) w := by
  obtain ⟨xn, xb, xv⟩ := x
  obtain ⟨mn, mb, mv⟩ := m
  by_cases hn : xn = mn
  · subst hn
    by_cases hb : xb = mb
    · subst hb
      by_cases hv : xv = mv
      · subst hv
        rw [decide_eq_true rfl]
        go_simp
      · have ht : (xv.toList == mv.toList) = false := by rw [beq_eq_false_iff_ne]; exact fun e => hv (toList_inj _ _ e)
        rw [decide_eq_false (fun e => hv (by injection e))]
        go_simp
    · have ht : (xb == mb) = false := by simp [hb]
      rw [decide_eq_false (fun e => hb (by injection e))]
      go_simp
  · have ht : (xn.toList == mn.toList) = false := by rw [beq_eq_false_iff_ne]; exact fun e => hn (toList_inj _ _ e)
    rw [decide_eq_false (fun e => hn (by injection e))]
    go_simp
end Go.Proofs.YtkckgjanfiiieaaGreatDoor

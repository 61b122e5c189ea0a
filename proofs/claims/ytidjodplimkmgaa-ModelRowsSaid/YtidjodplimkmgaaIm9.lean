/-
  A QUERY MADE OF NUMBERS fits; lines that are no longer than they may be.
-/
import Derived.Test.YtidjodplimkmgaaAl9
import Derived.Test.YtidjodplimkmgaaEb
import Derived.Test.YtidjodplimkmgaaMakeW6
import Derived.Test.YtidjodplimkmgaaQryB6
import Derived.Lib.QuietBelow
namespace Go.Proofs.Ytidjodplimkmgaa
open Go.RowKit Go
open Go.Sort (grow)

theorem E4.big_line {e : E4.Ent} (h : e.big = false) : e.line.size ≤ 1000 := by
  unfold E4.Ent.big at h
  simp only [Bool.or_eq_false_iff, decide_eq_false_iff_not] at h
  omega

theorem query_fit (l : List Int) : Fit (Qy.query l).fil := by
  unfold Qy.query
  simp only
  split
  · exact fit_leaf _ _ _ (by decide) fit_nil fit_nil
  · exact make_fit l 3 _

end Go.Proofs.Ytidjodplimkmgaa

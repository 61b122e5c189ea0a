/-
  Line, Label, Labels AND Query ANSWER WHAT THE DOCUMENT SAYS: the law's walk.
-/
import Derived.Test.YtidjodplimkmgaaGreatDoorAl9
import Derived.Test.YtidjodplimkmgaaGreatDoorEb
import Derived.Test.YtidjodplimkmgaaGreatDoorMakeW6
import Derived.Test.YtidjodplimkmgaaGreatDoorQryA6
import Derived.Test.YtidjodplimkmgaaGreatDoorQryB6
import Derived.Test.YtidjodplimkmgaaGreatDoorRq9
import Derived.Lib.QuietBelow
namespace Go.Proofs.YtidjodplimkmgaaGreatDoor
open Go.RowKit Go
open Go.Sort (grow)

theorem E4.big_line {e : E4.Ent} (h : e.big = false) : e.line.size ≤ 1000 := by
  unfold E4.Ent.big at h
  simp only [Bool.or_eq_false_iff, decide_eq_false_iff_not] at h
  omega

theorem query_fit (l : List Int) : Fit (Qy.query l).fil := by
  unfold Qy.query
  simp only
  split
  · exact fit_leaf _ _ _ (by decide) fit_nil fit_nil
  · exact make_fit l 3 _
theorem query_whole (l : List Int) : Whole (Qy.query l).fil := by
  unfold Qy.query
  simp only
  split
  · exact whole_leaf _ _ _ (by decide)
  · exact make_whole l 3 _


end Go.Proofs.YtidjodplimkmgaaGreatDoor

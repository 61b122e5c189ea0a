/-
  magpielaw07.ParseNumbers: the walk.
-/
import Derived.Test.YtkckgjanfiiieaaGreatDoorPrE
import Derived.Test.YtkckgjanfiiieaaGreatDoorPxB
import Derived.Lib.SmallJoins
import Derived.Lib.ItoaMem
namespace Go.Proofs.YtkckgjanfiiieaaGreatDoor
open Go.RowKit Go
open PX (tk isT)

theorem itoa_call (n : Int) (h0 : -9223372036854775808 ≤ n) (h1 : n ≤ 9223372036854775807) (W : World) (hT : Tabs W) :
    Calls Tryz.prog 36 #[.int .i64 n] W fun e w' => e = .returned (.string ⟨(Lib.itoa n).toArray⟩) ∧ Lay W w' := by
  refine (Tryz.strconv_Itoa n h0 h1 W hT.pow).mono ?_
  rintro e w' ⟨he, k, os, rfl⟩
  exact ⟨he, Lay.of_grown _ _⟩

end Go.Proofs.YtkckgjanfiiieaaGreatDoor

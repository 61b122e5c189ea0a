/-
  NUMBERS AND TEXTS AS BYTES, written and read by package num (the texts of stage 4, joined).
-/
import Derived.Test.YtdjddlebjbngfaaGreatDoorNb
import Derived.Orders
import Derived.WalkKit
import Derived.Shelf.Small.Wraps
import Derived.Laws.Cover1
import Derived.Deep.QuietTactic
import Derived.BigQuiet
import Derived.Deep.RegionWith
import Derived.Outline
import Derived.Lib.BitFns
import Derived.Deep.Slices
import Derived.Deep.Strs
import Derived.Lib.SmallJoins
import Derived.ProofKit
namespace Go.Proofs.YtdjddlebjbngfaaGreatDoor.E4
open Go

section
variable {P : Program} {ops : Array Oper} {Q : Exit → Act → World → Prop}

end
end Go.Proofs.YtdjddlebjbngfaaGreatDoor.E4

namespace Go.Proofs.YtdjddlebjbngfaaGreatDoor.E4
open Go.RowKit Go

end Go.Proofs.YtdjddlebjbngfaaGreatDoor.E4

namespace Go.Proofs.YtdjddlebjbngfaaGreatDoor.E4
open Go.RowKit Go

set_option maxHeartbeats 1000000 in
/-- num.Int. -/
theorem int_put {G : Nat → Prop} (x : Int) (h0 : -9223372036854775808 ≤ x) (h1 : x ≤ 9223372036854775807) (sv : Value) (l : List UInt8) (w : World) (hown : By G w sv l) (hlim : l.length ≤ 70368744177664) :
    Calls Tryz.prog 57 #[sv, .int .i64 x] w (PutPost sv (l ++ Lib.uvarint (Lib.zigzag x)) w) := by
  have hU := uint_put (Lib.zigzag x) (Lib.zigzag_lt h0 h1) sv l w hown hlim
  by_cases hneg : x < 0
  · rw [← Lib.zigzag_neg h0 hneg] at hU
    have HU := Lib.hid hU
    clear hU hown
    go_enter Tryz.func57, Tryz.ntmps57
    go_wp2_with (go_at_call 88; refine HU.out.mono ?_; rintro e w1 ⟨v', rfl, ho, hb⟩)
    go_ret
    exact ⟨v', rfl, ho, hb⟩
  · rw [Lib.zigzag_nonneg (by omega)] at hU
    have HU := Lib.hid hU
    clear hU hown
    go_enter Tryz.func57, Tryz.ntmps57
    go_wp2_with (go_at_call 88; refine HU.out.mono ?_; rintro e w1 ⟨v', rfl, ho, hb⟩)
    go_ret
    exact ⟨v', rfl, ho, hb⟩

end Go.Proofs.YtdjddlebjbngfaaGreatDoor.E4

namespace Go.Proofs.YtdjddlebjbngfaaGreatDoor.E4
open Go.RowKit Go

end Go.Proofs.YtdjddlebjbngfaaGreatDoor.E4

namespace Go.Proofs.YtdjddlebjbngfaaGreatDoor.E4
open Go.RowKit Go

end Go.Proofs.YtdjddlebjbngfaaGreatDoor.E4

namespace Go.Proofs.YtdjddlebjbngfaaGreatDoor.E4
open Go.RowKit Go

end Go.Proofs.YtdjddlebjbngfaaGreatDoor.E4

namespace Go.Proofs.YtdjddlebjbngfaaGreatDoor.E4
open Go.RowKit Go

variable {H : Type} {enc : TypeId × Value → H}

end Go.Proofs.YtdjddlebjbngfaaGreatDoor.E4

namespace Go.Proofs.YtdjddlebjbngfaaGreatDoor.E4
open Go.RowKit Go

end Go.Proofs.YtdjddlebjbngfaaGreatDoor.E4

/-
  A callee's contract in a region that draws its order.
-/
import Derived.Test.YtpchlnikcdhklaaDoorLexed
import Derived.Shelf.SlSortCmp.QuietGrown
namespace Go.Proofs.YtpchlnikcdhklaaDoor
open Go.RowKit Go

/-- A callee's contract, met in a world of the class. -/
theorem grown_of_lay {f : Nat} {args : Array Value} {w : World} {n : Nat} {os : Array Obj} {v : Value} (h : Calls Tryd.prog f args (Sort.grow (w.drewN n) os) fun e w' => e = .returned v ∧ Lay (Sort.grow (w.drewN n) os) w') :
    Calls Tryd.prog f args (Sort.grow (w.drewN n) os) fun e w'' => e = .returned v ∧ ∃ p : GrownBy, w'' = Sort.grow (w.drewN p.n) p.os :=
  Calls.grown_of (h.mono fun _ _ ⟨he, hl⟩ => ⟨he, hl.grown⟩)

theorem lex_err {l : List UInt8} {p : Nat × Nat} (h : LX.lex l = .error p) : p.1 = 6 ∨ p.1 = 4 := by
  unfold LX.lex at h
  split at h
  · cases h; exact .inl rfl
  split at h
  · cases h; exact .inr rfl
  split at h
  · cases h; exact .inr rfl
  · cases h

end Go.Proofs.YtpchlnikcdhklaaDoor

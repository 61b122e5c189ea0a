/-
  ROWS OF ENTRIES: small things.
-/
import Derived.Test.YtdjddlebjbngfaaGreatDoorEs
import Derived.Test.YtdjddlebjbngfaaGreatDoorLb9
import Derived.Test.YtdjddlebjbngfaaGreatDoorQryA6
import Derived.Lib.QuietBelow
namespace Go.Proofs.YtdjddlebjbngfaaGreatDoor.E4
open Go.RowKit Go
open Go.Sort (grow)

theorem LabsAt.below1 {G : Nat → Prop} {w w' : World} {v : Value} {ls : List Lab} (h : LabsAt G w v ls) (hb : Below w.heap.size w w') : LabsAt G w' v ls := h.carry hb.size (fun _ _ hk => hb.block _ hk)
theorem EntsAt.below1 {G L : Nat → Prop} {w w' : World} {v : Value} {es : List Ent} (h : EntsAt G L w v es) (hb : Below w.heap.size w w') : EntsAt G L w' v es := h.carry hb.size (fun _ _ hk => hb.block _ hk)
theorem EntsAt.any {G L : Nat → Prop} {w : World} {v : Value} {es : List Ent} (h : EntsAt G L w v es) : EntsAt (fun _ => True) (fun _ => True) w v es := h.mono (fun _ _ _ => trivial) (fun _ _ _ => trivial)
theorem RawL.below1 {L : Nat → Prop} {w w' : World} {R : List (Value × Ent)} (h : RawL L w R) (hb : Below w.heap.size w w') : RawL L w' R := fun x hx => (h x hx).below1 hb
theorem Rk.below1 {k : Nat} {G : Nat → Prop} {w w' : World} {v : Value} {n : Nat} {xs : List Value} (h : Rk k G w v n xs) (hb : Below w.heap.size w w') : Rk k G w' v n xs := h.carry hb.size fun _ _ _ hk => hb.block _ hk
theorem LabsAt.both {B : Nat} {a w w' : World} {v : Value} {ls : List Lab} (h : LabsAt (fun b => b < B) w v ls) (h1 : Below B a w) (h2 : Below B a w') (hs : w.heap.size ≤ w'.heap.size) : LabsAt (fun b => b < B) w' v ls :=
  h.carry hs fun b hg _ => (h2.block b hg).trans (h1.block b hg).symm
theorem cb_below {W W' : World} {B : Nat} {t : TypeId} {arr : Array Value} (h : CB W B t arr) (hb : Below W.heap.size W W') : CB W' B t arr := (hb.block B h.lt).trans h
theorem below_mid {a b c : World} (h : Below a.heap.size a b) (k : Below b.heap.size b c) : Below a.heap.size a c := h.trans (k.mono h.size)
/-- A row's own block has turned, and what is new. -/
theorem keep_below {v : Value} {k : Nat} {G : Nat → Prop} {a w w' : World} {n : Nat} {xs : List Value} (hrk : Rk k G w v n xs) (hG : ∀ b, G b → a.heap.size ≤ b) (h : Below a.heap.size a w) (hk : Keep (At v) w w') : Below a.heap.size a w' :=
  h.trans ⟨hk.os, hk.tape, hk.output, hk.size, fun b hb => hk.block b (Nat.lt_of_lt_of_le hb h.size) fun ha => by have := hG b (hrk.at ha).1; omega⟩

theorem lay_keepB {a W W' : World} {v : Value} (h : Lay a W) (hk : Keep (At v) W W') (hv : ∀ b, At v b → a.heap.size ≤ b) : Lay a W' :=
  ((h.into (H := At v) (fun _ _ h => h.elim)).trans hk).into fun b hlt hb => by have := hv b hb; omega

theorem filter_take (p : Ent → Bool) (es : List Ent) (j : Nat) (hj : j < es.length) : (es.take (j + 1)).filter p = (es.take j).filter p ++ if p es[j] then [es[j]] else [] := by
  rw [← List.take_append_getElem hj, List.filter_append]
  congr 1
  rw [List.filter_cons]
  simp

/-- A slice that begins its block, with as much room as it is long at least. -/
def Sq (v : Value) (n : Nat) : Prop := (v = .slice none 0 0 ∧ n = 0) ∨ ∃ g cap, v = .slice (some ⟨g, 0, none⟩) n cap ∧ n ≤ cap

theorem Rk.sq {k : Nat} {G : Nat → Prop} {w : World} {v : Value} {n : Nat} {xs : List Value} (h : Rk k G w v n xs) : Sq v n := by
  obtain ⟨_, ⟨h1, h2⟩ | ⟨g, cap, h1, _, _, h2, _⟩⟩ := h
  · exact .inl ⟨h1, h2⟩
  · exact .inr ⟨g, cap, h1, h2⟩

end Go.Proofs.YtdjddlebjbngfaaGreatDoor.E4

/-
  THE DOCUMENT'S OWN WRITING AND READING (the texts of stage 4, joined).
-/
import Derived.Test.YtdjddlebjbngfaaGreatDoorNa
import Derived.Deep.RegionWith
import Derived.Test.YtdjddlebjbngfaaGreatDoorIp
import Derived.Deep.QuietTactic
import Derived.BigQuiet
import Derived.Deep.DeepCutAuto
namespace Go.Proofs.YtdjddlebjbngfaaGreatDoor.E4
open Go.RowKit Go

end Go.Proofs.YtdjddlebjbngfaaGreatDoor.E4

namespace Go.Proofs.YtdjddlebjbngfaaGreatDoor.E4
open Go.RowKit Go

/-- Block g is the document's reader of S, at 'at'. -/
structure Rf (w : World) (g : Nat) (S : ByteArray) (pos : Nat) (bad : Bool) : Prop where
  str : w.cell? ⟨g, 0, none⟩ = some (.string S)
  posn : w.cell? ⟨g, 1, none⟩ = some (.int .i64 pos)
  isBad : w.cell? ⟨g, 2, none⟩ = some (.bool bad)
  f0 : w.frozen? ⟨g, 0, none⟩ = false
  f1 : w.frozen? ⟨g, 1, none⟩ = false
  f2 : w.frozen? ⟨g, 2, none⟩ = false

theorem Rf.carry {w w' : World} {g : Nat} {S : ByteArray} {pos : Nat} {bad : Bool} (h : Rf w g S pos bad) (hb : w'.heap[g]? = w.heap[g]?) : Rf w' g S pos bad := by
  have hc : ∀ o, w'.cell? ⟨g, o, none⟩ = w.cell? ⟨g, o, none⟩ := fun o => World.cell?_of_block (a := ⟨g, o, none⟩) hb
  have hf : ∀ o, w'.frozen? ⟨g, o, none⟩ = w.frozen? ⟨g, o, none⟩ := fun o => World.frozen?_of_block (a := ⟨g, o, none⟩) hb
  exact ⟨by rw [hc]; exact h.str, by rw [hc]; exact h.posn, by rw [hc]; exact h.isBad, by rw [hf]; exact h.f0, by rw [hf]; exact h.f1, by rw [hf]; exact h.f2⟩
theorem Rf.lt {w : World} {g : Nat} {S : ByteArray} {pos : Nat} {bad : Bool} (h : Rf w g S pos bad) : g < w.heap.size := World.block_lt_of_cell? w ⟨g, 0, none⟩ h.str
theorem Rf.chg {w w' : World} {g k : Nat} {S : ByteArray} {pos : Nat} {bad : Bool} (h : Rf w g S pos bad) (hk : Chg k w w') (hne : g ≠ k) : Rf w' g S pos bad := h.carry (hk.block g h.lt hne)
theorem Rd.chg {w w' : World} {g k : Nat} {l : List UInt8} {bad : Bool} (h : Rd w g l bad) (hk : Chg k w w') (hne : g ≠ k) : Rd w' g l bad := h.carry (hk.block g h.lt hne)
end Go.Proofs.YtdjddlebjbngfaaGreatDoor.E4

namespace Go.Proofs.YtdjddlebjbngfaaGreatDoor.E4
open Go.RowKit Go

end Go.Proofs.YtdjddlebjbngfaaGreatDoor.E4

namespace Go.Proofs.YtdjddlebjbngfaaGreatDoor.E4
open Go.RowKit Go

theorem RU.inv {most : Nat} {l : List UInt8} {bad : Bool} {n : Nat} {l1 : List UInt8} {b1 : Bool} (h : RU most l bad n l1 b1) :
    (bad = true ∧ n = 0 ∧ l1 = l ∧ b1 = true) ∨ (bad = false ∧ b1 = false ∧ ∃ l0 c, M.IsNum l0 c ∧ M.low (l0 ++ [c]) ≤ most ∧ l = l0 ++ c :: l1 ∧ n = M.low (l0 ++ [c])) ∨
      (bad = false ∧ b1 = true ∧ n = 0 ∧ l1 = [] ∧ ∀ l0 c r, M.IsNum l0 c → l = l0 ++ c :: r → most < M.low (l0 ++ [c])) := by
  cases h with
  | good l0 c _ hn hm => exact .inr (.inl ⟨rfl, rfl, l0, c, hn, hm, rfl, rfl⟩)
  | none _ hno => exact .inr (.inr ⟨rfl, rfl, rfl, rfl, hno⟩)
  | bad => exact .inl ⟨rfl, rfl, rfl, rfl⟩

theorem RU.same {most : Nat} {l : List UInt8} {bad : Bool} {n m : Nat} {l1 l2 : List UInt8} {b1 b2 : Bool} (h : RU most l bad n l1 b1) (k : RU most l bad m l2 b2) : n = m ∧ l1 = l2 ∧ b1 = b2 := by
  rcases h.inv with ⟨rfl, rfl, rfl, rfl⟩ | ⟨rfl, rfl, l0, c, hn, hm, e, rfl⟩ | ⟨rfl, rfl, rfl, rfl, hno⟩
  · rcases k.inv with ⟨_, rfl, rfl, rfl⟩ | ⟨x, _⟩ | ⟨x, _⟩
    · exact ⟨rfl, rfl, rfl⟩
    · cases x
    · cases x
  · rcases k.inv with ⟨x, _⟩ | ⟨_, rfl, m0, d, hk, _, e2, rfl⟩ | ⟨_, rfl, rfl, rfl, hno⟩
    · cases x
    · rw [e] at e2
      obtain ⟨rfl, rfl, rfl⟩ := M.parts_unique hn.cont hn.last hk.cont hk.last e2
      exact ⟨rfl, rfl, rfl⟩
    · exact absurd (hno l0 c l1 hn e) (by omega)
  · rcases k.inv with ⟨x, _⟩ | ⟨_, rfl, m0, d, hk, hm, e2, rfl⟩ | ⟨_, rfl, rfl, rfl, _⟩
    · cases x
    · exact absurd (hno m0 d l2 hk e2) (by omega)
    · exact ⟨rfl, rfl, rfl⟩

theorem RT.same {most : Nat} {l : List UInt8} {bad : Bool} {n m : List UInt8} {l1 l2 : List UInt8} {b1 b2 : Bool} (h : RT most l bad n l1 b1) (k : RT most l bad m l2 b2) : n = m ∧ l1 = l2 ∧ b1 = b2 := by
  cases h with
  | bad n1 l1 h =>
    cases k with
    | bad n2 l2 k => exact ⟨rfl, (h.same k).2.1, rfl⟩
    | short n2 l2 k _ => cases (h.same k).2.2
    | good n2 l2 k _ => cases (h.same k).2.2
  | short n1 l1 h hn =>
    cases k with
    | bad n2 l2 k => cases (h.same k).2.2
    | short n2 l2 k _ => exact ⟨rfl, rfl, rfl⟩
    | good n2 l2 k hk => obtain ⟨rfl, rfl, _⟩ := h.same k; omega
  | good n1 l1 h hn =>
    cases k with
    | bad n2 l2 k => cases (h.same k).2.2
    | short n2 l2 k hk => obtain ⟨rfl, rfl, _⟩ := h.same k; omega
    | good n2 l2 k hk => obtain ⟨rfl, rfl, _⟩ := h.same k; exact ⟨rfl, rfl, rfl⟩

end Go.Proofs.YtdjddlebjbngfaaGreatDoor.E4

namespace Go.Proofs.YtdjddlebjbngfaaGreatDoor.E4
open Go.RowKit Go

end Go.Proofs.YtdjddlebjbngfaaGreatDoor.E4

namespace Go.Proofs.YtdjddlebjbngfaaGreatDoor.E4
open Go.RowKit Go

end Go.Proofs.YtdjddlebjbngfaaGreatDoor.E4

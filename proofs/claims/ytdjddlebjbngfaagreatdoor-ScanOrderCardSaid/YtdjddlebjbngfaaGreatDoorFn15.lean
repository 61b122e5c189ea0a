/-
  WHAT IS ANSWERED, AS A FUNCTION of the entries, the question, the mark, the way round and the number.
-/
import Derived.Test.YtdjddlebjbngfaaGreatDoorLw15
namespace Go.Proofs.YtdjddlebjbngfaaGreatDoor.E4
open Go.RowKit Go

/-- What is asked for, sorted; what is answered of it; the error's number. -/
noncomputable def askS (es : List Ent) (a : Ask) (desc : Bool) : List Ent := srtOf desc (es.filter (inT a.src a.til))
noncomputable def askL (es : List Ent) (a : Ask) (mo : Option Ent) (desc : Bool) (n : Int) : List Ent := if a.kd = 3 ∧ a.gd = true then (Md.cut (ordC desc) mo n.toNat (askS es a desc)).1 else []
noncomputable def askB (es : List Ent) (a : Ask) (mo : Option Ent) (desc : Bool) (n : Int) : Bool := if a.kd = 3 ∧ a.gd = true then (Md.cut (ordC desc) mo n.toNat (askS es a desc)).2 else false
def askK (a : Ask) : Int := if a.kd = 3 then if a.gd = true then 0 else 1 else 12

def AskQ (es : List Ent) (a : Ask) (mo : Option Ent) (desc : Bool) (n : Int) (w : World) (x : Ending) (w' : World) : Prop :=
  ∃ v, x = .returned (.tuple #[v, .bool (askB es a mo desc n), .int .i64 (askK a)]) ∧ EntsAt (fun b => w.heap.size ≤ b) (fun _ => True) w' v (askL es a mo desc n) ∧ Below w.heap.size w w'

theorem AskP.q {es : List Ent} {a : Ask} {mo : Option Ent} {desc : Bool} {n : Int} {w : World} {x : Ending} {w' : World} (h : AskP es a mo desc n w x w') : AskQ es a mo desc n w x w' ∧ (a.kd = 3 ∧ a.gd = true → Sorts (ordC desc) (es.filter (inT a.src a.til)) (askS es a desc)) := by
  obtain ⟨hb, ⟨h1, rfl⟩ | ⟨h1, h2, rfl⟩ | ⟨h1, h2, v, srt, hs, rfl, hv⟩⟩ := h
  · refine ⟨⟨.slice none 0 0, ?_, ?_, hb⟩, fun h => absurd h.1 h1⟩
    · unfold askB askK
      rw [if_neg h1, if_neg fun h => h1 h.1]
    · unfold askL
      rw [if_neg fun h => h1 h.1]
      exact EntsAt.none _ _ _ _
  · have h3 : ¬ (a.kd = 3 ∧ a.gd = true) := fun h => by rw [h2] at h; cases h.2
    refine ⟨⟨.slice none 0 0, ?_, ?_, hb⟩, fun h => absurd h h3⟩
    · unfold askB askK
      rw [if_pos h1, if_neg h3, if_neg fun h => h3 ⟨h1, h⟩]
    · unfold askL
      rw [if_neg h3]
      exact EntsAt.none _ _ _ _
  · have e : askS es a desc = srt := srtOf_eq hs
    refine ⟨⟨v, ?_, ?_, hb⟩, fun _ => by rw [e]; exact hs⟩
    · unfold askB askK
      rw [if_pos h1, if_pos h2, if_pos ⟨h1, h2⟩, e]
    · unfold askL
      rw [if_pos ⟨h1, h2⟩, e]
      exact hv

theorem askS_same {es fs : List Ent} (h : ∀ x, x ∈ es ↔ x ∈ fs) (a : Ask) (desc : Bool) : askS es a desc = askS fs a desc := srtOf_same fun x => by rw [List.mem_filter, List.mem_filter, h]
theorem askL_same {es fs : List Ent} (h : ∀ x, x ∈ es ↔ x ∈ fs) (a : Ask) (mo : Option Ent) (desc : Bool) (n : Int) : askL es a mo desc n = askL fs a mo desc n := by unfold askL; rw [askS_same h]
theorem askB_same {es fs : List Ent} (h : ∀ x, x ∈ es ↔ x ∈ fs) (a : Ask) (mo : Option Ent) (desc : Bool) (n : Int) : askB es a mo desc n = askB fs a mo desc n := by unfold askB; rw [askS_same h]
theorem added_mem (es : List Ent) (x : Ent) : x ∈ addAll [] es ↔ x ∈ es.filter Ent.ok := by
  rw [addAll_mem, List.mem_filter]
  exact ⟨fun h => h.elim (fun h => by cases h) id, .inr⟩
theorem count_len {es srt : List Ent} (h : Sorts (ordC false) (es.filter Ent.ok) srt) : srt.length = (addAll [] es).length :=
  nodup_len h.nodup (addAll_nodup List.nodup_nil) fun x => (h.2 x).trans (added_mem es x).symm

theorem bigF_no {es : List Ent} {a : Ask} {m : Ent} (h : bigF es a m = false) : es.length ≤ 60 ∧ es.any Ent.big = false ∧ a.great = false ∧ m.big = false := by
  unfold bigF at h
  simp only [Bool.or_eq_false_iff, decide_eq_false_iff_not] at h
  exact ⟨by omega, h.1.1.2, h.1.2, h.2⟩

/-- What the operations of a question leave. -/
def AT (B0 : Nat) (L : List Ent) (bb : Bool) (kk : Int) (v : Value) (w : World) : Prop := ∃ u, v = .tuple #[u, .bool bb, .int .i64 kk] ∧ EntsAt (fun b => B0 ≤ b) (fun _ => True) w u L
def AZ (B0 : Nat) (L : List Ent) (bb : Bool) (kk : Int) : Nat → Value → World → Prop
  | 6, v, w => AT B0 L bb kk v w
  | 7, v, w => AT B0 L bb kk v w
  | 8, v, w => EntsAt (fun b => B0 ≤ b) (fun _ => True) w v L
  | 11, v, w => EntsAt (fun b => B0 ≤ b) (fun _ => True) w v L
  | _, _, _ => True
theorem AZ.below {B0 : Nat} {L : List Ent} {bb : Bool} {kk : Int} {j : Nat} {v : Value} {w w' : World} (h : AZ B0 L bb kk j v w) (hb : Below w.heap.size w w') : AZ B0 L bb kk j v w' := by
  unfold AZ at h ⊢
  split at h
  · obtain ⟨u, h1, h2⟩ := h
    exact ⟨u, h1, h2.below1 hb⟩
  · obtain ⟨u, h1, h2⟩ := h
    exact ⟨u, h1, h2.below1 hb⟩
  · exact EntsAt.below1 h hb
  · exact EntsAt.below1 h hb
  · trivial

end Go.Proofs.YtdjddlebjbngfaaGreatDoor.E4

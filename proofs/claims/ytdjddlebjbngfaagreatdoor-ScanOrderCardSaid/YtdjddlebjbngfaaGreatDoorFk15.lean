/-
  A LAW'S QUESTION of an engine with these entries: what comes of it.
-/
import Derived.Test.YtdjddlebjbngfaaGreatDoorFn15
namespace Go.Proofs.YtdjddlebjbngfaaGreatDoor.E4
open Go.RowKit Go

theorem askR_any {es : List Ent} {a : Ask} {av mv ml : Value} {has desc : Bool} {m : Ent} {n : Int} {B gb : Nat} {W : World} (heng : EngAt W B gb (addAll [] es)) (h1 : ∃ x n c, av = .slice x n c) (h2 : ∃ x n c, mv = .slice x n c) (hm : LabsAt (fun _ => True) W ml m.labs)
    (hn : es.length ≤ 120) :
    Calls Tryz.prog 10 #[.pointer (some ⟨gb, 0, none⟩), a.dyn av mv, mkV has m ml, .bool desc, .int .i64 n] W fun x w' => AskQ (addAll [] es) a (mkO has m) desc n W x w' ∧ (a.kd = 3 ∧ a.gd = true → Sorts (ordC desc) ((addAll [] es).filter (inT a.src a.til)) (askS (addAll [] es) a desc)) :=
  (ask_any (addAll [] es) a av mv has desc m ml n B gb W heng h1 h2 hm (by have h3 := addAll_len (es := []) (l := es); simp only [List.length_nil] at h3; omega)).mono fun _ _ h => h.q

theorem askK_ok {a : Ask} (h : a.kd = 3 ∧ a.gd = true) : askK a = 0 := by
  unfold askK
  rw [if_pos h.1, if_pos h.2]
theorem askS_len {es : List Ent} {a : Ask} {desc : Bool} (hs : Sorts (ordC desc) ((addAll [] es).filter (inT a.src a.til)) (askS (addAll [] es) a desc)) : (askS (addAll [] es) a desc).length ≤ es.length := by
  have h1 := Sorts.len13 hs
  have h2 := List.length_filter_le (inT a.src a.til) (addAll [] es)
  have h3 := addAll_len (es := []) (l := es)
  simp only [List.length_nil] at h3
  omega
theorem askL_eq {es : List Ent} {a : Ask} (h : a.kd = 3 ∧ a.gd = true) (mo : Option Ent) (desc : Bool) (n : Int) : askL es a mo desc n = (Md.rest (ordC desc) mo (askS es a desc)).take n.toNat := by
  unfold askL
  rw [if_pos h]
  rfl
theorem askB_eq {es : List Ent} {a : Ask} (h : a.kd = 3 ∧ a.gd = true) (mo : Option Ent) (desc : Bool) (n : Int) : askB es a mo desc n = decide ((Md.rest (ordC desc) mo (askS es a desc)).length ≤ n.toNat) := by
  unfold askB
  rw [if_pos h]
  rfl
theorem askL_all {es : List Ent} {a : Ask} (h : a.kd = 3 ∧ a.gd = true) {desc : Bool} (hs : Sorts (ordC desc) ((addAll [] es).filter (inT a.src a.til)) (askS (addAll [] es) a desc)) (n : Int) (hn : es.length ≤ n.toNat) : askL (addAll [] es) a none desc n = askS (addAll [] es) a desc := by
  rw [askL_eq h, Md.rest_none, List.take_of_length_le]
  exact Nat.le_trans (askS_len hs) hn

end Go.Proofs.YtdjddlebjbngfaaGreatDoor.E4

/-
  A QUESTION AS THE PROGRAM HAS IT (the law's anyOf); 
-/
import Derived.Test.YtdjddlebjbngfaaGreatDoorGk12
import Derived.Laws.Pointers
namespace Go.Proofs.YtdjddlebjbngfaaGreatDoor.E4
open Go.RowKit Go

/-- A question, as the program has it. -/
def Ask.dyn (a : Ask) (av mv : Value) : Value :=
  if a.kd = 1 then .iface 63 (.agg #[.int .i64 a.src, .int .i64 a.til, av]) else if a.kd = 2 then .iface 65 (.agg #[.int .i64 a.src, .int .i64 a.til, mv]) else if a.kd = 3 then .iface 51 (.agg #[.int .i64 a.src, .int .i64 a.til]) else .nilIface

set_option maxRecDepth 100000 in
theorem anyOf_any (a : Ask) (av mv : Value) (w : World) (h1 : ∃ x n c, av = .slice x n c) (h2 : ∃ x n c, mv = .slice x n c) :
    Calls Tryz.prog 11 #[.agg (a.cells av mv)] w fun e w' => e = .returned (a.dyn av mv) ∧ Below w.heap.size w w' := by
  obtain ⟨x1, n1, r1, rfl⟩ := h1
  obtain ⟨x2, n2, r2, rfl⟩ := h2
  unfold Ask.cells
  obtain ⟨w1, hw1⟩ : ∃ w1, w1 = w.alloc (.cells #[.int .i64 a.kd, .int .i64 a.src, .int .i64 a.til, .slice x1 n1 r1, .slice x2 n2 r2] 26) := ⟨_, rfl⟩
  have hb1 : Below w.heap.size w w1 := by rw [hw1]; exact (Below.refl _ w).alloc (Nat.le_refl _) _
  have hk1 : Bl w1 w.heap.size 26 #[.int .i64 a.kd, .int .i64 a.src, .int .i64 a.til, .slice x1 n1 r1, .slice x2 n2 r2] := by rw [hw1]; exact Bl.new w 26 _
  have HW1 := Lib.hid hw1.symm
  have HB1 := Lib.hid hb1
  have c0 := hk1.cell 0
  have c1 := hk1.cell 1
  have c2 := hk1.cell 2
  have c3 := hk1.cell 3
  have c4 := hk1.cell 4
  simp only [List.getElem?_toArray, List.getElem?_cons_succ, List.getElem?_cons_zero] at c0 c1 c2 c3 c4
  clear hw1 hb1 hk1
  go_enter Tryz.func11, Tryz.ntmps11
  go_upto_region 1 with fail
  rw [HW1.out]
  by_cases k1 : a.kd = 1
  · have HD : Hid (a.dyn (.slice x1 n1 r1) (.slice x2 n2 r2) = .iface 63 (.agg #[.int .i64 a.src, .int .i64 a.til, .slice x1 n1 r1])) := Lib.hid (by unfold Ask.dyn; rw [if_pos k1])
    have e1 : (a.kd == 1) = true := by simp [k1]
    clear k1
    go_wp2_with fail
    go_ret
    exact ⟨by rw [HD.out]; rfl, HB1.out⟩
  by_cases k2 : a.kd = 2
  · have HD : Hid (a.dyn (.slice x1 n1 r1) (.slice x2 n2 r2) = .iface 65 (.agg #[.int .i64 a.src, .int .i64 a.til, .slice x2 n2 r2])) := Lib.hid (by unfold Ask.dyn; rw [if_neg k1, if_pos k2])
    have e1 : (a.kd == 1) = false := by simp [k1]
    have e2 : (a.kd == 2) = true := by simp [k2]
    clear k1 k2
    go_wp2_with fail
    go_ret
    exact ⟨by rw [HD.out]; rfl, HB1.out⟩
  have e1 : (a.kd == 1) = false := by simp [k1]
  have e2 : (a.kd == 2) = false := by simp [k2]
  by_cases k3 : a.kd = 3
  · have HD : Hid (a.dyn (.slice x1 n1 r1) (.slice x2 n2 r2) = .iface 51 (.agg #[.int .i64 a.src, .int .i64 a.til])) := Lib.hid (by unfold Ask.dyn; rw [if_neg k1, if_neg k2, if_pos k3])
    have e3 : (a.kd == 3) = true := by simp [k3]
    clear k1 k2 k3
    go_wp2_with fail
    go_ret
    exact ⟨by rw [HD.out]; rfl, HB1.out⟩
  · have HD : Hid (a.dyn (.slice x1 n1 r1) (.slice x2 n2 r2) = .nilIface) := Lib.hid (by unfold Ask.dyn; rw [if_neg k1, if_neg k2, if_neg k3])
    have e3 : (a.kd == 3) = false := by simp [k3]
    clear k1 k2 k3
    go_wp2_with fail
    go_ret
    exact ⟨by rw [HD.out]; rfl, HB1.out⟩

theorem Bl.frozen {W : World} {B : Nat} {t : TypeId} {arr : Array Value} (h : Bl W B t arr) (i : Nat) : W.frozen? ⟨B, i, none⟩ = false := by simp [World.frozen?, show W.heap[B]? = _ from h]
theorem below_new {w w2 : World} (h : Below w.heap.size w w2) (v : Value) : Below w.heap.size w (w2.setCell ⟨w.heap.size, 0, none⟩ v) :=
  ⟨h.os, h.tape, h.output, by simpa [World.setCell] using h.size, fun b hb => (Below.heap_setCell _ ⟨w.heap.size, 0, none⟩ v b (Nat.ne_of_lt hb)).trans (h.block b hb)⟩

end Go.Proofs.YtdjddlebjbngfaaGreatDoor.E4

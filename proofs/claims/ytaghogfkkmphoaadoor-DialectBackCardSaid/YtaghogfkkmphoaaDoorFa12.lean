/-
  A QUESTION AS THE PROGRAM HAS IT (the law's anyOf); DOES Must PANIC? (the law's falls)
-/
import Derived.Test.YtaghogfkkmphoaaDoorGk12
import Derived.Defers
import Derived.Recover
import Derived.Laws.Pointers
namespace Go.Proofs.YtaghogfkkmphoaaDoor.E4
open Go.RowKit Go

/-- A question, as the program has it. -/
def Ask.dyn (a : Ask) (av mv : Value) : Value :=
  if a.kd = 1 then .iface 59 (.agg #[.int .i64 a.src, .int .i64 a.til, av]) else if a.kd = 2 then .iface 66 (.agg #[.int .i64 a.src, .int .i64 a.til, mv]) else if a.kd = 3 then .iface 55 (.agg #[.int .i64 a.src, .int .i64 a.til]) else .nilIface

set_option maxRecDepth 100000 in
theorem anyOf_any (a : Ask) (av mv : Value) (w : World) (h1 : ∃ x n c, av = .slice x n c) (h2 : ∃ x n c, mv = .slice x n c) :
    Calls Tryd.prog 10 #[.agg (a.cells av mv)] w fun e w' => e = .returned (a.dyn av mv) ∧ Below w.heap.size w w' := by
  obtain ⟨x1, n1, r1, rfl⟩ := h1
  obtain ⟨x2, n2, r2, rfl⟩ := h2
  unfold Ask.cells
  obtain ⟨w1, hw1⟩ : ∃ w1, w1 = w.alloc (.cells #[.int .i64 a.kd, .int .i64 a.src, .int .i64 a.til, .slice x1 n1 r1, .slice x2 n2 r2] 25) := ⟨_, rfl⟩
  have hb1 : Below w.heap.size w w1 := by rw [hw1]; exact (Below.refl _ w).alloc (Nat.le_refl _) _
  have hk1 : Bl w1 w.heap.size 25 #[.int .i64 a.kd, .int .i64 a.src, .int .i64 a.til, .slice x1 n1 r1, .slice x2 n2 r2] := by rw [hw1]; exact Bl.new w 25 _
  have HW1 := Lib.hid hw1.symm
  have HB1 := Lib.hid hb1
  have c0 := hk1.cell 0
  have c1 := hk1.cell 1
  have c2 := hk1.cell 2
  have c3 := hk1.cell 3
  have c4 := hk1.cell 4
  simp only [List.getElem?_toArray, List.getElem?_cons_succ, List.getElem?_cons_zero] at c0 c1 c2 c3 c4
  clear hw1 hb1 hk1
  go_enter Tryd.func10, Tryd.ntmps10
  go_upto_region 1 with fail
  rw [HW1.out]
  by_cases k1 : a.kd = 1
  · have HD : Hid (a.dyn (.slice x1 n1 r1) (.slice x2 n2 r2) = .iface 59 (.agg #[.int .i64 a.src, .int .i64 a.til, .slice x1 n1 r1])) := Lib.hid (by unfold Ask.dyn; rw [if_pos k1])
    have e1 : (a.kd == 1) = true := by simp [k1]
    clear k1
    go_wp2_with fail
    go_ret
    exact ⟨by rw [HD.out]; rfl, HB1.out⟩
  by_cases k2 : a.kd = 2
  · have HD : Hid (a.dyn (.slice x1 n1 r1) (.slice x2 n2 r2) = .iface 66 (.agg #[.int .i64 a.src, .int .i64 a.til, .slice x2 n2 r2])) := Lib.hid (by unfold Ask.dyn; rw [if_neg k1, if_pos k2])
    have e1 : (a.kd == 1) = false := by simp [k1]
    have e2 : (a.kd == 2) = true := by simp [k2]
    clear k1 k2
    go_wp2_with fail
    go_ret
    exact ⟨by rw [HD.out]; rfl, HB1.out⟩
  have e1 : (a.kd == 1) = false := by simp [k1]
  have e2 : (a.kd == 2) = false := by simp [k2]
  by_cases k3 : a.kd = 3
  · have HD : Hid (a.dyn (.slice x1 n1 r1) (.slice x2 n2 r2) = .iface 55 (.agg #[.int .i64 a.src, .int .i64 a.til])) := Lib.hid (by unfold Ask.dyn; rw [if_neg k1, if_neg k2, if_pos k3])
    have e3 : (a.kd == 3) = true := by simp [k3]
    clear k1 k2 k3
    go_wp2_with fail
    go_ret
    exact ⟨by rw [HD.out]; rfl, HB1.out⟩
  · have HD : Hid (a.dyn (.slice x1 n1 r1) (.slice x2 n2 r2) = .nilIface) := Lib.hid (by unfold Ask.dyn; rw [if_neg k1, if_neg k2, if_neg k3])
    have e3 : (a.kd == 3) = false := by simp [k3]
    clear k1 k2 k3
    go_wp2_with fail
    go_ret
    exact ⟨by rw [HD.out]; rfl, HB1.out⟩

theorem neq_iface (u : TypeId) (pv : Value) (w : World) : (binOp .neq 20 (.iface u pv) .nilIface).run Tryd.prog w = .ok (.bool true) w := run_neq_held_nil w 20 u pv (by kernel_rfl)
theorem neq_nil (w : World) : (binOp .neq 20 .nilIface .nilIface).run Tryd.prog w = .ok (.bool false) w := run_neq_nil_nil w 20 (by kernel_rfl)

theorem catch_panicking (p : Addr) (x : Value) (u : TypeId) (pv : Value) (older : List PanicEntry) (w : World) (hc : w.cell? p = some x) (hz : w.frozen? p = false) :
    CallsD Tryd.prog 53 #[.pointer (some p)] (.panicking ({ v := .iface u pv, recovered := false } :: older)) w fun e u' w' =>
      e = .returned (.tuple #[]) ∧ u' = .panicking ({ v := .iface u pv, recovered := true } :: older) ∧ w' = w.setCell p (.bool true) := by
  have hn := neq_iface u pv
  refine callsD_of_wpS Tryd.func53 rfl fun c₀ cs hu => ?_
  apply wpS_region
  simp [wpOpsS, go_sem, recoverD, hu, Tryd.ntmps53, hn, hc, hz, bodyPostS, results, Tryd.results53]

theorem catch_idle (p : Addr) (x : Value) (w : World) (hc : w.cell? p = some x) (hz : w.frozen? p = false) :
    CallsD Tryd.prog 53 #[.pointer (some p)] .returning w fun e u' w' => e = .returned (.tuple #[]) ∧ u' = .returning ∧ w' = w.setCell p (.bool false) := by
  have hn := neq_nil
  refine callsD_of_wpS Tryd.func53 rfl fun c₀ cs hu => ?_
  apply wpS_region
  simp [wpOpsS, go_sem, recoverD, hu, Tryd.ntmps53, hn, hc, hz, bodyPostS, results, Tryd.results53]
  cases c₀
  simp_all

theorem Bl.frozen {W : World} {B : Nat} {t : TypeId} {arr : Array Value} (h : Bl W B t arr) (i : Nat) : W.frozen? ⟨B, i, none⟩ = false := by simp [World.frozen?, show W.heap[B]? = _ from h]
theorem below_new {w w2 : World} (h : Below w.heap.size w w2) (v : Value) : Below w.heap.size w (w2.setCell ⟨w.heap.size, 0, none⟩ v) :=
  ⟨h.os, h.tape, h.output, by simpa [World.setCell] using h.size, fun b hb => (Below.heap_setCell _ ⟨w.heap.size, 0, none⟩ v b (Nat.ne_of_lt hb)).trans (h.block b hb)⟩

theorem falls_yes (x : Value) (w : World) (hM : ∀ W, Below w.heap.size w W → Calls Tryd.prog 54 #[x] W fun e W' => (∃ u pv, e = .panicked [{ v := .iface u pv, recovered := false }]) ∧ Below W.heap.size W W') :
    Calls Tryd.prog 27 #[x] w fun e w' => e = .returned (.bool true) ∧ Below w.heap.size w w' := by
  have hmf : ∀ (fn : Fn) (first cap : Array Value) (w : World), (Instr.makeFunc fn first cap).run Tryd.prog w = .ok (.func fn first cap) w := fun _ _ _ _ => rfl
  have hm := hM (w.alloc (.cells #[.bool false] 4)) ((Below.refl _ w).alloc (Nat.le_refl _) _)
  have HM := Lib.hid hm
  clear hM hm
  go_enter_defers Tryd.func27, Tryd.ntmps27
  have hb1 : Below w.heap.size w (w.alloc (.cells #[.bool false] 4)) := (Below.refl _ w).alloc (Nat.le_refl _) _
  have hn1 := Bl.new w 4 #[.bool false]
  have HB1 := Lib.hid hb1
  have HN1 := Lib.hid hn1
  clear hb1 hn1
  go_wp2_with fail
  refine HM.out.mono ?_
  rintro e w2 ⟨⟨u, pv, rfl⟩, hb2⟩
  have hk2 := Bl.below HN1.out hb2
  have HB2 := Lib.hid (below_mid12 HB1.out hb2)
  refine leaves_cons (f := 53) (args := #[.pointer (some ⟨w.heap.size, 0, none⟩)]) (by simp) (by simp [go_sem]) ?_
  refine (catch_panicking ⟨w.heap.size, 0, none⟩ (.bool false) u pv [] w2 (hk2.cell 0) (hk2.frozen 0)).mono ?_
  rintro e u' w3 ⟨rfl, rfl, rfl⟩
  have hc3 : (w2.setCell ⟨w.heap.size, 0, none⟩ (.bool true)).cell? ⟨w.heap.size, 0, none⟩ = some (.bool true) := by
    have := hk2.cell 0
    go_simp
  have HW := Lib.hid (below_new HB2.out (.bool true))
  simp [Leaves, settle, results, Tryd.results27, go_sem, hc3]
  exact HW.out

theorem falls_no (x : Value) (w : World) (hM : ∀ W, Below w.heap.size w W → Calls Tryd.prog 54 #[x] W fun e W' => (∃ v, e = .returned v) ∧ Below W.heap.size W W') :
    Calls Tryd.prog 27 #[x] w fun e w' => e = .returned (.bool false) ∧ Below w.heap.size w w' := by
  have hmf : ∀ (fn : Fn) (first cap : Array Value) (w : World), (Instr.makeFunc fn first cap).run Tryd.prog w = .ok (.func fn first cap) w := fun _ _ _ _ => rfl
  have hm := hM (w.alloc (.cells #[.bool false] 4)) ((Below.refl _ w).alloc (Nat.le_refl _) _)
  have HM := Lib.hid hm
  clear hM hm
  go_enter_defers Tryd.func27, Tryd.ntmps27
  have hb1 : Below w.heap.size w (w.alloc (.cells #[.bool false] 4)) := (Below.refl _ w).alloc (Nat.le_refl _) _
  have hn1 := Bl.new w 4 #[.bool false]
  have HB1 := Lib.hid hb1
  have HN1 := Lib.hid hn1
  clear hb1 hn1
  go_wp2_with fail
  refine HM.out.mono ?_
  rintro e w2 ⟨⟨v, rfl⟩, hb2⟩
  have hk2 := Bl.below HN1.out hb2
  have HB2 := Lib.hid (below_mid12 HB1.out hb2)
  have HK2 := Lib.hid hk2
  have hc2 := hk2.cell 0
  have hf2 := hk2.frozen 0
  have hl2 := hk2.lt
  simp only [List.getElem?_toArray, List.getElem?_cons_zero] at hc2
  clear hb2 hk2
  go_wp2_with fail
  have hc3 : (w2.setCell ⟨w.heap.size, 0, none⟩ (.bool false)).cell? ⟨w.heap.size, 0, none⟩ = some (.bool false) := by go_simp
  have hf3 : (w2.setCell ⟨w.heap.size, 0, none⟩ (.bool false)).frozen? ⟨w.heap.size, 0, none⟩ = false := (World.frozen?_setCell _ _ _ _).trans hf2
  have hb3 := below_new HB2.out (.bool false)
  generalize w2.setCell ⟨w.heap.size, 0, none⟩ (.bool false) = w3 at hc3 hf3 hb3 ⊢
  refine leaves_cons (f := 53) (args := #[.pointer (some ⟨w.heap.size, 0, none⟩)]) (by simp) (by simp [go_sem]) ?_
  refine (catch_idle ⟨w.heap.size, 0, none⟩ (.bool false) w3 hc3 hf3).mono ?_
  rintro e u' w4 ⟨rfl, rfl, rfl⟩
  have hc4 : (w3.setCell ⟨w.heap.size, 0, none⟩ (.bool false)).cell? ⟨w.heap.size, 0, none⟩ = some (.bool false) := by go_simp
  have HW := Lib.hid (below_new hb3 (.bool false))
  clear hc2 hf2 hc3 hf3 hb3
  simp [Leaves, settle, results, Tryd.results27, go_sem, hc4]
  exact HW.out

end Go.Proofs.YtaghogfkkmphoaaDoor.E4

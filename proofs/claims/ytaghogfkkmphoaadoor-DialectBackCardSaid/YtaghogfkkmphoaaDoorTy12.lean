/-
  ASSERTIONS WITH ok OF A QUESTION.
-/
import Derived.Test.YtaghogfkkmphoaaDoorFa12
namespace Go.Proofs.YtaghogfkkmphoaaDoor.E4
open Go.RowKit Go

theorem is59_yes (v : Value) (w : World) : (Instr.typeAssert (.iface 59 v) 20 59 true).run Tryd.prog w = .ok (.tuple #[v, .bool true]) w := by
  simp [Instr.typeAssert, run_underlying Tryd.underlying59]
set_option maxRecDepth 100000 in
theorem is59_nil (w : World) : (Instr.typeAssert .nilIface 20 59 true).run Tryd.prog w = .ok (.tuple #[.agg #[.int .i64 0, .int .i64 0, .slice none 0 0], .bool false]) w := by
  simp [Instr.typeAssert, run_underlying Tryd.underlying59, go_sem]
set_option maxRecDepth 100000 in
theorem is59_no66 (v : Value) (w : World) : (Instr.typeAssert (.iface 66 v) 20 59 true).run Tryd.prog w = .ok (.tuple #[.agg #[.int .i64 0, .int .i64 0, .slice none 0 0], .bool false]) w := by
  simp [Instr.typeAssert, run_underlying Tryd.underlying59, go_sem]
set_option maxRecDepth 100000 in
theorem is59_no55 (v : Value) (w : World) : (Instr.typeAssert (.iface 55 v) 20 59 true).run Tryd.prog w = .ok (.tuple #[.agg #[.int .i64 0, .int .i64 0, .slice none 0 0], .bool false]) w := by
  simp [Instr.typeAssert, run_underlying Tryd.underlying59, go_sem]
theorem is66_yes (v : Value) (w : World) : (Instr.typeAssert (.iface 66 v) 20 66 true).run Tryd.prog w = .ok (.tuple #[v, .bool true]) w := by
  simp [Instr.typeAssert, run_underlying Tryd.underlying66]
set_option maxRecDepth 100000 in
theorem is66_nil (w : World) : (Instr.typeAssert .nilIface 20 66 true).run Tryd.prog w = .ok (.tuple #[.agg #[.int .i64 0, .int .i64 0, .slice none 0 0], .bool false]) w := by
  simp [Instr.typeAssert, run_underlying Tryd.underlying66, go_sem]
set_option maxRecDepth 100000 in
theorem is66_no59 (v : Value) (w : World) : (Instr.typeAssert (.iface 59 v) 20 66 true).run Tryd.prog w = .ok (.tuple #[.agg #[.int .i64 0, .int .i64 0, .slice none 0 0], .bool false]) w := by
  simp [Instr.typeAssert, run_underlying Tryd.underlying66, go_sem]
set_option maxRecDepth 100000 in
theorem is66_no55 (v : Value) (w : World) : (Instr.typeAssert (.iface 55 v) 20 66 true).run Tryd.prog w = .ok (.tuple #[.agg #[.int .i64 0, .int .i64 0, .slice none 0 0], .bool false]) w := by
  simp [Instr.typeAssert, run_underlying Tryd.underlying66, go_sem]
theorem is55_yes (v : Value) (w : World) : (Instr.typeAssert (.iface 55 v) 20 55 true).run Tryd.prog w = .ok (.tuple #[v, .bool true]) w := by
  simp [Instr.typeAssert, run_underlying Tryd.underlying55]
set_option maxRecDepth 100000 in
theorem is55_nil (w : World) : (Instr.typeAssert .nilIface 20 55 true).run Tryd.prog w = .ok (.tuple #[.agg #[.int .i64 0, .int .i64 0], .bool false]) w := by
  simp [Instr.typeAssert, run_underlying Tryd.underlying55, go_sem]
set_option maxRecDepth 100000 in
theorem is55_no59 (v : Value) (w : World) : (Instr.typeAssert (.iface 59 v) 20 55 true).run Tryd.prog w = .ok (.tuple #[.agg #[.int .i64 0, .int .i64 0], .bool false]) w := by
  simp [Instr.typeAssert, run_underlying Tryd.underlying55, go_sem]
set_option maxRecDepth 100000 in
theorem is55_no66 (v : Value) (w : World) : (Instr.typeAssert (.iface 66 v) 20 55 true).run Tryd.prog w = .ok (.tuple #[.agg #[.int .i64 0, .int .i64 0], .bool false]) w := by
  simp [Instr.typeAssert, run_underlying Tryd.underlying55, go_sem]

theorem dyn1 {a : Ask} (h : a.kd = 1) (av mv : Value) : a.dyn av mv = .iface 59 (.agg #[.int .i64 a.src, .int .i64 a.til, av]) := by unfold Ask.dyn; rw [if_pos h]
theorem dyn2 {a : Ask} (h : a.kd = 2) (av mv : Value) : a.dyn av mv = .iface 66 (.agg #[.int .i64 a.src, .int .i64 a.til, mv]) := by unfold Ask.dyn; rw [if_neg (by omega), if_pos h]
theorem dyn3 {a : Ask} (h : a.kd = 3) (av mv : Value) : a.dyn av mv = .iface 55 (.agg #[.int .i64 a.src, .int .i64 a.til]) := by unfold Ask.dyn; rw [if_neg (by omega), if_neg (by omega), if_pos h]
theorem dyn0 {a : Ask} (h : ¬ (1 ≤ a.kd ∧ a.kd ≤ 3)) (av mv : Value) : a.dyn av mv = .nilIface := by unfold Ask.dyn; rw [if_neg (by omega), if_neg (by omega), if_neg (by omega)]

/-- dialect.Kind. -/
def Ask.kind (a : Ask) : Int := if 1 ≤ a.kd ∧ a.kd ≤ 3 then a.kd else 0
def Ask.timed (a : Ask) : Bool := decide (1 ≤ a.kd ∧ a.kd ≤ 3)
def Ask.times (a : Ask) : Value := .tuple (if a.timed then #[.int .i64 a.src, .int .i64 a.til, .bool true] else #[.int .i64 0, .int .i64 0, .bool false])
set_option maxRecDepth 100000 in
theorem kind_any (a : Ask) (av mv : Value) (w : World) : Calls Tryd.prog 12 #[a.dyn av mv] w fun e w' => e = .returned (.int .i64 a.kind) ∧ w' = w := by
  have q1 := is59_yes
  have q2 := is59_nil
  have q3 := is59_no66
  have q4 := is59_no55
  have r1 := is66_yes
  have r2 := is66_nil
  have r3 := is66_no55
  have s1 := is55_yes
  have s2 := is55_nil
  by_cases h1 : a.kd = 1
  · have HK : Hid (a.kind = 1) := Lib.hid (by unfold Ask.kind; rw [if_pos (by omega), h1])
    rw [dyn1 h1]
    clear h1
    go_enter Tryd.func12, Tryd.ntmps12
    go_wp2_with fail
    go_ret
    exact ⟨by rw [HK.out]; rfl, rfl⟩
  by_cases h2 : a.kd = 2
  · have HK : Hid (a.kind = 2) := Lib.hid (by unfold Ask.kind; rw [if_pos (by omega), h2])
    rw [dyn2 h2]
    clear h1 h2
    go_enter Tryd.func12, Tryd.ntmps12
    go_wp2_with fail
    go_ret
    exact ⟨by rw [HK.out]; rfl, rfl⟩
  by_cases h3 : a.kd = 3
  · have HK : Hid (a.kind = 3) := Lib.hid (by unfold Ask.kind; rw [if_pos (by omega), h3])
    rw [dyn3 h3]
    clear h1 h2 h3
    go_enter Tryd.func12, Tryd.ntmps12
    go_wp2_with fail
    go_ret
    exact ⟨by rw [HK.out]; rfl, rfl⟩
  · have HK : Hid (a.kind = 0) := Lib.hid (by unfold Ask.kind; rw [if_neg (by omega)])
    rw [dyn0 (by omega)]
    clear h1 h2 h3
    go_enter Tryd.func12, Tryd.ntmps12
    go_wp2_with fail
    go_ret
    exact ⟨by rw [HK.out]; rfl, rfl⟩

set_option maxRecDepth 100000 in
theorem times_lay (a : Ask) (x y : Option Addr) (n c m d : Nat) (w : World) : Calls Tryd.prog 11 #[a.dyn (.slice x n c) (.slice y m d)] w fun e w' => e = .returned a.times ∧ Lay w w' := by
  have q1 := is59_yes
  have q2 := is59_nil
  have q3 := is59_no66
  have q4 := is59_no55
  have r1 := is66_yes
  have r2 := is66_nil
  have r3 := is66_no55
  have s1 := is55_yes
  have s2 := is55_nil
  by_cases h1 : a.kd = 1
  · have HK : Hid (a.times = .tuple #[.int .i64 a.src, .int .i64 a.til, .bool true]) := Lib.hid (by unfold Ask.times Ask.timed; rw [decide_eq_true (by omega)]; rfl)
    rw [dyn1 h1]
    clear h1
    have hb : Lay w (w.alloc (.cells #[.int .i64 a.src, .int .i64 a.til, .slice x n c] 59)) := (Keep.refl _ w).alloc _
    have hk := Bl.new w 59 #[.int .i64 a.src, .int .i64 a.til, .slice x n c]
    obtain ⟨w1, hw1⟩ : ∃ w1, w1 = w.alloc (.cells #[.int .i64 a.src, .int .i64 a.til, .slice x n c] 59) := ⟨_, rfl⟩
    rw [← hw1] at hb hk
    have HW := Lib.hid hw1.symm
    have HB := Lib.hid hb
    have c0 := fun n => (Bl.below hk (below_drewN (Below.refl _ w1) n)).cell 0
    have c1 := fun n => (Bl.below hk (below_drewN (Below.refl _ w1) n)).cell 1
    simp only [List.getElem?_toArray, List.getElem?_cons_succ, List.getElem?_cons_zero] at c0 c1
    clear hw1 hb hk
    go_enter Tryd.func11, Tryd.ntmps11
    go_upto_region 4 with fail
    rw [HW.out]
    go_quiet (fail)
    clear c0 c1
    go_wp2_with fail
    refine bodyPost_ret (v := .tuple #[.int .i64 a.src, .int .i64 a.til, .bool true]) (by simp [results, Tryd.results11, go_sem]) rfl ⟨by rw [HK.out], HB.out.drewN _⟩
  by_cases h2 : a.kd = 2
  · have HK : Hid (a.times = .tuple #[.int .i64 a.src, .int .i64 a.til, .bool true]) := Lib.hid (by unfold Ask.times Ask.timed; rw [decide_eq_true (by omega)]; rfl)
    rw [dyn2 h2]
    clear h1 h2
    have hb : Lay w (w.alloc (.cells #[.int .i64 a.src, .int .i64 a.til, .slice y m d] 66)) := (Keep.refl _ w).alloc _
    have hk := Bl.new w 66 #[.int .i64 a.src, .int .i64 a.til, .slice y m d]
    obtain ⟨w1, hw1⟩ : ∃ w1, w1 = w.alloc (.cells #[.int .i64 a.src, .int .i64 a.til, .slice y m d] 66) := ⟨_, rfl⟩
    rw [← hw1] at hb hk
    have HW := Lib.hid hw1.symm
    have HB := Lib.hid hb
    have c0 := fun n => (Bl.below hk (below_drewN (Below.refl _ w1) n)).cell 0
    have c1 := fun n => (Bl.below hk (below_drewN (Below.refl _ w1) n)).cell 1
    simp only [List.getElem?_toArray, List.getElem?_cons_succ, List.getElem?_cons_zero] at c0 c1
    clear hw1 hb hk
    go_enter Tryd.func11, Tryd.ntmps11
    go_upto_region 7 with fail
    rw [HW.out]
    go_quiet (fail)
    clear c0 c1
    go_wp2_with fail
    refine bodyPost_ret (v := .tuple #[.int .i64 a.src, .int .i64 a.til, .bool true]) (by simp [results, Tryd.results11, go_sem]) rfl ⟨by rw [HK.out], HB.out.drewN _⟩
  by_cases h3 : a.kd = 3
  · have HK : Hid (a.times = .tuple #[.int .i64 a.src, .int .i64 a.til, .bool true]) := Lib.hid (by unfold Ask.times Ask.timed; rw [decide_eq_true (by omega)]; rfl)
    rw [dyn3 h3]
    clear h1 h2 h3
    have hb : Lay w (w.alloc (.cells #[.int .i64 a.src, .int .i64 a.til] 55)) := (Keep.refl _ w).alloc _
    have hk := Bl.new w 55 #[.int .i64 a.src, .int .i64 a.til]
    obtain ⟨w1, hw1⟩ : ∃ w1, w1 = w.alloc (.cells #[.int .i64 a.src, .int .i64 a.til] 55) := ⟨_, rfl⟩
    rw [← hw1] at hb hk
    have HW := Lib.hid hw1.symm
    have HB := Lib.hid hb
    have c0 := fun n => (Bl.below hk (below_drewN (Below.refl _ w1) n)).cell 0
    have c1 := fun n => (Bl.below hk (below_drewN (Below.refl _ w1) n)).cell 1
    simp only [List.getElem?_toArray, List.getElem?_cons_succ, List.getElem?_cons_zero] at c0 c1
    clear hw1 hb hk
    go_enter Tryd.func11, Tryd.ntmps11
    go_upto_region 10 with fail
    rw [HW.out]
    go_quiet (fail)
    clear c0 c1
    go_wp2_with fail
    refine bodyPost_ret (v := .tuple #[.int .i64 a.src, .int .i64 a.til, .bool true]) (by simp [results, Tryd.results11, go_sem]) rfl ⟨by rw [HK.out], HB.out.drewN _⟩
  · have HK : Hid (a.times = .tuple #[.int .i64 0, .int .i64 0, .bool false]) := Lib.hid (by unfold Ask.times Ask.timed; rw [decide_eq_false (by omega)]; rfl)
    rw [dyn0 (by omega)]
    clear h1 h2 h3
    go_enter Tryd.func11, Tryd.ntmps11
    go_wp2_with fail
    refine bodyPost_ret (v := .tuple #[.int .i64 0, .int .i64 0, .bool false]) (by simp [results, Tryd.results11, go_sem]) rfl ⟨by rw [HK.out], Keep.refl _ _⟩

theorem times_any (a : Ask) (x y : Option Addr) (n c m d : Nat) (w : World) : Calls Tryd.prog 11 #[a.dyn (.slice x n c) (.slice y m d)] w fun e w' => e = .returned a.times ∧ Below w.heap.size w w' :=
  (times_lay a x y n c m d w).mono fun _ _ h => ⟨h.1, ⟨h.2.os, h.2.tape, h.2.output, h.2.size, fun _ hk => Lay.block h.2 hk⟩⟩

end Go.Proofs.YtaghogfkkmphoaaDoor.E4

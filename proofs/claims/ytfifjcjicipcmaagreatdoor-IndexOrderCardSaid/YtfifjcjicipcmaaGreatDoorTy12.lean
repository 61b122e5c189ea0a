/-
  ASSERTIONS WITH ok OF A QUESTION.
-/
import Derived.Test.YtfifjcjicipcmaaGreatDoorFa12
namespace Go.Proofs.YtfifjcjicipcmaaGreatDoor.E4
open Go.RowKit Go

theorem is54_yes (v : Value) (w : World) : (Instr.typeAssert (.iface 54 v) 20 54 true).run Tryz.prog w = .ok (.tuple #[v, .bool true]) w := by
  simp [Instr.typeAssert, run_underlying Tryz.underlying54]
set_option maxRecDepth 100000 in
theorem is54_nil (w : World) : (Instr.typeAssert .nilIface 20 54 true).run Tryz.prog w = .ok (.tuple #[.agg #[.int .i64 0, .int .i64 0, .slice none 0 0], .bool false]) w := by
  simp [Instr.typeAssert, run_underlying Tryz.underlying54, go_sem]
set_option maxRecDepth 100000 in
theorem is54_no66 (v : Value) (w : World) : (Instr.typeAssert (.iface 66 v) 20 54 true).run Tryz.prog w = .ok (.tuple #[.agg #[.int .i64 0, .int .i64 0, .slice none 0 0], .bool false]) w := by
  simp [Instr.typeAssert, run_underlying Tryz.underlying54, go_sem]
set_option maxRecDepth 100000 in
theorem is54_no68 (v : Value) (w : World) : (Instr.typeAssert (.iface 68 v) 20 54 true).run Tryz.prog w = .ok (.tuple #[.agg #[.int .i64 0, .int .i64 0, .slice none 0 0], .bool false]) w := by
  simp [Instr.typeAssert, run_underlying Tryz.underlying54, go_sem]
theorem is66_yes (v : Value) (w : World) : (Instr.typeAssert (.iface 66 v) 20 66 true).run Tryz.prog w = .ok (.tuple #[v, .bool true]) w := by
  simp [Instr.typeAssert, run_underlying Tryz.underlying66]
set_option maxRecDepth 100000 in
theorem is66_nil (w : World) : (Instr.typeAssert .nilIface 20 66 true).run Tryz.prog w = .ok (.tuple #[.agg #[.int .i64 0, .int .i64 0, .slice none 0 0], .bool false]) w := by
  simp [Instr.typeAssert, run_underlying Tryz.underlying66, go_sem]
set_option maxRecDepth 100000 in
theorem is66_no54 (v : Value) (w : World) : (Instr.typeAssert (.iface 54 v) 20 66 true).run Tryz.prog w = .ok (.tuple #[.agg #[.int .i64 0, .int .i64 0, .slice none 0 0], .bool false]) w := by
  simp [Instr.typeAssert, run_underlying Tryz.underlying66, go_sem]
set_option maxRecDepth 100000 in
theorem is66_no68 (v : Value) (w : World) : (Instr.typeAssert (.iface 68 v) 20 66 true).run Tryz.prog w = .ok (.tuple #[.agg #[.int .i64 0, .int .i64 0, .slice none 0 0], .bool false]) w := by
  simp [Instr.typeAssert, run_underlying Tryz.underlying66, go_sem]
theorem is68_yes (v : Value) (w : World) : (Instr.typeAssert (.iface 68 v) 20 68 true).run Tryz.prog w = .ok (.tuple #[v, .bool true]) w := by
  simp [Instr.typeAssert, run_underlying Tryz.underlying68]
set_option maxRecDepth 100000 in
theorem is68_nil (w : World) : (Instr.typeAssert .nilIface 20 68 true).run Tryz.prog w = .ok (.tuple #[.agg #[.int .i64 0, .int .i64 0], .bool false]) w := by
  simp [Instr.typeAssert, run_underlying Tryz.underlying68, go_sem]
set_option maxRecDepth 100000 in
theorem is68_no54 (v : Value) (w : World) : (Instr.typeAssert (.iface 54 v) 20 68 true).run Tryz.prog w = .ok (.tuple #[.agg #[.int .i64 0, .int .i64 0], .bool false]) w := by
  simp [Instr.typeAssert, run_underlying Tryz.underlying68, go_sem]
set_option maxRecDepth 100000 in
theorem is68_no66 (v : Value) (w : World) : (Instr.typeAssert (.iface 66 v) 20 68 true).run Tryz.prog w = .ok (.tuple #[.agg #[.int .i64 0, .int .i64 0], .bool false]) w := by
  simp [Instr.typeAssert, run_underlying Tryz.underlying68, go_sem]

theorem dyn1 {a : Ask} (h : a.kd = 1) (av mv : Value) : a.dyn av mv = .iface 54 (.agg #[.int .i64 a.src, .int .i64 a.til, av]) := by unfold Ask.dyn; rw [if_pos h]
theorem dyn2 {a : Ask} (h : a.kd = 2) (av mv : Value) : a.dyn av mv = .iface 66 (.agg #[.int .i64 a.src, .int .i64 a.til, mv]) := by unfold Ask.dyn; rw [if_neg (by omega), if_pos h]
theorem dyn3 {a : Ask} (h : a.kd = 3) (av mv : Value) : a.dyn av mv = .iface 68 (.agg #[.int .i64 a.src, .int .i64 a.til]) := by unfold Ask.dyn; rw [if_neg (by omega), if_neg (by omega), if_pos h]
theorem dyn0 {a : Ask} (h : ¬ (1 ≤ a.kd ∧ a.kd ≤ 3)) (av mv : Value) : a.dyn av mv = .nilIface := by unfold Ask.dyn; rw [if_neg (by omega), if_neg (by omega), if_neg (by omega)]

/-- dialect.Kind. -/
def Ask.kind (a : Ask) : Int := if 1 ≤ a.kd ∧ a.kd ≤ 3 then a.kd else 0
def Ask.timed (a : Ask) : Bool := decide (1 ≤ a.kd ∧ a.kd ≤ 3)
def Ask.times (a : Ask) : Value := .tuple (if a.timed then #[.int .i64 a.src, .int .i64 a.til, .bool true] else #[.int .i64 0, .int .i64 0, .bool false])
set_option maxRecDepth 100000 in
theorem times_lay (a : Ask) (x y : Option Addr) (n c m d : Nat) (w : World) : Calls Tryz.prog 40 #[a.dyn (.slice x n c) (.slice y m d)] w fun e w' => e = .returned a.times ∧ Lay w w' := by
  have q1 := is54_yes
  have q2 := is54_nil
  have q3 := is54_no66
  have q4 := is54_no68
  have r1 := is66_yes
  have r2 := is66_nil
  have r3 := is66_no68
  have s1 := is68_yes
  have s2 := is68_nil
  by_cases h1 : a.kd = 1
  · have HK : Hid (a.times = .tuple #[.int .i64 a.src, .int .i64 a.til, .bool true]) := Lib.hid (by unfold Ask.times Ask.timed; rw [decide_eq_true (by omega)]; rfl)
    rw [dyn1 h1]
    clear h1
    have hb : Lay w (w.alloc (.cells #[.int .i64 a.src, .int .i64 a.til, .slice x n c] 54)) := (Keep.refl _ w).alloc _
    have hk := Bl.new w 54 #[.int .i64 a.src, .int .i64 a.til, .slice x n c]
    obtain ⟨w1, hw1⟩ : ∃ w1, w1 = w.alloc (.cells #[.int .i64 a.src, .int .i64 a.til, .slice x n c] 54) := ⟨_, rfl⟩
    rw [← hw1] at hb hk
    have HW := Lib.hid hw1.symm
    have HB := Lib.hid hb
    have c0 := fun n => (Bl.below hk (below_drewN (Below.refl _ w1) n)).cell 0
    have c1 := fun n => (Bl.below hk (below_drewN (Below.refl _ w1) n)).cell 1
    simp only [List.getElem?_toArray, List.getElem?_cons_succ, List.getElem?_cons_zero] at c0 c1
    clear hw1 hb hk
    go_enter Tryz.func40, Tryz.ntmps40
    go_upto_region 4 with fail
    rw [HW.out]
    go_quiet (fail)
    clear c0 c1
    go_wp2_with fail
    refine bodyPost_ret (v := .tuple #[.int .i64 a.src, .int .i64 a.til, .bool true]) (by simp [results, Tryz.results40, go_sem]) rfl ⟨by rw [HK.out], HB.out.drewN _⟩
  by_cases h2 : a.kd = 2
  · have HK : Hid (a.times = .tuple #[.int .i64 a.src, .int .i64 a.til, .bool true]) := Lib.hid (by unfold Ask.times Ask.timed; rw [decide_eq_true (by omega)]; rfl)
    rw [dyn2 h2]
    clear h1 h2
    have hb : Lay w (w.alloc (.cells #[.int .i64 a.src, .int .i64 a.til, .slice y m d] 66)) := (Keep.refl _ w).alloc _
    have hk := Bl.new w 66 #[.int .i64 a.src, .int .i64 a.til, .slice y m d]
    obtain ⟨w1, hw1⟩ : ∃ w1, w1 = w.alloc (.cells #[.int .i64 a.src, .int .i64 a.til, .slice y m d] 66) := ⟨_, rfl⟩
    rw [← hw1] at hb hk
    have HW := Lib.hid hw1.symm
    have HB := Lib.hid hb
    have c0 := fun n => (Bl.below hk (below_drewN (Below.refl _ w1) n)).cell 0
    have c1 := fun n => (Bl.below hk (below_drewN (Below.refl _ w1) n)).cell 1
    simp only [List.getElem?_toArray, List.getElem?_cons_succ, List.getElem?_cons_zero] at c0 c1
    clear hw1 hb hk
    go_enter Tryz.func40, Tryz.ntmps40
    go_upto_region 7 with fail
    rw [HW.out]
    go_quiet (fail)
    clear c0 c1
    go_wp2_with fail
    refine bodyPost_ret (v := .tuple #[.int .i64 a.src, .int .i64 a.til, .bool true]) (by simp [results, Tryz.results40, go_sem]) rfl ⟨by rw [HK.out], HB.out.drewN _⟩
  by_cases h3 : a.kd = 3
  · have HK : Hid (a.times = .tuple #[.int .i64 a.src, .int .i64 a.til, .bool true]) := Lib.hid (by unfold Ask.times Ask.timed; rw [decide_eq_true (by omega)]; rfl)
    rw [dyn3 h3]
    clear h1 h2 h3
    have hb : Lay w (w.alloc (.cells #[.int .i64 a.src, .int .i64 a.til] 68)) := (Keep.refl _ w).alloc _
    have hk := Bl.new w 68 #[.int .i64 a.src, .int .i64 a.til]
    obtain ⟨w1, hw1⟩ : ∃ w1, w1 = w.alloc (.cells #[.int .i64 a.src, .int .i64 a.til] 68) := ⟨_, rfl⟩
    rw [← hw1] at hb hk
    have HW := Lib.hid hw1.symm
    have HB := Lib.hid hb
    have c0 := fun n => (Bl.below hk (below_drewN (Below.refl _ w1) n)).cell 0
    have c1 := fun n => (Bl.below hk (below_drewN (Below.refl _ w1) n)).cell 1
    simp only [List.getElem?_toArray, List.getElem?_cons_succ, List.getElem?_cons_zero] at c0 c1
    clear hw1 hb hk
    go_enter Tryz.func40, Tryz.ntmps40
    go_upto_region 10 with fail
    rw [HW.out]
    go_quiet (fail)
    clear c0 c1
    go_wp2_with fail
    refine bodyPost_ret (v := .tuple #[.int .i64 a.src, .int .i64 a.til, .bool true]) (by simp [results, Tryz.results40, go_sem]) rfl ⟨by rw [HK.out], HB.out.drewN _⟩
  · have HK : Hid (a.times = .tuple #[.int .i64 0, .int .i64 0, .bool false]) := Lib.hid (by unfold Ask.times Ask.timed; rw [decide_eq_false (by omega)]; rfl)
    rw [dyn0 (by omega)]
    clear h1 h2 h3
    go_enter Tryz.func40, Tryz.ntmps40
    go_wp2_with fail
    refine bodyPost_ret (v := .tuple #[.int .i64 0, .int .i64 0, .bool false]) (by simp [results, Tryz.results40, go_sem]) rfl ⟨by rw [HK.out], Keep.refl _ _⟩

theorem times_any (a : Ask) (x y : Option Addr) (n c m d : Nat) (w : World) : Calls Tryz.prog 40 #[a.dyn (.slice x n c) (.slice y m d)] w fun e w' => e = .returned a.times ∧ Below w.heap.size w w' :=
  (times_lay a x y n c m d w).mono fun _ _ h => ⟨h.1, ⟨h.2.os, h.2.tape, h.2.output, h.2.size, fun _ hk => Lay.block h.2 hk⟩⟩

end Go.Proofs.YtfifjcjicipcmaaGreatDoor.E4

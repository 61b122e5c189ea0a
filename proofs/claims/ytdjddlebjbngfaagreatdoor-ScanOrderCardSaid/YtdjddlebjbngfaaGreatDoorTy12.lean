/-
  ASSERTIONS WITH ok OF A QUESTION.
-/
import Derived.Test.YtdjddlebjbngfaaGreatDoorFa12
namespace Go.Proofs.YtdjddlebjbngfaaGreatDoor.E4
open Go.RowKit Go

theorem is63_yes (v : Value) (w : World) : (Instr.typeAssert (.iface 63 v) 20 63 true).run Tryz.prog w = .ok (.tuple #[v, .bool true]) w := by
  simp [Instr.typeAssert, run_underlying Tryz.underlying63]
set_option maxRecDepth 100000 in
theorem is63_nil (w : World) : (Instr.typeAssert .nilIface 20 63 true).run Tryz.prog w = .ok (.tuple #[.agg #[.int .i64 0, .int .i64 0, .slice none 0 0], .bool false]) w := by
  simp [Instr.typeAssert, run_underlying Tryz.underlying63, go_sem]
set_option maxRecDepth 100000 in
theorem is63_no65 (v : Value) (w : World) : (Instr.typeAssert (.iface 65 v) 20 63 true).run Tryz.prog w = .ok (.tuple #[.agg #[.int .i64 0, .int .i64 0, .slice none 0 0], .bool false]) w := by
  simp [Instr.typeAssert, run_underlying Tryz.underlying63, go_sem]
set_option maxRecDepth 100000 in
theorem is63_no51 (v : Value) (w : World) : (Instr.typeAssert (.iface 51 v) 20 63 true).run Tryz.prog w = .ok (.tuple #[.agg #[.int .i64 0, .int .i64 0, .slice none 0 0], .bool false]) w := by
  simp [Instr.typeAssert, run_underlying Tryz.underlying63, go_sem]
theorem is65_yes (v : Value) (w : World) : (Instr.typeAssert (.iface 65 v) 20 65 true).run Tryz.prog w = .ok (.tuple #[v, .bool true]) w := by
  simp [Instr.typeAssert, run_underlying Tryz.underlying65]
set_option maxRecDepth 100000 in
theorem is65_nil (w : World) : (Instr.typeAssert .nilIface 20 65 true).run Tryz.prog w = .ok (.tuple #[.agg #[.int .i64 0, .int .i64 0, .slice none 0 0], .bool false]) w := by
  simp [Instr.typeAssert, run_underlying Tryz.underlying65, go_sem]
set_option maxRecDepth 100000 in
theorem is65_no63 (v : Value) (w : World) : (Instr.typeAssert (.iface 63 v) 20 65 true).run Tryz.prog w = .ok (.tuple #[.agg #[.int .i64 0, .int .i64 0, .slice none 0 0], .bool false]) w := by
  simp [Instr.typeAssert, run_underlying Tryz.underlying65, go_sem]
set_option maxRecDepth 100000 in
theorem is65_no51 (v : Value) (w : World) : (Instr.typeAssert (.iface 51 v) 20 65 true).run Tryz.prog w = .ok (.tuple #[.agg #[.int .i64 0, .int .i64 0, .slice none 0 0], .bool false]) w := by
  simp [Instr.typeAssert, run_underlying Tryz.underlying65, go_sem]
theorem is51_yes (v : Value) (w : World) : (Instr.typeAssert (.iface 51 v) 20 51 true).run Tryz.prog w = .ok (.tuple #[v, .bool true]) w := by
  simp [Instr.typeAssert, run_underlying Tryz.underlying51]
set_option maxRecDepth 100000 in
theorem is51_nil (w : World) : (Instr.typeAssert .nilIface 20 51 true).run Tryz.prog w = .ok (.tuple #[.agg #[.int .i64 0, .int .i64 0], .bool false]) w := by
  simp [Instr.typeAssert, run_underlying Tryz.underlying51, go_sem]
set_option maxRecDepth 100000 in
theorem is51_no63 (v : Value) (w : World) : (Instr.typeAssert (.iface 63 v) 20 51 true).run Tryz.prog w = .ok (.tuple #[.agg #[.int .i64 0, .int .i64 0], .bool false]) w := by
  simp [Instr.typeAssert, run_underlying Tryz.underlying51, go_sem]
set_option maxRecDepth 100000 in
theorem is51_no65 (v : Value) (w : World) : (Instr.typeAssert (.iface 65 v) 20 51 true).run Tryz.prog w = .ok (.tuple #[.agg #[.int .i64 0, .int .i64 0], .bool false]) w := by
  simp [Instr.typeAssert, run_underlying Tryz.underlying51, go_sem]

theorem dyn1 {a : Ask} (h : a.kd = 1) (av mv : Value) : a.dyn av mv = .iface 63 (.agg #[.int .i64 a.src, .int .i64 a.til, av]) := by unfold Ask.dyn; rw [if_pos h]
theorem dyn2 {a : Ask} (h : a.kd = 2) (av mv : Value) : a.dyn av mv = .iface 65 (.agg #[.int .i64 a.src, .int .i64 a.til, mv]) := by unfold Ask.dyn; rw [if_neg (by omega), if_pos h]
theorem dyn3 {a : Ask} (h : a.kd = 3) (av mv : Value) : a.dyn av mv = .iface 51 (.agg #[.int .i64 a.src, .int .i64 a.til]) := by unfold Ask.dyn; rw [if_neg (by omega), if_neg (by omega), if_pos h]
theorem dyn0 {a : Ask} (h : ¬ (1 ≤ a.kd ∧ a.kd ≤ 3)) (av mv : Value) : a.dyn av mv = .nilIface := by unfold Ask.dyn; rw [if_neg (by omega), if_neg (by omega), if_neg (by omega)]

/-- dialect.Kind. -/
def Ask.kind (a : Ask) : Int := if 1 ≤ a.kd ∧ a.kd ≤ 3 then a.kd else 0
def Ask.timed (a : Ask) : Bool := decide (1 ≤ a.kd ∧ a.kd ≤ 3)
def Ask.times (a : Ask) : Value := .tuple (if a.timed then #[.int .i64 a.src, .int .i64 a.til, .bool true] else #[.int .i64 0, .int .i64 0, .bool false])
set_option maxRecDepth 100000 in
theorem kind_any (a : Ask) (av mv : Value) (w : World) : Calls Tryz.prog 23 #[a.dyn av mv] w fun e w' => e = .returned (.int .i64 a.kind) ∧ w' = w := by
  have q1 := is63_yes
  have q2 := is63_nil
  have q3 := is63_no65
  have q4 := is63_no51
  have r1 := is65_yes
  have r2 := is65_nil
  have r3 := is65_no51
  have s1 := is51_yes
  have s2 := is51_nil
  by_cases h1 : a.kd = 1
  · have HK : Hid (a.kind = 1) := Lib.hid (by unfold Ask.kind; rw [if_pos (by omega), h1])
    rw [dyn1 h1]
    clear h1
    go_enter Tryz.func23, Tryz.ntmps23
    go_wp2_with fail
    go_ret
    exact ⟨by rw [HK.out]; rfl, rfl⟩
  by_cases h2 : a.kd = 2
  · have HK : Hid (a.kind = 2) := Lib.hid (by unfold Ask.kind; rw [if_pos (by omega), h2])
    rw [dyn2 h2]
    clear h1 h2
    go_enter Tryz.func23, Tryz.ntmps23
    go_wp2_with fail
    go_ret
    exact ⟨by rw [HK.out]; rfl, rfl⟩
  by_cases h3 : a.kd = 3
  · have HK : Hid (a.kind = 3) := Lib.hid (by unfold Ask.kind; rw [if_pos (by omega), h3])
    rw [dyn3 h3]
    clear h1 h2 h3
    go_enter Tryz.func23, Tryz.ntmps23
    go_wp2_with fail
    go_ret
    exact ⟨by rw [HK.out]; rfl, rfl⟩
  · have HK : Hid (a.kind = 0) := Lib.hid (by unfold Ask.kind; rw [if_neg (by omega)])
    rw [dyn0 (by omega)]
    clear h1 h2 h3
    go_enter Tryz.func23, Tryz.ntmps23
    go_wp2_with fail
    go_ret
    exact ⟨by rw [HK.out]; rfl, rfl⟩

set_option maxRecDepth 100000 in
theorem times_lay (a : Ask) (x y : Option Addr) (n c m d : Nat) (w : World) : Calls Tryz.prog 38 #[a.dyn (.slice x n c) (.slice y m d)] w fun e w' => e = .returned a.times ∧ Lay w w' := by
  have q1 := is63_yes
  have q2 := is63_nil
  have q3 := is63_no65
  have q4 := is63_no51
  have r1 := is65_yes
  have r2 := is65_nil
  have r3 := is65_no51
  have s1 := is51_yes
  have s2 := is51_nil
  by_cases h1 : a.kd = 1
  · have HK : Hid (a.times = .tuple #[.int .i64 a.src, .int .i64 a.til, .bool true]) := Lib.hid (by unfold Ask.times Ask.timed; rw [decide_eq_true (by omega)]; rfl)
    rw [dyn1 h1]
    clear h1
    have hb : Lay w (w.alloc (.cells #[.int .i64 a.src, .int .i64 a.til, .slice x n c] 63)) := (Keep.refl _ w).alloc _
    have hk := Bl.new w 63 #[.int .i64 a.src, .int .i64 a.til, .slice x n c]
    obtain ⟨w1, hw1⟩ : ∃ w1, w1 = w.alloc (.cells #[.int .i64 a.src, .int .i64 a.til, .slice x n c] 63) := ⟨_, rfl⟩
    rw [← hw1] at hb hk
    have HW := Lib.hid hw1.symm
    have HB := Lib.hid hb
    have c0 := fun n => (Bl.below hk (below_drewN (Below.refl _ w1) n)).cell 0
    have c1 := fun n => (Bl.below hk (below_drewN (Below.refl _ w1) n)).cell 1
    simp only [List.getElem?_toArray, List.getElem?_cons_succ, List.getElem?_cons_zero] at c0 c1
    clear hw1 hb hk
    go_enter Tryz.func38, Tryz.ntmps38
    go_upto_region 4 with fail
    rw [HW.out]
    go_quiet (fail)
    clear c0 c1
    go_wp2_with fail
    refine bodyPost_ret (v := .tuple #[.int .i64 a.src, .int .i64 a.til, .bool true]) (by simp [results, Tryz.results38, go_sem]) rfl ⟨by rw [HK.out], HB.out.drewN _⟩
  by_cases h2 : a.kd = 2
  · have HK : Hid (a.times = .tuple #[.int .i64 a.src, .int .i64 a.til, .bool true]) := Lib.hid (by unfold Ask.times Ask.timed; rw [decide_eq_true (by omega)]; rfl)
    rw [dyn2 h2]
    clear h1 h2
    have hb : Lay w (w.alloc (.cells #[.int .i64 a.src, .int .i64 a.til, .slice y m d] 65)) := (Keep.refl _ w).alloc _
    have hk := Bl.new w 65 #[.int .i64 a.src, .int .i64 a.til, .slice y m d]
    obtain ⟨w1, hw1⟩ : ∃ w1, w1 = w.alloc (.cells #[.int .i64 a.src, .int .i64 a.til, .slice y m d] 65) := ⟨_, rfl⟩
    rw [← hw1] at hb hk
    have HW := Lib.hid hw1.symm
    have HB := Lib.hid hb
    have c0 := fun n => (Bl.below hk (below_drewN (Below.refl _ w1) n)).cell 0
    have c1 := fun n => (Bl.below hk (below_drewN (Below.refl _ w1) n)).cell 1
    simp only [List.getElem?_toArray, List.getElem?_cons_succ, List.getElem?_cons_zero] at c0 c1
    clear hw1 hb hk
    go_enter Tryz.func38, Tryz.ntmps38
    go_upto_region 7 with fail
    rw [HW.out]
    go_quiet (fail)
    clear c0 c1
    go_wp2_with fail
    refine bodyPost_ret (v := .tuple #[.int .i64 a.src, .int .i64 a.til, .bool true]) (by simp [results, Tryz.results38, go_sem]) rfl ⟨by rw [HK.out], HB.out.drewN _⟩
  by_cases h3 : a.kd = 3
  · have HK : Hid (a.times = .tuple #[.int .i64 a.src, .int .i64 a.til, .bool true]) := Lib.hid (by unfold Ask.times Ask.timed; rw [decide_eq_true (by omega)]; rfl)
    rw [dyn3 h3]
    clear h1 h2 h3
    have hb : Lay w (w.alloc (.cells #[.int .i64 a.src, .int .i64 a.til] 51)) := (Keep.refl _ w).alloc _
    have hk := Bl.new w 51 #[.int .i64 a.src, .int .i64 a.til]
    obtain ⟨w1, hw1⟩ : ∃ w1, w1 = w.alloc (.cells #[.int .i64 a.src, .int .i64 a.til] 51) := ⟨_, rfl⟩
    rw [← hw1] at hb hk
    have HW := Lib.hid hw1.symm
    have HB := Lib.hid hb
    have c0 := fun n => (Bl.below hk (below_drewN (Below.refl _ w1) n)).cell 0
    have c1 := fun n => (Bl.below hk (below_drewN (Below.refl _ w1) n)).cell 1
    simp only [List.getElem?_toArray, List.getElem?_cons_succ, List.getElem?_cons_zero] at c0 c1
    clear hw1 hb hk
    go_enter Tryz.func38, Tryz.ntmps38
    go_upto_region 10 with fail
    rw [HW.out]
    go_quiet (fail)
    clear c0 c1
    go_wp2_with fail
    refine bodyPost_ret (v := .tuple #[.int .i64 a.src, .int .i64 a.til, .bool true]) (by simp [results, Tryz.results38, go_sem]) rfl ⟨by rw [HK.out], HB.out.drewN _⟩
  · have HK : Hid (a.times = .tuple #[.int .i64 0, .int .i64 0, .bool false]) := Lib.hid (by unfold Ask.times Ask.timed; rw [decide_eq_false (by omega)]; rfl)
    rw [dyn0 (by omega)]
    clear h1 h2 h3
    go_enter Tryz.func38, Tryz.ntmps38
    go_wp2_with fail
    refine bodyPost_ret (v := .tuple #[.int .i64 0, .int .i64 0, .bool false]) (by simp [results, Tryz.results38, go_sem]) rfl ⟨by rw [HK.out], Keep.refl _ _⟩

theorem times_any (a : Ask) (x y : Option Addr) (n c m d : Nat) (w : World) : Calls Tryz.prog 38 #[a.dyn (.slice x n c) (.slice y m d)] w fun e w' => e = .returned a.times ∧ Below w.heap.size w w' :=
  (times_lay a x y n c m d w).mono fun _ _ h => ⟨h.1, ⟨h.2.os, h.2.tape, h.2.output, h.2.size, fun _ hk => Lay.block h.2 hk⟩⟩

end Go.Proofs.YtdjddlebjbngfaaGreatDoor.E4

/-
  Kind OF WHAT IS NO QUESTION; IS IT NOBODY'S?; the document's Keeps is the program's.
-/
import Derived.Test.YtaghogfkkmphoaaDoorGd12
import Derived.Test.YtaghogfkkmphoaaDoorKp12
import Derived.Test.YtaghogfkkmphoaaDoorGv12
import Derived.Test.YtaghogfkkmphoaaDoorKw12
import Derived.Test.YtaghogfkkmphoaaDoorRq9
import Derived.Test.YtaghogfkkmphoaaDoorHr
namespace Go.Proofs.YtaghogfkkmphoaaDoor.E4
open Go.RowKit Go

set_option maxRecDepth 100000 in
theorem is59_int (v : Value) (w : World) : (Instr.typeAssert (.iface 3 v) 20 59 true).run Tryd.prog w = .ok (.tuple #[.agg #[.int .i64 0, .int .i64 0, .slice none 0 0], .bool false]) w := by
  simp [Instr.typeAssert, run_underlying Tryd.underlying59, go_sem]
set_option maxRecDepth 100000 in
theorem is66_int (v : Value) (w : World) : (Instr.typeAssert (.iface 3 v) 20 66 true).run Tryd.prog w = .ok (.tuple #[.agg #[.int .i64 0, .int .i64 0, .slice none 0 0], .bool false]) w := by
  simp [Instr.typeAssert, run_underlying Tryd.underlying66, go_sem]
set_option maxRecDepth 100000 in
theorem is55_int (v : Value) (w : World) : (Instr.typeAssert (.iface 3 v) 20 55 true).run Tryd.prog w = .ok (.tuple #[.agg #[.int .i64 0, .int .i64 0], .bool false]) w := by
  simp [Instr.typeAssert, run_underlying Tryd.underlying55, go_sem]

set_option maxRecDepth 100000 in
theorem kind_int (v : Value) (w : World) : Calls Tryd.prog 12 #[.iface 3 v] w fun e w' => e = .returned (.int .i64 0) ∧ w' = w := by
  have q1 := is59_int
  have q2 := is66_int
  have q3 := is55_int
  go_enter Tryd.func12, Tryd.ntmps12
  go_wp2_with fail
  go_ret
  exact ⟨rfl, rfl⟩
set_option maxRecDepth 100000 in
theorem eqnil_yes (w : World) : (binOp .eql 20 .nilIface .nilIface).run Tryd.prog w = .ok (.bool true) w := by
  go_simp
set_option maxRecDepth 100000 in
theorem eqnil_no {a : Ask} (h : 1 ≤ a.kd ∧ a.kd ≤ 3) (av mv : Value) (w : World) : (binOp .eql 20 (a.dyn av mv) .nilIface).run Tryd.prog w = .ok (.bool false) w := by
  by_cases h1 : a.kd = 1
  · rw [dyn1 h1]; go_simp
  by_cases h2 : a.kd = 2
  · rw [dyn2 h2]; go_simp
  · rw [dyn3 (by omega)]; go_simp
theorem guard_no {a : Ask} (h : 1 ≤ a.kd ∧ a.kd ≤ 3) (av mv : Value) (x y : Operand) : eqGuard .eql 20 x y (a.dyn av mv) .nilIface = pure () := by
  by_cases h1 : a.kd = 1
  · rw [dyn1 h1]; rfl
  by_cases h2 : a.kd = 2
  · rw [dyn2 h2]; rfl
  · rw [dyn3 (by omega)]; rfl
theorem guard_yes (x : Operand) (v : Value) : eqGuard .eql 20 x (.const v) .nilIface .nilIface = pure () := by simp [eqGuard]
theorem keeps_asks (a : Ask) (e : Ent) : a.keeps H3.hasB (fun l e => l.all (keepsM e)) e = a.asks e := by
  unfold Ask.keeps Ask.asks
  rfl
theorem bs_of (b : ByteArray) : bs b.data.toList = b := by
  unfold bs
  exact Lib.mk_data b
/-- What region 11's conversion and Put leave. -/
def isB (B0 : Nat) (lb la : List UInt8) (j : Nat) (v : Value) (W : World) : Prop := match j with
  | 5 => By (fun q => B0 ≤ q) W v lb
  | _ => Bs 0 W v (lb ++ la)
theorem isB.below {B0 : Nat} {lb la : List UInt8} {j : Nat} {v : Value} {W W' : World} (h : isB B0 lb la j v W) (hb : Below W.heap.size W W') : isB B0 lb la j v W' := by
  unfold isB at h ⊢
  split at h
  · exact Rk.carry h hb.size fun q _ _ hlt => hb.block q hlt
  · exact h.below (Nat.le_refl _) hb
def isR (B0 : Nat) (i : Nat) (u1 u2 : World) : Prop := match i with
  | 7 => Below B0 u1 u2
  | _ => Below u1.heap.size u1 u2
theorem GV.const {cs : List (Option Value)} {S : List Nat} {sp : Nat → Value → World → Prop} {i j : Nat} {ys : Nat → Value} {v : Value} {w w' : World} (hij : i ≠ j) (hj : j ∉ S) (h : GV cs S sp j ys w) : GV cs S sp j (H3.upd ys i v) w' := by
  unfold GV at h ⊢
  rw [if_neg hj] at h ⊢
  intro u hu
  rw [H3.upd_other ys v (Ne.symm hij)]
  exact h u hu
/-- What Put of bytes leaves. -/
theorem put_by {w0 W : World} {sv av mv : Value} {lb : List UInt8} (a : Ask) (hb : Below w0.heap.size w0 W) (h1 : TextsAt w0 av a.all) (h2 : MsAt w0 mv a.mat) (hs : By (fun q => w0.heap.size ≤ q) W sv lb) (hl : lb.length ≤ 900) (hok : a.Ok) :
    Calls Tryd.prog 17 #[sv, a.dyn av mv] W fun e w' => ∃ u, e = .returned u ∧ Bs 0 w' u (lb ++ a.bytes) ∧ Below w0.heap.size W w' := by
  refine (put_any a hb h1 h2 hs (fun b hb => (hs.at hb).1) hl hok).mono ?_
  rintro e w' ⟨u, he, hu, hk⟩
  exact ⟨u, he, hu.bs, ⟨hk.os, hk.tape, hk.output, hk.size, fun k hlt => hk.block k (Nat.lt_of_lt_of_le hlt hb.size) (fun hat => by have := (hs.at hat).1; omega)⟩⟩

end Go.Proofs.YtaghogfkkmphoaaDoor.E4

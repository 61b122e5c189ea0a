/-
  STEPS OF REGIONS THAT DRAW THEIR ORDER: what is skipped; appends; stores into maps.
-/
import Derived.Test.YtfifjcjicipcmaaGreatDoorGv12
import Derived.Test.YtfifjcjicipcmaaGreatDoorNw13
namespace Go.Proofs.YtfifjcjicipcmaaGreatDoor.H3
open Go.RowKit Go

theorem step_skip {F : Fence} {n : Nat} {P : Program} {ops : Array Oper} {Q : Exit → Act → World → Prop} {o : Oper} {A : Act} {w : World} {K : Act → World → Prop} (h : ∃ j d b, o.guard = some (j, !b) ∧ (ops[j]?).bind (·.dst) = some d ∧ A.tmps.getD d undef = .bool b) (hk : K (A.put o.dst undef) w) :
    if Region.wanted o (yielded ops A.tmps) = true then o.wpIn F n P A w K Q else K (A.put o.dst undef) w := by
  have hwt : ¬ Region.wanted o (yielded ops A.tmps) = true := by
    obtain ⟨j, d, b, h, hd, hv⟩ := h
    unfold Region.wanted
    rw [h]
    unfold yielded
    simp only [hd, Option.bind_some]
    have e : A.tmps[d]? = some (.bool b) := by
      cases hx : A.tmps[d]? with
      | none => rw [Array.getD_eq_getD_getElem?, hx] at hv; cases hv
      | some y => rw [Array.getD_eq_getD_getElem?, hx] at hv; simpa using hv
    rw [e]
    cases b <;> simp
  rw [if_neg hwt]
  exact hk

end Go.Proofs.YtfifjcjicipcmaaGreatDoor.H3

namespace Go.Proofs.YtfifjcjicipcmaaGreatDoor.E4
open Go.RowKit Go

/-- append, as one operation inside a fence, by what it is known to run to. -/
theorem operIn_append13 {F : Fence} {nn : Nat} {P : Program} {o : Oper} {a : Act} {w w' : World} {K : Act → World → Prop} {Q : Exit → Act → World → Prop} {sv xv v' : Value} (s x : Operand) (t : TypeId)
    (ho : o.op = .call { callee := .builtin .append, args := #[s, x], argTypes := #[t, t] }) (hs : a.eval s = sv) (hx : a.eval x = xv) (hrun : (Builtin.append_ #[t, t] o.type #[sv, xv]).run P w = .ok v' w') (hK : K (a.put o.dst v') w') : o.wpIn F nn P a w K Q := by
  unfold Oper.wpIn
  refine ⟨?_, ?_⟩
  · simp [Oper.about, ho, resolve, Target.leads, Sem.run_pure]
  · rw [Oper.semAt_plain F _ _ (by rw [ho]; intro c hc'; cases hc')]
    simp [execOp, ho, resolve, invoke, builtin, hs, hx, hrun, Result.andThen]
    exact hK

/-- A store into a map, so. -/
theorem operIn_update13 {F : Fence} {nn : Nat} {P : Program} {o : Oper} {a : Act} {w w' : World} {K : Act → World → Prop} {Q : Exit → Act → World → Prop} {mv xv vv : Value} (m x v : Operand) (t : TypeId)
    (ho : o.op = Op.mapUpdate t m x v) (hm : a.eval m = mv) (hx : a.eval x = xv) (hv : a.eval v = vv) (hrun : (Instr.mapUpdate t mv xv vv).run P w = .ok () w') (hK : K (a.put o.dst undef) w') : o.wpIn F nn P a w K Q := by
  unfold Oper.wpIn
  refine ⟨?_, ?_⟩
  · simp [Oper.about, ho]
  · rw [Oper.semAt_plain F _ _ (by rw [ho]; intro c hc'; cases hc')]
    simp [execOp, ho, hm, hx, hv, hrun, Result.andThen]
    exact hK

theorem gvq_keep {cs : List (Option Value)} {S : List Nat} {sp : Nat → Value → World → Prop} {i j : Nat} {ys : Nat → Value} {v : Value} {w w' : World} (hS : j ∉ S) (hij : i ≠ j) (h : GV cs S sp j ys w) : GV cs S sp j (H3.upd ys i v) w' := by
  unfold GV at h ⊢
  rw [if_neg hS] at h ⊢
  intro u hu
  rw [H3.upd_other ys v (Ne.symm hij)]
  exact h u hu

/-- append at a row of numbers, then the store under a key: what holds in between. -/
structure PS (W0 : World) (pb m : Nat) (f : ByteArray → Option Value) (x : ByteArray) (v : Value) (n : Nat) (xs : List Value) (listed : Array Bool) (ys : Nat → Value) (W : World) : Prop where
  k : Keep (fun q => q = pb ∨ At v q) W0 W
  a : listed.getD 8 false = false → Lay W0 W
  b : listed.getD 8 false = true → Rk 1 (fun q => At v q ∨ W0.heap.size ≤ q) W (ys 8) n xs
  c : listed.getD 9 false = false → MapAt Tryz.prog 9 W pb m f
  d : listed.getD 9 false = true → MapAt Tryz.prog 9 W pb (m + 1) (fun t => if t = x then some (ys 8) else f t)

theorem PS.other {W0 W W' : World} {pb m n : Nat} {f : ByteArray → Option Value} {x : ByteArray} {v : Value} {xs : List Value} {listed : Array Bool} {ys : Nat → Value} (h : PS W0 pb m f x v n xs listed ys W) (hl : Lay W W') {i : Nat} (h8 : i ≠ 8) (h9 : i ≠ 9) (u : Value) :
    PS W0 pb m f x v n xs (listed.setIfInBounds i true) (H3.upd ys i u) W' := by
  have e8 : (listed.setIfInBounds i true).getD 8 false = listed.getD 8 false := getD_set_ne false h8
  have e9 : (listed.setIfInBounds i true).getD 9 false = listed.getD 9 false := getD_set_ne false h9
  have u8 : H3.upd ys i u 8 = ys 8 := H3.upd_other ys u (Ne.symm h8)
  refine ⟨Keep.trans h.k (hl.into fun _ _ h => h.elim), fun q => Keep.trans (h.a (e8 ▸ q)) hl, fun q => ?_, fun q => ?_, fun q => ?_⟩
  · rw [u8]; exact (h.b (e8 ▸ q)).lay hl
  · have := h.c (e9 ▸ q); exact this.carry (Lay.block hl this.lt)
  · rw [u8]; have := h.d (e9 ▸ q); exact this.carry (Lay.block hl this.lt)

/-- A row of one number, new. -/
def OneAt (n : Nat) (v : Value) (w : World) : Prop := ∃ g, v = .slice (some ⟨g, 0, none⟩) 1 1 ∧ g < w.heap.size ∧ w.cell? ⟨g, 0, none⟩ = some (.int .i64 (n : Int))
theorem OneAt.below {n : Nat} {v : Value} {w w' : World} (h : OneAt n v w) (hb : Below w.heap.size w w') : OneAt n v w' := by
  obtain ⟨g, h1, h2, h3⟩ := h
  exact ⟨g, h1, Nat.lt_of_lt_of_le h2 hb.size, (hb.cell (p := ⟨g, 0, none⟩) h2).trans h3⟩
theorem OneAt.new (n : Nat) (w : World) : OneAt n (.slice (some ⟨w.heap.size, 0, none⟩) 1 1) (w.alloc (.cells #[.int .i64 (n : Int)] 3)) :=
  ⟨w.heap.size, rfl, by simp, Bl.cell (Bl.new w 3 #[.int .i64 (n : Int)]) 0⟩
theorem OneAt.src {n : Nat} {v : Value} {w : World} (h : OneAt n v w) : Src Tryz.prog 1 96 v 1 [.int .i64 (n : Int)] w := by
  obtain ⟨g, rfl, _, h⟩ := h
  refine Src.ofSlice _ Tryz.underlying96 ⟨g, 0, none⟩ 1 1 [.int .i64 (n : Int)] rfl (fun j u hu => ?_) (fun u hu => by rw [List.mem_singleton] at hu; rw [hu]; rfl)
  cases j with
  | zero => rw [add_lit0]; rw [h]; simpa using hu
  | succ j => simp at hu

end Go.Proofs.YtfifjcjicipcmaaGreatDoor.E4

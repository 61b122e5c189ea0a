/-
  WHAT MAKING A FILTER LEAVES.
-/
import Derived.Test.YtjghomppmphkoaaGreatDoorCells4
import Derived.Deep.RegionLaw
namespace Go.Proofs.YtjghomppmphkoaaGreatDoor
open Go.RowKit Go

/-- append, as one step of a region that draws, by what it is known to run to. -/
theorem step_append_run {P : Program} {ops : Array Oper} {o : Oper} {a : Act} {w w' : World} {K : Act → World → Prop} {Q : Exit → Act → World → Prop} {E : Prop} {sv xv v' : Value}
    (hg : o.guard = none) (s x : Operand) (t : TypeId) (hop : o.op = Op.call { callee := Callee.builtin Builtin.append, args := #[s, x], argTypes := #[t, t] })
    (hs : a.eval s = sv) (hx : a.eval x = xv) (hrun : (Builtin.append_ #[t, t] o.type #[sv, xv]).run P w = .ok v' w') (hK : K (a.put o.dst v') w') :
    if Region.wanted o (yielded ops a.tmps) = true then Oper.wp P o a w K Q else E := by
  have hw : Region.wanted o (yielded ops a.tmps) = true := by simp [Region.wanted, hg]
  rw [if_pos hw]
  unfold Oper.wp
  simp [execOp, hop, resolve, invoke, builtin, hs, hx, hrun, Result.andThen]
  exact hK

/-- What Make leaves. -/
def MakeP (g : Nat) (v : Value) (l : List Int) (d p : Nat) (w : World) (e : Ending) (w' : World) : Prop :=
  ∃ kv, e = .returned ((Ft.make l d p).1.val kv) ∧ KsB (fun b => w.heap.size ≤ b) w' kv (Ft.make l d p).1 ∧ Srcs w' g v l (Ft.make l d p).2 ∧ Keep (fun k => k = g) w w'

/-- A filter with no kids, stored. -/
theorem made_leaf {g : Nat} {v : Value} {l : List Int} {d p : Nat} {w W : World} {o : Int} {n t : ByteArray} {q : Nat} (h0 : Srcs w g v l p) (h : Srcs W g v l q) (hk : Keep (fun k => k = g) w W) (hm : Ft.make l d p = (.mk o n t [], q)) :
    MakeP g v l d p w (.returned (.agg #[.int .i64 o, .string n, .string t, .slice none 0 0])) (stored W w.heap.size (.int .i64 o) (.string n) (.string t) (.slice none 0 0)) := by
  unfold MakeP
  rw [hm]
  exact ⟨.slice none 0 0, rfl, KsB.nil _ _ _ _ _, h0.stored h (Nat.le_refl _) _ _ _ _, keep_stored hk (Nat.le_refl _) _ _ _ _⟩

/-- A filter with kids, stored. -/
theorem made_kids {g : Nat} {v : Value} {l : List Int} {d p : Nat} {w W : World} {o : Int} {kv : Value} {R : List (Value × Ft)} {q : Nat} (h0 : Srcs w g v l p) (h : Srcs W g v l q) (hk : Keep (fun k => k = g) w W)
    (hrk : Rk 4 (fun b => w.heap.size + 1 ≤ b) W kv R.length (flatK R)) (hkb : ∀ p ∈ R, KsB (fun b => w.heap.size + 1 ≤ b) W p.1 p.2) (hl : R.length ≤ 1000) (hm : Ft.make l d p = (.mk o ⟨#[]⟩ ⟨#[]⟩ (R.map (·.2)), q)) :
    MakeP g v l d p w (.returned (.agg #[.int .i64 o, .string ⟨#[]⟩, .string ⟨#[]⟩, kv])) (stored W w.heap.size (.int .i64 o) (.string ⟨#[]⟩) (.string ⟨#[]⟩) kv) := by
  unfold MakeP
  rw [hm]
  have hoth : ∀ b, w.heap.size + 1 ≤ b → (stored W w.heap.size (.int .i64 o) (.string ⟨#[]⟩) (.string ⟨#[]⟩) kv).heap[b]? = W.heap[b]? := fun b hb => stored_other (by omega) _ _ _ _
  have hs : W.heap.size ≤ (stored W w.heap.size (.int .i64 o) (.string ⟨#[]⟩) (.string ⟨#[]⟩) kv).heap.size := Nat.le_of_eq (stored_size _ _ _ _).symm
  refine ⟨kv, rfl, ?_, h0.stored h (Nat.le_refl _) _ _ _ _, keep_stored hk (Nat.le_refl _) _ _ _ _⟩
  exact KsB.mono (fun b _ hb => Nat.le_of_succ_le hb) _ _ (KsB.of_rk (fun b hb => hb) (hrk.carry hs fun b hb _ _ => hoth b hb) (fun p hp => KsB.keep hs (fun b hb _ => hoth b hb) _ _ (hkb p hp)) hl o _ _)

end Go.Proofs.YtjghomppmphkoaaGreatDoor

/-
  THE DOCUMENT'S OWN Query: its blocks, its matchers.
-/
import Derived.Test.YtidjodplimkmgaaQyA
import Derived.Test.YtidjodplimkmgaaFlow6
import Derived.Test.YtidjodplimkmgaaMakeW6
import Derived.OwnWalkIn
import Derived.TacticsInMore
import Derived.LoopNIn
import Derived.LoopIn
import Derived.RangeFuncLeaves
import Derived.RangeFuncCalls
namespace Go.Proofs.Ytidjodplimkmgaa
open Go.RowKit Go

theorem wide_fn (f : FuncId) : Fence.wide.fn f = True := rfl
theorem wide_depth : Fence.wide.depth = none := rfl
theorem IntsAt.lay {w w' : World} {v : Value} {l : List Int} (h : IntsAt w v l) (hl : Lay w w') : IntsAt w' v l := h.keep hl fun _ _ _ _ _ h => h

theorem Keep.after {G H : Nat → Prop} {A W W' : World} (hG : ∀ k, G k → H k ∨ A.heap.size ≤ k) (hK : Keep H A W) (hk : Keep G W W') : Keep H A W' :=
  ⟨hk.os.trans hK.os, hk.tape.trans hK.tape, hk.output.trans hK.output, Nat.le_trans hK.size hk.size, Nat.le_trans hK.drawn hk.drawn, fun k hk' hn =>
    (hk.block k (Nat.lt_of_lt_of_le hk' hK.size) (fun hg => (hG k hg).elim hn (fun h => by omega))).trans (hK.block k hk' hn)⟩
theorem KsB.shape {G : Nat → Prop} {w : World} {kv : Value} {f : Ft} (h : KsB G w kv f) : ∃ a c, kv = .slice a f.kids.length c := (KsB.at _ _ h).shape

/-- A block of such cells. -/
def CB (W : World) (B : Nat) (t : TypeId) (arr : Array Value) : Prop := W.heap[B]? = some (.cells arr t (0, 0))
theorem CB.lt {W : World} {B : Nat} {t : TypeId} {arr : Array Value} (h : CB W B t arr) : B < W.heap.size := (Array.getElem?_eq_some_iff.1 h).1
theorem CB.cell {W : World} {B : Nat} {t : TypeId} {arr : Array Value} (h : CB W B t arr) (i : Nat) : W.cell? ⟨B, i, none⟩ = arr[i]? := by simp [World.cell?, show W.heap[B]? = _ from h]
theorem CB.frozen {W : World} {B : Nat} {t : TypeId} {arr : Array Value} (h : CB W B t arr) (i : Nat) : W.frozen? ⟨B, i, none⟩ = false := by simp [World.frozen?, show W.heap[B]? = _ from h]
theorem CB.new (W : World) (t : TypeId) (arr : Array Value) : CB (W.alloc (.cells arr t)) W.heap.size t arr := World.alloc_heap_new W _
theorem CB.keep {G : Nat → Prop} {W W' : World} {B : Nat} {t : TypeId} {arr : Array Value} (h : CB W B t arr) (hk : Keep G W W') (hn : ¬ G B) : CB W' B t arr := (hk.block B h.lt hn).trans h
theorem CB.set {W : World} {B : Nat} {t : TypeId} {arr : Array Value} (h : CB W B t arr) (i : Nat) (u : Value) : CB (W.setCell ⟨B, i, none⟩ u) B t (arr.setIfInBounds i u) := by
  obtain ⟨hlt, hk⟩ := Array.getElem?_eq_some_iff.1 h
  show (W.heap.modify B _)[B]? = _
  rw [Array.getElem?_eq_getElem (by rw [Array.size_modify]; exact hlt), Array.getElem_modify_self, hk]
  rfl

/-- A source that is new. -/
theorem srcs_new {w w0 : World} {v : Value} {l : List Int} (h : IntsAt w v l) (hl : Lay w w0) (hs : w.heap.size < w0.heap.size) : Srcs (w0.alloc (.cells #[v, .int .i64 0] 47)) w0.heap.size v l 0 := by
  have hl2 : Lay w (w0.alloc (.cells #[v, .int .i64 0] 47)) := hl.alloc _
  refine ⟨by simp, World.cell?_alloc_new w0 #[v, .int .i64 0] 47 0, World.cell?_alloc_new w0 #[v, .int .i64 0] 47 1, World.frozen?_alloc_new w0 #[v, .int .i64 0] 47 1, h.lay hl2, fun h0 b off n c hv => ?_, Nat.zero_le _⟩
  obtain ⟨a, cap, hv', _, hn | ⟨b', off', ha, hlt, _⟩⟩ := h
  · exact absurd hn h0
  · rw [hv', ha] at hv
    cases hv
    omega

namespace Qy
theorem mats_snoc (l : List Int) : ∀ (k p : Nat), mats l (k + 1) p = ((mats l k p).1 ++ [(mat1 l (mats l k p).2).1], (mat1 l (mats l k p).2).2)
  | 0, p => rfl
  | k + 1, p => by
    rw [mats, mats_snoc l k (mat1 l p).2]
    rfl
end Qy

/-- Ten cells, stored. -/
def ten (W : World) (R : Nat) (v0 v1 v2 v3 v4 v5 v6 v7 v8 v9 : Value) : World := ((((((((((W.setCell ⟨R, 0, none⟩ v0).setCell ⟨R, 1, none⟩ v1).setCell ⟨R, 2, none⟩ v2).setCell ⟨R, 3, none⟩ v3).setCell ⟨R, 4, none⟩ v4).setCell ⟨R, 5, none⟩ v5).setCell ⟨R, 6, none⟩ v6).setCell ⟨R, 7, none⟩ v7).setCell ⟨R, 8, none⟩ v8).setCell ⟨R, 9, none⟩ v9)
theorem ten_cb {W : World} {R : Nat} {t : TypeId} {a0 a1 a2 a3 a4 a5 a6 a7 a8 a9 : Value} (h : CB W R t #[a0, a1, a2, a3, a4, a5, a6, a7, a8, a9]) (v0 v1 v2 v3 v4 v5 v6 v7 v8 v9 : Value) : CB (ten W R v0 v1 v2 v3 v4 v5 v6 v7 v8 v9) R t #[v0, v1, v2, v3, v4, v5, v6, v7, v8, v9] := by
  have h0 : CB _ R t #[v0, a1, a2, a3, a4, a5, a6, a7, a8, a9] := h.set 0 v0
  have h1 : CB _ R t #[v0, v1, a2, a3, a4, a5, a6, a7, a8, a9] := h0.set 1 v1
  have h2 : CB _ R t #[v0, v1, v2, a3, a4, a5, a6, a7, a8, a9] := h1.set 2 v2
  have h3 : CB _ R t #[v0, v1, v2, v3, a4, a5, a6, a7, a8, a9] := h2.set 3 v3
  have h4 : CB _ R t #[v0, v1, v2, v3, v4, a5, a6, a7, a8, a9] := h3.set 4 v4
  have h5 : CB _ R t #[v0, v1, v2, v3, v4, v5, a6, a7, a8, a9] := h4.set 5 v5
  have h6 : CB _ R t #[v0, v1, v2, v3, v4, v5, v6, a7, a8, a9] := h5.set 6 v6
  have h7 : CB _ R t #[v0, v1, v2, v3, v4, v5, v6, v7, a8, a9] := h6.set 7 v7
  have h8 : CB _ R t #[v0, v1, v2, v3, v4, v5, v6, v7, v8, a9] := h7.set 8 v8
  have h9 : CB _ R t #[v0, v1, v2, v3, v4, v5, v6, v7, v8, v9] := h8.set 9 v9
  exact h9
theorem ten_keep (W : World) (R : Nat) (v0 v1 v2 v3 v4 v5 v6 v7 v8 v9 : Value) : Keep (fun k => k = R) W (ten W R v0 v1 v2 v3 v4 v5 v6 v7 v8 v9) := (((((((((((Keep.refl (fun k => k = R) W).setCell (p := ⟨R, 0, none⟩) (.inr rfl) v0).setCell (p := ⟨R, 1, none⟩) (.inr rfl) v1).setCell (p := ⟨R, 2, none⟩) (.inr rfl) v2).setCell (p := ⟨R, 3, none⟩) (.inr rfl) v3).setCell (p := ⟨R, 4, none⟩) (.inr rfl) v4).setCell (p := ⟨R, 5, none⟩) (.inr rfl) v5).setCell (p := ⟨R, 6, none⟩) (.inr rfl) v6).setCell (p := ⟨R, 7, none⟩) (.inr rfl) v7).setCell (p := ⟨R, 8, none⟩) (.inr rfl) v8).setCell (p := ⟨R, 9, none⟩) (.inr rfl) v9)

/-! ### One matcher more -/

/-- What holds all the time, while one matcher is drawn and put behind the others: by which operations are over (4, 8, 12 draw a number, 17 appends, 19 stores). -/
structure QI (g Q B0 : Nat) (v : Value) (l : List Int) (p p1 p2 p3 n : Nat) (mv : Value) (pre : List Mt) (m : Mt) (W0 : World) (listed : Array Bool) (ys : Nat → Value) (w : World) : Prop where
  s0 : listed.getD 4 false = false → Srcs w g v l p
  s1 : listed.getD 4 false = true → listed.getD 8 false = false → Srcs w g v l p1
  s2 : listed.getD 8 false = true → listed.getD 12 false = false → Srcs w g v l p2
  s3 : listed.getD 12 false = true → Srcs w g v l p3
  k : listed.getD 17 false = false → Keep (fun k => k = g) W0 w
  a : listed.getD 17 false = true → listed.getD 19 false = false → Rk 3 (fun b => B0 ≤ b ∧ b ≠ Q) w (ys 17) (n + 1) (flatM (pre ++ [m])) ∧ Keep (fun k => k = g ∨ At mv k) W0 w
  f : listed.getD 19 false = true → ∃ v' w1, Rk 3 (fun b => B0 ≤ b ∧ b ≠ Q) w1 v' (n + 1) (flatM (pre ++ [m])) ∧ Keep (fun k => k = g ∨ At mv k) W0 w1 ∧ Srcs w1 g v l p3 ∧ w = w1.setCell ⟨Q, 2, none⟩ v'

theorem getD_set_eq {a : Array Bool} {i : Nat} (h : i < a.size) : (a.setIfInBounds i true).getD i false = true := by simp [Array.getD, h]

section
variable {g Q B0 : Nat} {v : Value} {l : List Int} {p p1 p2 p3 n : Nat} {mv : Value} {pre : List Mt} {m : Mt} {W0 : World} {listed : Array Bool} {ys : Nat → Value} {w : World}

/-- An operation that turns nothing that was there. -/
theorem QI.lay (h : QI g Q B0 v l p p1 p2 p3 n mv pre m W0 listed ys w) {i : Nat} (hi : i ≠ 4 ∧ i ≠ 8 ∧ i ≠ 12 ∧ i ≠ 17 ∧ i ≠ 19) (u : Value) {w' : World} (hl : Lay w w') (h19 : w = w' ∨ listed.getD 19 false = false) : QI g Q B0 v l p p1 p2 p3 n mv pre m W0 (listed.setIfInBounds i true) (upd ys i u) w' := by
  obtain ⟨i4, i8, i12, i17, i19⟩ := hi
  refine ⟨?_, ?_, ?_, ?_, ?_, ?_, ?_⟩
  · rw [getD_set_ne false i4]; exact fun a => (h.s0 a).lay hl
  · rw [getD_set_ne false i4, getD_set_ne false i8]; exact fun a b => (h.s1 a b).lay hl
  · rw [getD_set_ne false i8, getD_set_ne false i12]; exact fun a b => (h.s2 a b).lay hl
  · rw [getD_set_ne false i12]; exact fun a => (h.s3 a).lay hl
  · rw [getD_set_ne false i17]; exact fun a => (h.k a).trans hl.keep
  · rw [getD_set_ne false i17, getD_set_ne false i19, upd_other ys u (Ne.symm i17)]
    exact fun a b => ⟨(h.a a b).1.lay hl, (h.a a b).2.trans hl.keep⟩
  · rw [getD_set_ne false i19]
    intro a
    rcases h19 with rfl | h19
    · exact h.f a
    · rw [h19] at a; cases a

theorem QI.pure (h : QI g Q B0 v l p p1 p2 p3 n mv pre m W0 listed ys w) {i : Nat} (hi : i ≠ 4 ∧ i ≠ 8 ∧ i ≠ 12 ∧ i ≠ 17 ∧ i ≠ 19) (u : Value) : QI g Q B0 v l p p1 p2 p3 n mv pre m W0 (listed.setIfInBounds i true) (upd ys i u) w :=
  h.lay hi u (Keep.refl _ _) (.inl rfl)

theorem QI.call1 (h : QI g Q B0 v l p p1 p2 p3 n mv pre m W0 listed ys w) (hsz : 19 < listed.size) (h8 : listed.getD 8 false = false) (h12 : listed.getD 12 false = false) (h17 : listed.getD 17 false = false) (h19 : listed.getD 19 false = false) (u : Value) {w' : World} (hs : Srcs w' g v l p1) (hk : Keep (fun k => k = g) w w') :
    QI g Q B0 v l p p1 p2 p3 n mv pre m W0 (listed.setIfInBounds 4 true) (upd ys 4 u) w' := by
  refine ⟨?_, ?_, ?_, ?_, ?_, ?_, ?_⟩
  · rw [getD_set_eq (by omega)]; exact fun a => (by cases a)
  · exact fun _ _ => hs
  · rw [getD_set_ne false (by decide), h8]; exact fun a => (by cases a)
  · rw [getD_set_ne false (by decide), h12]; exact fun a => (by cases a)
  · exact fun _ => (h.k h17).trans hk
  · rw [getD_set_ne false (by decide), h17]; exact fun a => (by cases a)
  · rw [getD_set_ne false (by decide), h19]; exact fun a => (by cases a)

theorem QI.call2 (h : QI g Q B0 v l p p1 p2 p3 n mv pre m W0 listed ys w) (hsz : 19 < listed.size) (h4 : listed.getD 4 false = true) (h12 : listed.getD 12 false = false) (h17 : listed.getD 17 false = false) (h19 : listed.getD 19 false = false) (u : Value) {w' : World} (hs : Srcs w' g v l p2) (hk : Keep (fun k => k = g) w w') :
    QI g Q B0 v l p p1 p2 p3 n mv pre m W0 (listed.setIfInBounds 8 true) (upd ys 8 u) w' := by
  refine ⟨?_, ?_, ?_, ?_, ?_, ?_, ?_⟩
  · rw [getD_set_ne false (by decide), h4]; exact fun a => (by cases a)
  · rw [getD_set_eq (i := 8) (by omega)]; exact fun _ a => (by cases a)
  · exact fun _ _ => hs
  · rw [getD_set_ne false (by decide), h12]; exact fun a => (by cases a)
  · exact fun _ => (h.k h17).trans hk
  · rw [getD_set_ne false (by decide), h17]; exact fun a => (by cases a)
  · rw [getD_set_ne false (by decide), h19]; exact fun a => (by cases a)

theorem QI.call3 (h : QI g Q B0 v l p p1 p2 p3 n mv pre m W0 listed ys w) (hsz : 19 < listed.size) (h4 : listed.getD 4 false = true) (h8 : listed.getD 8 false = true) (h17 : listed.getD 17 false = false) (h19 : listed.getD 19 false = false) (u : Value) {w' : World} (hs : Srcs w' g v l p3) (hk : Keep (fun k => k = g) w w') :
    QI g Q B0 v l p p1 p2 p3 n mv pre m W0 (listed.setIfInBounds 12 true) (upd ys 12 u) w' := by
  refine ⟨?_, ?_, ?_, ?_, ?_, ?_, ?_⟩
  · rw [getD_set_ne false (by decide), h4]; exact fun a => (by cases a)
  · rw [getD_set_ne false (by decide), getD_set_ne false (by decide), h8]; exact fun _ a => (by cases a)
  · rw [getD_set_eq (i := 12) (by omega)]; exact fun _ a => (by cases a)
  · exact fun _ => hs
  · exact fun _ => (h.k h17).trans hk
  · rw [getD_set_ne false (by decide), h17]; exact fun a => (by cases a)
  · rw [getD_set_ne false (by decide), h19]; exact fun a => (by cases a)

theorem QI.app (h : QI g Q B0 v l p p1 p2 p3 n mv pre m W0 listed ys w) (hsz : 19 < listed.size) (h4 : listed.getD 4 false = true) (h8 : listed.getD 8 false = true) (h12 : listed.getD 12 false = true) (h17 : listed.getD 17 false = false) (h19 : listed.getD 19 false = false) (u : Value) {w' : World} (hs : Srcs w' g v l p3) (hr : Rk 3 (fun b => B0 ≤ b ∧ b ≠ Q) w' u (n + 1) (flatM (pre ++ [m]))) (hk : Keep (At mv) w w') :
    QI g Q B0 v l p p1 p2 p3 n mv pre m W0 (listed.setIfInBounds 17 true) (upd ys 17 u) w' := by
  refine ⟨?_, ?_, ?_, ?_, ?_, ?_, ?_⟩
  · rw [getD_set_ne false (by decide), h4]; exact fun a => (by cases a)
  · rw [getD_set_ne false (by decide), getD_set_ne false (by decide), h8]; exact fun _ a => (by cases a)
  · rw [getD_set_ne false (by decide), getD_set_ne false (by decide), h12]; exact fun _ a => (by cases a)
  · exact fun _ => hs
  · rw [getD_set_eq (i := 17) (by omega)]; exact fun a => (by cases a)
  · rw [upd_same]; exact fun _ _ => ⟨hr, ((h.k h17).into fun k _ h => .inl h).trans (hk.into fun k _ h => .inr h)⟩
  · rw [getD_set_ne false (by decide), h19]; exact fun a => (by cases a)

theorem QI.store (h : QI g Q B0 v l p p1 p2 p3 n mv pre m W0 listed ys w) (hsz : 19 < listed.size) (h4 : listed.getD 4 false = true) (h8 : listed.getD 8 false = true) (h12 : listed.getD 12 false = true) (h17 : listed.getD 17 false = true) (h19 : listed.getD 19 false = false) (u : Value) (hs : Srcs (w.setCell ⟨Q, 2, none⟩ (ys 17)) g v l p3) :
    QI g Q B0 v l p p1 p2 p3 n mv pre m W0 (listed.setIfInBounds 19 true) (upd ys 19 u) (w.setCell ⟨Q, 2, none⟩ (ys 17)) := by
  refine ⟨?_, ?_, ?_, ?_, ?_, ?_, ?_⟩
  · rw [getD_set_ne false (by decide), h4]; exact fun a => (by cases a)
  · rw [getD_set_ne false (by decide), getD_set_ne false (by decide), h8]; exact fun _ a => (by cases a)
  · rw [getD_set_ne false (by decide), getD_set_ne false (by decide), h12]; exact fun _ a => (by cases a)
  · exact fun _ => hs
  · rw [getD_set_ne false (by decide), h17]; exact fun a => (by cases a)
  · rw [getD_set_eq (i := 19) (by omega)]; exact fun _ a => (by cases a)
  · exact fun _ => ⟨ys 17, w, (h.a h17 h19).1, (h.a h17 h19).2, h.s3 h12, rfl⟩
end

/-- append, as one operation inside a fence, by what it is known to run to. -/
theorem operIn_append {F : Fence} {nn : Nat} {P : Program} {o : Oper} {a : Act} {w w' : World} {K : Act → World → Prop} {Q : Exit → Act → World → Prop} {sv xv v' : Value} (s x : Operand) (t : TypeId)
    (ho : o.op = .call { callee := .builtin .append, args := #[s, x], argTypes := #[t, t] }) (hs : a.eval s = sv) (hx : a.eval x = xv) (hrun : (Builtin.append_ #[t, t] o.type #[sv, xv]).run P w = .ok v' w') (hK : K (a.put o.dst v') w') : o.wpIn F nn P a w K Q := by
  unfold Oper.wpIn
  refine ⟨?_, ?_⟩
  · simp [Oper.about, ho, resolve, Target.leads, Sem.run_pure]
  · rw [Oper.semAt_plain F _ _ (by rw [ho]; intro c hc'; cases hc')]
    simp [execOp, ho, resolve, invoke, builtin, hs, hx, hrun, Result.andThen]
    exact hK

/-- A row of texts that was written out. -/
def Lits (B0 : Nat) (L : List ByteArray) (x : Value) (w : World) : Prop := ∃ b, x = .slice (some ⟨b, 0, none⟩) L.length L.length ∧ B0 ≤ b ∧ b < w.heap.size ∧ ∀ i (h : i < L.length), w.cell? ⟨b, i, none⟩ = some (.string L[i])
/-- One of them. -/
def LitAt (B0 : Nat) (s : ByteArray) (x : Value) (w : World) : Prop := ∃ b i, x = .pointer (some ⟨b, i, none⟩) ∧ B0 ≤ b ∧ b < w.heap.size ∧ w.cell? ⟨b, i, none⟩ = some (.string s)

theorem Lits.keep {B0 : Nat} {L : List ByteArray} {x : Value} {w w' : World} (h : Lits B0 L x w) (hk : Keep (fun k => k < B0) w w') : Lits B0 L x w' := by
  obtain ⟨b, hx, h1, h2, h3⟩ := h
  exact ⟨b, hx, h1, Nat.lt_of_lt_of_le h2 hk.size, fun i hi => (World.cell?_of_block (a := ⟨b, i, none⟩) (hk.block b h2 (by omega))).trans (h3 i hi)⟩
theorem LitAt.keep {B0 : Nat} {s : ByteArray} {x : Value} {w w' : World} (h : LitAt B0 s x w) (hk : Keep (fun k => k < B0) w w') : LitAt B0 s x w' := by
  obtain ⟨b, i, hx, h1, h2, h3⟩ := h
  exact ⟨b, i, hx, h1, Nat.lt_of_lt_of_le h2 hk.size, (World.cell?_of_block (a := ⟨b, i, none⟩) (hk.block b h2 (by omega))).trans h3⟩
theorem Lits.new (w : World) (B0 : Nat) (hB : B0 ≤ w.heap.size) (L : List ByteArray) (t : TypeId) : Lits B0 L (.slice (some ⟨w.heap.size, 0, none⟩) L.length L.length) (w.alloc (.cells (L.map Value.string).toArray t)) := by
  refine ⟨w.heap.size, rfl, hB, by simp, fun i hi => ?_⟩
  rw [World.cell?_alloc_new, List.getElem?_toArray, List.getElem?_map, List.getElem?_eq_getElem hi]
  rfl

/-- What the operations of 'q.Match = append(q.Match, ..)' leave. -/
def MV (g Q B0 : Nat) (mv : Value) (a b c : Nat) (m : Mt) : Nat → (Nat → Value) → World → Prop
  | 0, ys, _ => ys 0 = .pointer (some ⟨Q, 2, none⟩)
  | 1, ys, _ => ys 1 = mv
  | 2, ys, w => Lits B0 Qy.keys (ys 2) w
  | 3, ys, _ => ys 3 = .pointer (some ⟨g, 0, none⟩)
  | 4, ys, _ => ys 4 = .int .i64 (a : Nat)
  | 5, ys, w => LitAt B0 m.name (ys 5) w
  | 6, ys, _ => ys 6 = .string m.name
  | 7, ys, _ => ys 7 = .pointer (some ⟨g, 0, none⟩)
  | 8, ys, _ => ys 8 = .int .i64 (b : Nat)
  | 9, ys, _ => ys 9 = .bool m.not
  | 10, ys, w => Lits B0 Qy.vals (ys 10) w
  | 11, ys, _ => ys 11 = .pointer (some ⟨g, 0, none⟩)
  | 12, ys, _ => ys 12 = .int .i64 (c : Nat)
  | 13, ys, w => LitAt B0 m.value (ys 13) w
  | 14, ys, _ => ys 14 = .string m.value
  | 15, ys, _ => ys 15 = m.val
  | 16, ys, w => Rk 3 (fun k => B0 ≤ k) w (ys 16) 1 (flatM [m])
  | 18, ys, _ => ys 18 = .pointer (some ⟨Q, 2, none⟩)
  | _, _, _ => True

end Go.Proofs.Ytidjodplimkmgaa

/-
  WHAT THE OPERATIONS LEAVE that put an entry to rows, and to an answer.
-/
import Derived.Test.YtidjodplimkmgaaDoorAr11
import Derived.Test.YtidjodplimkmgaaDoorAw11
import Derived.Test.YtidjodplimkmgaaDoorEr
import Derived.Test.YtidjodplimkmgaaDoorMq11
import Derived.Test.YtidjodplimkmgaaDoorPg11
import Derived.Test.YtidjodplimkmgaaDoorOi7
namespace Go.Proofs.YtidjodplimkmgaaDoor.E4
open Go.RowKit Go
open Go.Sort (grow)

theorem info23 : (Tryd.prog.info? 39).map (fun i => (i.zero, i.size, i.bytes)) = some (some (.slice none 0 0), 1, 24) := by kernel_rfl
theorem elem23 : ∃ i z, Elem Tryd.prog 23 39 i z 1 24 := by
  obtain ⟨i, hi, hz, hs, hb⟩ := info_parts info23
  exact ⟨i, _, Tryd.underlying23, hi, hz, hs, hb, by kernel_rfl⟩

/-- A builtin append, as an operation. -/
theorem oper_append {P : Program} {o : Oper} {a : Act} {w w' : World} {K : Act → World → Prop} {Q : Exit → Act → World → Prop} {sv xv v' : Value} (s x : Operand) (t : TypeId) (hop : o.op = Op.call { callee := Callee.builtin Builtin.append, args := #[s, x], argTypes := #[t, t] })
    (hs : a.eval s = sv) (hx : a.eval x = xv) (hrun : (Builtin.append_ #[t, t] o.type #[sv, xv]).run P w = .ok v' w') (hK : K (a.put o.dst v') w') : Oper.wp P o a w K Q := by
  unfold Oper.wp
  simp [execOp, hop, resolve, invoke, builtin, hs, hx, hrun, Result.andThen]
  exact hK

/-- Rows that lie below B, one by one. -/
def RowsB (B : Nat) (w : World) (xs : List Value) (rows : List (List Ent)) : Prop := xs.length = rows.length ∧ ∀ i (h : i < rows.length), ∃ u, xs[i]? = some u ∧ EntsAt (fun b => b < B) (fun b => b < B) w u rows[i]

theorem RowsB.below {B : Nat} {w w' : World} {xs : List Value} {rows : List (List Ent)} (h : RowsB B w xs rows) (hs : w.heap.size ≤ w'.heap.size) (hb : ∀ b, b < B → b < w.heap.size → w'.heap[b]? = w.heap[b]?) : RowsB B w' xs rows :=
  ⟨h.1, fun i hi => by obtain ⟨u, h1, h2⟩ := h.2 i hi; exact ⟨u, h1, h2.carry hs fun b hg hlt => hb b (hg.elim id id) hlt⟩⟩

theorem EntsAt.slice {G L : Nat → Prop} {w : World} {v : Value} {es : List Ent} (h : EntsAt G L w v es) : ∃ a c, v = .slice a es.length c := by
  obtain ⟨a, c, hv, _⟩ := h
  exact ⟨a, c, hv⟩
theorem EntsAt.upto {w : World} {v : Value} {es : List Ent} (h : EntsAt (fun _ => True) (fun _ => True) w v es) : EntsAt (fun b => b < w.heap.size) (fun b => b < w.heap.size) w v es := h.mono (fun _ _ h => h) (fun _ _ h => h)

theorem RowsAt.rowsB {w : World} {rv : Value} {rows : List (List Ent)} (h : RowsAt w rv rows) : ∃ xs, RowsB w.heap.size w xs rows ∧ ∀ W, Below w.heap.size w W → Src Tryd.prog 1 23 rv rows.length xs W := by
  obtain ⟨a, c, rfl, _, h0 | ⟨b, off, rfl, hb, hc⟩⟩ := h
  · subst h0
    refine ⟨[], ⟨rfl, fun i hi => by simp at hi⟩, fun W _ => ?_⟩
    cases a with
    | none => exact Src.ofNil _ Tryd.underlying23 c
    | some p => exact Src.ofSlice _ Tryd.underlying23 p 0 c [] rfl (fun j u hu => by simp at hu) (fun u hu => by simp at hu)
  · obtain ⟨xs, hl, hx⟩ := YtidjodplimkmgaaDoor.list_of (.int .i64 0 : Value) (fun i u => w.cell? ⟨b, off + i, none⟩ = some u ∧ ∃ es, rows[i]? = some es ∧ EntsAt (fun _ => True) (fun _ => True) w u es) rows.length (fun i hi => by
      obtain ⟨u, h1, h2⟩ := hc i hi
      exact ⟨u, h1, rows[i], List.getElem?_eq_getElem hi, h2⟩)
    have hge : ∀ i (hi : i < rows.length), ∃ u, xs[i]? = some u ∧ w.cell? ⟨b, off + i, none⟩ = some u ∧ EntsAt (fun _ => True) (fun _ => True) w u rows[i] := fun i hi => by
      obtain ⟨h1, es, h2, h3⟩ := hx i (by omega)
      rw [List.getElem?_eq_getElem hi] at h2
      obtain rfl := Option.some.inj h2
      exact ⟨_, List.getElem?_eq_getElem (by omega), h1, h3⟩
    refine ⟨xs, ⟨hl, fun i hi => by obtain ⟨u, h1, _, h3⟩ := hge i hi; exact ⟨u, h1, h3.upto⟩⟩, fun W hW => ?_⟩
    refine Src.ofSlice _ Tryd.underlying23 ⟨b, off, none⟩ rows.length c xs (by omega) (fun j u hu => ?_) (fun u hu => ?_)
    · have hj : j < xs.length := (List.getElem?_eq_some_iff.1 hu).1
      obtain ⟨u', h1, h2, _⟩ := hge j (by omega)
      rw [h1] at hu
      obtain rfl := Option.some.inj hu
      rw [YtidjodplimkmgaaDoor.add_lit]
      exact (hW.cell hb).trans h2
    · obtain ⟨j, hj, rfl⟩ := List.getElem_of_mem hu
      obtain ⟨u', h1, _, h3⟩ := hge j (by omega)
      rw [List.getElem?_eq_getElem hj] at h1
      obtain rfl := Option.some.inj h1
      obtain ⟨a', c', hv⟩ := h3.slice
      rw [hv]
      rfl

/-- A row of one entry, in a block of its own. -/
def One (s0 : Nat) (w : World) (g : Nat) (e : Ent) (lv : Value) : Prop := s0 ≤ g ∧ g < w.heap.size ∧ w.cell? ⟨g, 0, none⟩ = some (.int .i64 e.tm) ∧ w.cell? ⟨g, 1, none⟩ = some lv ∧ w.cell? ⟨g, 2, none⟩ = some (.string e.line) ∧ LabsAt (fun b => b < s0) w lv e.labs

theorem One.carry {s0 : Nat} {w w' : World} {g : Nat} {e : Ent} {lv : Value} (h : One s0 w g e lv) (hs : w.heap.size ≤ w'.heap.size) (hb : ∀ b, b < s0 ∨ b = g → b < w.heap.size → w'.heap[b]? = w.heap[b]?) : One s0 w' g e lv := by
  obtain ⟨h0, h1, h2, h3, h4, h5⟩ := h
  have hg := hb g (.inr rfl) h1
  exact ⟨h0, Nat.lt_of_lt_of_le h1 hs, (World.cell?_of_block (a := ⟨g, 0, none⟩) hg).trans h2, (World.cell?_of_block (a := ⟨g, 1, none⟩) hg).trans h3, (World.cell?_of_block (a := ⟨g, 2, none⟩) hg).trans h4, h5.carry hs fun b hb' hlt => hb b (.inl hb') hlt⟩
theorem One.ents {s0 : Nat} {w : World} {g : Nat} {e : Ent} {lv : Value} (h : One s0 w g e lv) : EntsAt (fun _ => True) (fun _ => True) w (.slice (some ⟨g, 0, none⟩) 1 1) [e] := by
  obtain ⟨_, h1, h2, h3, h4, h5⟩ := h
  refine ⟨_, 1, rfl, by simp, .inr ⟨g, 0, rfl, trivial, h1, fun i hi => ?_⟩⟩
  obtain rfl : i = 0 := by simpa using hi
  exact ⟨lv, by simpa using h2, by simpa using h3, by simpa using h4, h5.mono fun _ _ _ => trivial⟩
theorem One.src {s0 : Nat} {w : World} {g : Nat} {e : Ent} {lv : Value} (h : One s0 w g e lv) : Src Tryd.prog 3 39 (.slice (some ⟨g, 0, none⟩) 1 1) 1 (flatR [(lv, e)]) w := by
  obtain ⟨_, h1, h2, h3, h4, h5⟩ := h
  refine Src.ofSlice _ Tryd.underlying39 ⟨g, 0, none⟩ 1 1 (flatR [(lv, e)]) rfl (fun j u hu => ?_) (fun u hu => ?_)
  · have hj : j < 3 := by have := (List.getElem?_eq_some_iff.1 hu).1; simpa [flatR, rawC] using this
    rw [YtidjodplimkmgaaDoor.add_lit, Nat.zero_add]
    match j, hj with
    | 0, _ => rw [h2]; simpa [flatR, rawC] using hu
    | 1, _ => rw [h3]; simpa [flatR, rawC] using hu
    | 2, _ => rw [h4]; simpa [flatR, rawC] using hu
  · simp only [flatR, rawC, List.append_nil, List.mem_cons, List.not_mem_nil, or_false] at hu
    rcases hu with rfl | rfl | rfl
    · rfl
    · exact h5.one
    · rfl

/-- The rows, appended to none: kept as they are where there are none. -/
theorem append_rows {s0 : Nat} {w : World} {g : Nat} {rv : Value} {rows : List (List Ent)} {xs : List Value} (hg : Rk 1 (fun b => s0 ≤ b) w (.slice (some ⟨g, 0, none⟩) 0 0) 0 []) (hx : RowsB s0 w xs rows) (hs : Src Tryd.prog 1 23 rv rows.length xs w) (hw : s0 ≤ w.heap.size) (hn : rows.length ≤ 1000) (ty : TypeId) :
    ∃ v' w', (Builtin.append_ #[23, 23] ty #[.slice (some ⟨g, 0, none⟩) 0 0, rv]).run Tryd.prog w = .ok v' w' ∧ Rk 1 (fun b => s0 ≤ b) w' v' rows.length xs ∧ RowsB s0 w' xs rows ∧ (rows = [] → v' = .slice (some ⟨g, 0, none⟩) 0 0) ∧ Lay w w' := by
  obtain ⟨i, z, E⟩ := elem23
  by_cases h0 : rows = []
  · subst h0
    obtain rfl : xs = [] := List.eq_nil_of_length_eq_zero hx.1
    exact ⟨_, w, run_append_nothing (P := Tryd.prog) w 23 23 ty 39 i E.under E.info (some ⟨g, 0, none⟩) 0 0 (Nat.le_refl _) rv (by rw [E.size]; exact hs), hg, hx, fun _ => rfl, Keep.refl _ _⟩
  · have hpos : 0 < rows.length := List.length_pos_iff.2 h0
    obtain ⟨v', w', h1, h2, h3⟩ := run_append_full E hg (fun b hb => Nat.le_trans hw hb) 23 ty rv rows.length xs hs (by omega) (by omega) (.inr (by omega))
    rw [Nat.zero_add, List.nil_append] at h2
    exact ⟨v', w', h1, h2, hx.below h3.size fun b _ hlt => h3.block hlt, fun h => absurd h h0, h3⟩

theorem LabsAt.upto {w : World} {v : Value} {ls : List Lab} (h : LabsAt (fun _ => True) w v ls) : LabsAt (fun b => b < w.heap.size) w v ls := h.mono fun _ _ h => h

/-- One row more. -/
theorem append_row {s0 : Nat} {w : World} {v u : Value} {g5 : Nat} {rows : List (List Ent)} {xs : List Value} {e : Ent} {lv : Value} (hv : Rk 1 (fun b => s0 ≤ b) w v rows.length xs) (hx : RowsB s0 w xs rows) (h0 : rows = [] → ∃ g, v = .slice (some ⟨g, 0, none⟩) 0 0) (hu : u = .slice (some ⟨g5, 0, none⟩) 1 1) (h5 : One s0 w g5 e lv)
    (sv : Value) (hs : Src Tryd.prog 1 23 sv 1 [u] w) (hw : s0 ≤ w.heap.size) (hn : rows.length ≤ 1000) (ty : TypeId) :
    ∃ v' w', (Builtin.append_ #[23, 23] ty #[v, sv]).run Tryd.prog w = .ok v' w' ∧ RowsAt w' v' (rows ++ [[e]]) ∧ Keep (fun b => s0 ≤ b) w w' := by
  obtain ⟨i, z, E⟩ := elem23
  have key : ∃ v' w', (Builtin.append_ #[23, 23] ty #[v, sv]).run Tryd.prog w = .ok v' w' ∧ Rk 1 (fun b => s0 ≤ b) w' v' (rows.length + 1) (xs ++ [u]) ∧ Keep (At v) w w' ∧ ∀ b, At v b → b ≠ g5 ∨ w'.heap[b]? = w.heap[b]? := by
    by_cases hr : rows = []
    · obtain ⟨g, rfl⟩ := h0 hr
      subst hr
      obtain ⟨v', w', h1, h2, h3⟩ := run_append_full E hv (fun b hb => Nat.le_trans hw hb) 23 ty sv 1 [u] hs (by simp) (by simp) (.inr (by simp))
      refine ⟨v', w', h1, h2, h3.into fun _ _ h => h.elim, fun b hb => .inr ?_⟩
      have hlt := (hv.at hb).2
      exact h3.block hlt
    · obtain ⟨v', w', h1, h2, h3⟩ := run_append_rk E hv (fun b hb => Nat.le_trans hw hb) 23 ty sv 1 [u] hs (by omega) (by omega)
      refine ⟨v', w', h1, h2.mono fun b hb _ => hb.1, h3, fun b hb => .inl fun e => ?_⟩
      subst e
      have hpos : 0 < rows.length := List.length_pos_iff.2 hr
      obtain ⟨u0, hu0, he0⟩ := hx.2 0 hpos
      obtain ⟨hxl, ⟨hv0, hl0⟩ | ⟨g, cap, hv0, _, _, _, _, hc, _⟩⟩ := hv
      · omega
      · obtain ⟨n', c', hb'⟩ := hb
        rw [hv0] at hb'
        simp only [Value.slice.injEq, Option.some.injEq, Addr.mk.injEq, and_true] at hb'
        obtain ⟨rfl, _, _⟩ := hb'
        have h6 := hc 0 (by omega)
        rw [hu0, h5.2.2.1] at h6
        obtain ⟨a', c'', hv'⟩ := he0.slice
        rw [hv'] at h6
        cases h6
  obtain ⟨v', w', hrun, hrk, hk, hd⟩ := key
  have hks : Keep (fun b => s0 ≤ b) w w' := hk.into fun b _ hb => (hv.at hb).1
  have hlow : ∀ b, b < s0 → b < w.heap.size → w'.heap[b]? = w.heap[b]? := fun b hb hlt => hks.block b hlt (by omega)
  have h5' : One s0 w' g5 e lv := h5.carry hks.size fun b hb hlt => by
    rcases hb with hb | rfl
    · exact hlow b hb hlt
    · by_cases ha : At v b
      · rcases hd b ha with h | h
        · exact absurd rfl h
        · exact h
      · exact hk.block b hlt ha
  have hx' := hx.below hks.size hlow
  refine ⟨v', w', hrun, ?_, hks⟩
  obtain ⟨hl, ⟨_, h⟩ | ⟨g, cap, rfl, _, hlt, _, hm, hc, _⟩⟩ := hrk
  · omega
  · have hlen : (rows ++ [[e]]).length = rows.length + 1 := by simp
    refine ⟨some ⟨g, 0, none⟩, cap, by rw [hlen], by rw [hlen]; omega, .inr ⟨g, 0, rfl, hlt, fun i hi => ?_⟩⟩
    rw [hlen] at hi
    rw [Nat.zero_add]
    by_cases hi' : i < rows.length
    · obtain ⟨u', h1, h2⟩ := hx'.2 i hi'
      refine ⟨u', ?_, ?_⟩
      · rw [hc i (by rw [List.length_append, hx.1]; simp; omega), List.getElem?_append_left (by rw [hx.1]; exact hi'), h1]
      · rw [List.getElem_append_left hi']
        exact h2.any
    · obtain rfl : i = rows.length := by omega
      refine ⟨u, ?_, ?_⟩
      · rw [hc rows.length (by rw [List.length_append, hx.1]; simp), List.getElem?_append_right (by rw [hx.1]; exact Nat.le_refl _), hx.1]
        simp
      · rw [List.getElem_append_right (Nat.le_refl _)]
        simp only [Nat.sub_self, List.getElem_cons_zero]
        rw [hu]
        exact h5'.ents

/-- What the operations leave that put an entry to rows. -/
def MV (q : Qy) (qv rv ev lv : Value) (e : Ent) (rows : List (List Ent)) (s0 : Nat) : Nat → Value → World → Prop
  | 0, v, _ => v = qv
  | 1, v, W => ∃ g, v = .slice (some ⟨g, 0, none⟩) 0 0 ∧ Rk 1 (fun b => s0 ≤ b) W (.slice (some ⟨g, 0, none⟩) 0 0) 0 []
  | 2, v, _ => v = rv
  | 3, v, W => ∃ xs, Rk 1 (fun b => s0 ≤ b) W v rows.length xs ∧ RowsB s0 W xs rows ∧ (rows = [] → ∃ g, v = .slice (some ⟨g, 0, none⟩) 0 0)
  | 4, v, _ => v = ev
  | 5, v, W => ∃ g, v = .slice (some ⟨g, 0, none⟩) 1 1 ∧ One s0 W g e lv
  | 6, v, W => ∃ g g5, v = .slice (some ⟨g, 0, none⟩) 1 1 ∧ g < W.heap.size ∧ W.cell? ⟨g, 0, none⟩ = some (.slice (some ⟨g5, 0, none⟩) 1 1) ∧ One s0 W g5 e lv
  | 7, v, W => RowsAt W v (rows ++ [[e]])
  | 8, v, W => ∃ out, EntsAt (fun _ => True) (fun _ => True) W v out ∧ Sorts (ordC q.desc) (kept q (rows ++ [[e]])) out
  | 9, v, W => ∃ out, EntsAt (fun _ => True) (fun _ => True) W v out ∧ Sorts (ordC q.desc) (kept q (rows ++ [[e]])) out
  | _, _, _ => True
/-- What each does to the world: the second append may turn what is new. -/
def MR (s0 : Nat) : Nat → World → World → Prop
  | 7, W, W' => Keep (fun b => s0 ≤ b) W W'
  | _, W, W' => Below W.heap.size W W'

theorem MV.below {q : Qy} {qv rv ev lv : Value} {e : Ent} {rows : List (List Ent)} {s0 j : Nat} {v : Value} {W W' : World} (h : MV q qv rv ev lv e rows s0 j v W) (hb : Below W.heap.size W W') : MV q qv rv ev lv e rows s0 j v W' := by
  unfold MV at h ⊢
  split at h
  · exact h
  · obtain ⟨g, h1, h2⟩ := h; exact ⟨g, h1, h2.below1 hb⟩
  · exact h
  · obtain ⟨xs, h1, h2, h3⟩ := h; exact ⟨xs, h1.below1 hb, h2.below hb.size fun b _ hlt => hb.block b hlt, h3⟩
  · exact h
  · obtain ⟨g, h1, h2⟩ := h; exact ⟨g, h1, h2.carry hb.size fun b _ hlt => hb.block b hlt⟩
  · obtain ⟨g, g5, h1, h2, h3, h4⟩ := h; exact ⟨g, g5, h1, Nat.lt_of_lt_of_le h2 hb.size, (hb.cell h2).trans h3, h4.carry hb.size fun b _ hlt => hb.block b hlt⟩
  · exact RowsAt.below1 h hb
  · obtain ⟨out, h1, h2⟩ := h; exact ⟨out, h1.below1 hb, h2⟩
  · obtain ⟨out, h1, h2⟩ := h; exact ⟨out, h1.below1 hb, h2⟩
  · trivial

/-- What the operations leave that put an entry to an answer, in order. -/
def NV (q : Qy) (ev lv va vb : Value) (B : Nat) (e : Ent) (outA outB : List Ent) (s0 : Nat) : Nat → Value → World → Prop
  | 0, v, _ => v = .int .i64 1
  | 1, v, _ => v = .bool true
  | 2, v, _ => v = .bool true
  | 3, v, _ => v = .pointer (some ⟨B, 7, none⟩)
  | 4, v, _ => v = .bool q.desc
  | 5, v, W => ∃ g, v = .slice (some ⟨g, 0, none⟩) 0 0 ∧ Rk 3 (fun b => s0 ≤ b) W (.slice (some ⟨g, 0, none⟩) 0 0) 0 []
  | 6, v, _ => v = va
  | 7, v, W => ∃ R, R.map Prod.snd = outA ∧ Rk 3 (fun b => s0 ≤ b) W v outA.length (flatR R) ∧ RawL (fun b => b < s0) W R
  | 8, v, _ => v = ev
  | 9, v, W => ∃ g, v = .slice (some ⟨g, 0, none⟩) 1 1 ∧ One s0 W g e lv
  | 10, v, W => EntsAt (fun _ => True) (fun _ => True) W v (outA ++ [e])
  | 11, v, W => EntsAt (fun _ => True) (fun _ => True) W v outB
  | 12, v, _ => v = vb
  | 13, v, _ => v = .bool true
  | 14, v, _ => v = .bool true
  | 15, v, _ => v = .bool true
  | _, _, _ => True
def NR (s0 : Nat) : Nat → World → World → Prop
  | 10, W, W' => Keep (fun b => s0 ≤ b) W W'
  | _, W, W' => Below W.heap.size W W'

theorem NV.below {q : Qy} {ev lv va vb : Value} {B : Nat} {e : Ent} {outA outB : List Ent} {s0 j : Nat} {v : Value} {W W' : World} (h : NV q ev lv va vb B e outA outB s0 j v W) (hb : Below W.heap.size W W') : NV q ev lv va vb B e outA outB s0 j v W' := by
  unfold NV at h ⊢
  split at h
  · exact h
  · exact h
  · exact h
  · exact h
  · exact h
  · obtain ⟨g, h1, h2⟩ := h; exact ⟨g, h1, h2.below1 hb⟩
  · exact h
  · obtain ⟨R, h1, h2, h3⟩ := h; exact ⟨R, h1, h2.below1 hb, h3.below1 hb⟩
  · exact h
  · obtain ⟨g, h1, h2⟩ := h; exact ⟨g, h1, h2.carry hb.size fun b _ hlt => hb.block b hlt⟩
  · exact EntsAt.below1 h hb
  · exact EntsAt.below1 h hb
  · exact h
  · exact h
  · exact h
  · exact h
  · trivial

/-- An answer, appended to none. -/
theorem append_ents {s0 : Nat} {w : World} {g : Nat} {va : Value} {out : List Ent} (hg : Rk 3 (fun b => s0 ≤ b) w (.slice (some ⟨g, 0, none⟩) 0 0) 0 []) (ha : EntsAt (fun b => b < s0) (fun b => b < s0) w va out) (hw : s0 ≤ w.heap.size) (hn : out.length ≤ 1000) (ty : TypeId) :
    ∃ v' w' R, (Builtin.append_ #[39, 39] ty #[.slice (some ⟨g, 0, none⟩) 0 0, va]).run Tryd.prog w = .ok v' w' ∧ R.map Prod.snd = out ∧ Rk 3 (fun b => s0 ≤ b) w' v' out.length (flatR R) ∧ RawL (fun b => b < s0) w' R ∧ Lay w w' := by
  obtain ⟨i, z, E⟩ := elem24
  obtain ⟨al, cl, rfl⟩ := ha.slice
  obtain ⟨R, hR, hL, hnR, h1, _⟩ := ha.parts
  have hs := h1 w out.length cl (Keep.refl _ _) (Nat.le_refl _)
  rw [List.take_of_length_le (by omega)] at hs
  by_cases h0 : out.length = 0
  · obtain rfl : R = [] := List.eq_nil_of_length_eq_zero (by omega)
    rw [h0] at hs ⊢
    exact ⟨_, w, [], run_append_nothing (P := Tryd.prog) w 39 39 ty 26 i E.under E.info (some ⟨g, 0, none⟩) 0 0 (Nat.le_refl _) _ (by rw [E.size]; exact hs), hR, hg, hL, Keep.refl _ _⟩
  · obtain ⟨v', w', hrun, h2, h3⟩ := run_append_full E hg (fun b hb => Nat.le_trans hw hb) 39 ty _ out.length (flatR R) hs (by omega) (by omega) (.inr (by omega))
    rw [Nat.zero_add, List.nil_append] at h2
    exact ⟨v', w', R, hrun, hR, h2, hL.lay h3, h3⟩

/-- One entry more. -/
theorem append_one {s0 : Nat} {w : World} {v : Value} {g : Nat} {R : List (Value × Ent)} {e : Ent} {lv : Value} (hv : Rk 3 (fun b => s0 ≤ b) w v R.length (flatR R)) (hL : RawL (fun b => b < s0) w R) (h5 : One s0 w g e lv) (hw : s0 ≤ w.heap.size) (hn : R.length ≤ 1000) (ty : TypeId) :
    ∃ v' w', (Builtin.append_ #[39, 39] ty #[v, .slice (some ⟨g, 0, none⟩) 1 1]).run Tryd.prog w = .ok v' w' ∧ EntsAt (fun _ => True) (fun _ => True) w' v' (R.map Prod.snd ++ [e]) ∧ Keep (fun b => s0 ≤ b) w w' := by
  obtain ⟨i, z, E⟩ := elem24
  obtain ⟨v', w', hrun, h2, h3⟩ := run_append_rk E hv (fun b hb => Nat.le_trans hw hb) 39 ty _ 1 _ h5.src (by omega) (by omega)
  have hks : Keep (fun b => s0 ≤ b) w w' := h3.into fun b _ hb => (hv.at hb).1
  have hraw : RawL (fun b => b < s0) w' (R ++ [(lv, e)]) := fun x hx => by
    rcases List.mem_append.1 hx with hx | hx
    · exact (hL x hx).carry hks.size fun b hb hlt => hks.block b hlt (by omega)
    · obtain rfl := List.mem_singleton.1 hx
      exact h5.2.2.2.2.2.carry hks.size fun b hb hlt => hks.block b hlt (by omega)
  refine ⟨v', w', hrun, ?_, hks⟩
  have h4 : Rk 3 (fun b => s0 ≤ b) w' v' (R ++ [(lv, e)]).length (flatR (R ++ [(lv, e)])) := by
    rw [flatR_append, List.length_append]
    exact h2.mono fun b hb _ => hb.1
  have h6 := h4.ents hraw
  rw [List.map_append] at h6
  exact h6.any

/-- One that is kept, put to what is kept. -/
theorem kept_more (q : Qy) (rows : List (List Ent)) (e : Ent) : kept q (rows ++ [[e]]) = kept q rows ++ if keepsQ q e then [e] else [] := by
  unfold kept
  rw [List.flatten_append, List.filter_append]
  congr 1
  simp [List.filter_cons]

end Go.Proofs.YtidjodplimkmgaaDoor.E4

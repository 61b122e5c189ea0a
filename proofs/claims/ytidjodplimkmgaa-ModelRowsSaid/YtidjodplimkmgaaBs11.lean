/-
  ROWS OF ENTRIES, as they lie; what a query keeps of them.
-/
import Derived.Test.YtidjodplimkmgaaIm9
import Derived.Test.YtidjodplimkmgaaEs
namespace Go.Proofs.Ytidjodplimkmgaa.E4
open Go.RowKit Go
open Go.Sort (grow)

theorem LabsAt.below1 {G : Nat → Prop} {w w' : World} {v : Value} {ls : List Lab} (h : LabsAt G w v ls) (hb : Below w.heap.size w w') : LabsAt G w' v ls := h.carry hb.size (fun _ _ hk => hb.block _ hk)
theorem EntsAt.below1 {G L : Nat → Prop} {w w' : World} {v : Value} {es : List Ent} (h : EntsAt G L w v es) (hb : Below w.heap.size w w') : EntsAt G L w' v es := h.carry hb.size (fun _ _ hk => hb.block _ hk)
theorem EntsAt.any {G L : Nat → Prop} {w : World} {v : Value} {es : List Ent} (h : EntsAt G L w v es) : EntsAt (fun _ => True) (fun _ => True) w v es := h.mono (fun _ _ _ => trivial) (fun _ _ _ => trivial)
theorem RawL.below1 {L : Nat → Prop} {w w' : World} {R : List (Value × Ent)} (h : RawL L w R) (hb : Below w.heap.size w w') : RawL L w' R := fun x hx => (h x hx).below1 hb
theorem Rk.below1 {k : Nat} {G : Nat → Prop} {w w' : World} {v : Value} {n : Nat} {xs : List Value} (h : Rk k G w v n xs) (hb : Below w.heap.size w w') : Rk k G w' v n xs := h.carry hb.size fun _ _ _ hk => hb.block _ hk
theorem LabsAt.both {B : Nat} {a w w' : World} {v : Value} {ls : List Lab} (h : LabsAt (fun b => b < B) w v ls) (h1 : Below B a w) (h2 : Below B a w') (hs : w.heap.size ≤ w'.heap.size) : LabsAt (fun b => b < B) w' v ls :=
  h.carry hs fun b hg _ => (h2.block b hg).trans (h1.block b hg).symm
theorem cb_below {W W' : World} {B : Nat} {t : TypeId} {arr : Array Value} (h : CB W B t arr) (hb : Below W.heap.size W W') : CB W' B t arr := (hb.block B h.lt).trans h
theorem below_mid {a b c : World} (h : Below a.heap.size a b) (k : Below b.heap.size b c) : Below a.heap.size a c := h.trans (k.mono h.size)
/-- A row's own block has turned, and what is new. -/
theorem keep_below {v : Value} {k : Nat} {G : Nat → Prop} {a w w' : World} {n : Nat} {xs : List Value} (hrk : Rk k G w v n xs) (hG : ∀ b, G b → a.heap.size ≤ b) (h : Below a.heap.size a w) (hk : Keep (At v) w w') : Below a.heap.size a w' :=
  h.trans ⟨hk.os, hk.tape, hk.output, hk.size, fun b hb => hk.block b (Nat.lt_of_lt_of_le hb h.size) fun ha => by have := hG b (hrk.at ha).1; omega⟩

theorem lay_keepB {a W W' : World} {v : Value} (h : Lay a W) (hk : Keep (At v) W W') (hv : ∀ b, At v b → a.heap.size ≤ b) : Lay a W' :=
  ((h.into (H := At v) (fun _ _ h => h.elim)).trans hk).into fun b hlt hb => by have := hv b hb; omega

/-- A slice of rows of entries. -/
def RowsAt (w : World) (v : Value) (rows : List (List Ent)) : Prop :=
  ∃ a cap, v = .slice a rows.length cap ∧ rows.length ≤ 9223372036854775807 ∧ (rows = [] ∨ ∃ b off, a = some ⟨b, off, none⟩ ∧ b < w.heap.size ∧
    ∀ i (h : i < rows.length), ∃ rv, w.cell? ⟨b, off + i, none⟩ = some rv ∧ EntsAt (fun _ => True) (fun _ => True) w rv rows[i])

theorem RowsAt.below1 {w w' : World} {v : Value} {rows : List (List Ent)} (h : RowsAt w v rows) (hb : Below w.heap.size w w') : RowsAt w' v rows := by
  obtain ⟨a, cap, hv, hn, h | ⟨b, off, ha, hlt, hc⟩⟩ := h
  · exact ⟨a, cap, hv, hn, .inl h⟩
  · refine ⟨a, cap, hv, hn, .inr ⟨b, off, ha, Nat.lt_of_lt_of_le hlt hb.size, fun i hi => ?_⟩⟩
    obtain ⟨rv, h0, h1⟩ := hc i hi
    exact ⟨rv, (hb.cell hlt).trans h0, h1.below1 hb⟩

/-- What a query keeps of rows. -/
def kept (q : Qy) (rows : List (List Ent)) : List Ent := rows.flatten.filter (keepsQ q)

theorem kept_take (q : Qy) (rows : List (List Ent)) (i : Nat) (hi : i < rows.length) : kept q (rows.take (i + 1)) = kept q (rows.take i) ++ rows[i].filter (keepsQ q) := by
  unfold kept
  rw [← List.take_append_getElem hi, List.flatten_append, List.filter_append]
  simp

theorem filter_take (p : Ent → Bool) (es : List Ent) (j : Nat) (hj : j < es.length) : (es.take (j + 1)).filter p = (es.take j).filter p ++ if p es[j] then [es[j]] else [] := by
  rw [← List.take_append_getElem hj, List.filter_append]
  congr 1
  rw [List.filter_cons]
  simp

/-- Entries whose lines are no longer than they may be. -/
def Fine (rows : List (List Ent)) : Prop := ∀ r ∈ rows, ∀ e ∈ r, e.line.size ≤ 100000

/-- A slice that begins its block, with as much room as it is long at least. -/
def Sq (v : Value) (n : Nat) : Prop := (v = .slice none 0 0 ∧ n = 0) ∨ ∃ g cap, v = .slice (some ⟨g, 0, none⟩) n cap ∧ n ≤ cap

theorem Rk.sq {k : Nat} {G : Nat → Prop} {w : World} {v : Value} {n : Nat} {xs : List Value} (h : Rk k G w v n xs) : Sq v n := by
  obtain ⟨_, ⟨h1, h2⟩ | ⟨g, cap, h1, _, _, h2, _⟩⟩ := h
  · exact .inl ⟨h1, h2⟩
  · exact .inr ⟨g, cap, h1, h2⟩

/-- What an answer is. -/
def AnsPost (q : Qy) (rows : List (List Ent)) (w : World) (e : Ending) (w' : World) : Prop :=
  ∃ v out, e = .returned v ∧ EntsAt (fun b => w.heap.size ≤ b) (fun _ => True) w' v out ∧ Sq v out.length ∧ Sorts (ordC q.desc) (kept q rows) out ∧ Below w.heap.size w w'

theorem kept_len (q : Qy) (rows : List (List Ent)) : (kept q rows).length ≤ rows.flatten.length := List.length_filter_le _ _

theorem take_flat_len (rows : List (List Ent)) (i j : Nat) (hi : i < rows.length) (q : Qy) : (kept q (rows.take i)).length + ((rows[i].take j).filter (keepsQ q)).length ≤ rows.flatten.length := by
  have h1 := kept_len q (rows.take i)
  have h2 : ((rows[i].take j).filter (keepsQ q)).length ≤ rows[i].length := Nat.le_trans (List.length_filter_le _ _) (by rw [List.length_take]; omega)
  have h3 : rows.flatten.length = (rows.take i).flatten.length + rows[i].length + (rows.drop (i + 1)).flatten.length := by
    conv => lhs; rw [← List.take_append_drop (i + 1) rows, ← List.take_append_getElem hi]
    simp only [List.flatten_append, List.length_append, List.flatten_cons, List.flatten_nil, List.append_nil]
  omega

end Go.Proofs.Ytidjodplimkmgaa.E4

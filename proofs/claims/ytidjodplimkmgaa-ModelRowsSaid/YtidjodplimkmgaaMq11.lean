/-
  WHAT A LAW HOLDS: its query, in a box of its own; the rows; a query's limit.
-/
import Derived.Test.YtidjodplimkmgaaBs11
import Derived.Test.YtidjodplimkmgaaMd11
namespace Go.Proofs.Ytidjodplimkmgaa.E4
open Go.RowKit Go
open Go.Sort (grow)

theorem query_lim (l : List Int) : 1 ≤ (Qy.query l).lim ∧ (Qy.query l).lim ≤ 8 := by
  unfold Qy.query
  simp only
  have h := Ft.next_lt (l := l) (n := 8) (p := (Ft.next l 2 (Ft.next l 20 0).2).2) (by decide)
  omega

/-- The query in its box, the rows. -/
structure MQ (W : World) (B : Nat) (q : Qy) (am : Option Addr) (cm : Nat) (ak : Option Addr) (ck : Nat) (rows : List (List Ent)) (rv : Value) : Prop where
  c : CB W B 31 #[.int .i64 q.src, .int .i64 q.til, .slice am q.mat.length cm, .int .i64 q.fil.op, .string q.fil.name, .string q.fil.text, .slice ak q.fil.kids.length ck, .bool q.desc, .int .i64 q.lim, .string q.page]
  m : MsAt W (.slice am q.mat.length cm) q.mat
  k : KsAt W (.slice ak q.fil.kids.length ck) q.fil
  r : RowsAt W rv rows
  s : W.ShapedOpen Try.prog

theorem MQ.below {W W' : World} {B : Nat} {q : Qy} {am : Option Addr} {cm : Nat} {ak : Option Addr} {ck : Nat} {rows : List (List Ent)} {rv : Value} (h : MQ W B q am cm ak ck rows rv) (hb : Below W.heap.size W W') : MQ W' B q am cm ak ck rows rv :=
  ⟨cb_below h.c hb, h.m.below9 hb, KsAt.below hb _ _ h.k, h.r.below1 hb, shaped_below h.s hb⟩
theorem MQ.qat {W : World} {B : Nat} {q : Qy} {am : Option Addr} {cm : Nat} {ak : Option Addr} {ck : Nat} {rows : List (List Ent)} {rv : Value} (h : MQ W B q am cm ak ck rows rv) : QAt W (q.val (.slice am q.mat.length cm) (.slice ak q.fil.kids.length ck)) q := ⟨_, _, rfl, h.m, h.k⟩

end Go.Proofs.Ytidjodplimkmgaa.E4

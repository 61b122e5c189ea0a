/-
  tree.each: THE ITERATOR OVER A FILTER, AND ALL WITHIN IT.
-/
import Derived.Test.YtgmahdeaggjjgaaWalk6
namespace Go.Proofs.Ytgmahdeaggjjgaa
open Go.RowKit Go Go.Shelf

attribute [local go_sem] Oper.semAt_some wide_fn wide_depth

/-- A variable's box. -/
def Box (W : World) (B : Nat) (t : TypeId) (v : Value) : Prop := W.heap[B]? = some (.cells #[v] t (0, 0))
theorem Box.lt {W : World} {B : Nat} {t : TypeId} {v : Value} (h : Box W B t v) : B < W.heap.size := (Array.getElem?_eq_some_iff.1 h).1
theorem Box.cell {W : World} {B : Nat} {t : TypeId} {v : Value} (h : Box W B t v) : W.cell? ⟨B, 0, none⟩ = some v := by simp [World.cell?, show W.heap[B]? = _ from h]
theorem Box.frozen {W : World} {B : Nat} {t : TypeId} {v : Value} (h : Box W B t v) : W.frozen? ⟨B, 0, none⟩ = false := by simp [World.frozen?, show W.heap[B]? = _ from h]
theorem Box.new (W : World) (t : TypeId) (v : Value) : Box (W.alloc (.cells #[v] t)) W.heap.size t v := World.alloc_heap_new W _
theorem Box.keep {G : Nat → Prop} {W W' : World} {B : Nat} {t : TypeId} {v : Value} (h : Box W B t v) (hk : Keep G W W') (hn : ¬ G B) : Box W' B t v := (hk.block B h.lt hn).trans h
theorem Box.alloc {W : World} {B : Nat} {t : TypeId} {v : Value} (h : Box W B t v) (o : Obj) : Box (W.alloc o) B t v := h.keep ((Keep.refl (fun _ => False) W).alloc o) (fun h => h)
theorem Box.set {W : World} {B : Nat} {t : TypeId} {v : Value} (v' : Value) (h : Box W B t v) : Box (W.setCell ⟨B, 0, none⟩ v') B t v' := by
  obtain ⟨hlt, hk⟩ := Array.getElem?_eq_some_iff.1 h
  show (W.heap.modify B _)[B]? = _
  rw [Array.getElem?_eq_getElem (by rw [Array.size_modify]; exact hlt), Array.getElem_modify_self, hk]
  rfl
theorem keep_setCell {G : Nat → Prop} (w : World) (b : Nat) (v : Value) (h : G b) : Keep G w (w.setCell ⟨b, 0, none⟩ v) := (Keep.refl G w).setCell (p := ⟨b, 0, none⟩) (.inr h) v

/-- A filter's box. -/
def FBox (W : World) (B : Nat) (kv : Value) (f : Ft) : Prop := W.heap[B]? = some (.cells #[.int .i64 f.op, .string f.name, .string f.text, kv] 26 (0, 0))
theorem FBox.lt {W : World} {B : Nat} {kv : Value} {f : Ft} (h : FBox W B kv f) : B < W.heap.size := (Array.getElem?_eq_some_iff.1 h).1
theorem FBox.new (W : World) (kv : Value) (f : Ft) : FBox (W.alloc (.cells #[.int .i64 f.op, .string f.name, .string f.text, kv] 26)) W.heap.size kv f := World.alloc_heap_new W _
theorem FBox.keep {G : Nat → Prop} {W W' : World} {B : Nat} {kv : Value} {f : Ft} (h : FBox W B kv f) (hk : Keep G W W') (hn : ¬ G B) : FBox W' B kv f := (hk.block B h.lt hn).trans h
theorem FBox.c0 {W : World} {B : Nat} {kv : Value} {f : Ft} (h : FBox W B kv f) : W.cell? ⟨B, 0, none⟩ = some (.int .i64 f.op) := by simp [World.cell?, show W.heap[B]? = _ from h]
theorem FBox.c1 {W : World} {B : Nat} {kv : Value} {f : Ft} (h : FBox W B kv f) : W.cell? ⟨B, 1, none⟩ = some (.string f.name) := by simp [World.cell?, show W.heap[B]? = _ from h]
theorem FBox.c2 {W : World} {B : Nat} {kv : Value} {f : Ft} (h : FBox W B kv f) : W.cell? ⟨B, 2, none⟩ = some (.string f.text) := by simp [World.cell?, show W.heap[B]? = _ from h]
theorem FBox.c3 {W : World} {B : Nat} {kv : Value} {f : Ft} (h : FBox W B kv f) : W.cell? ⟨B, 3, none⟩ = some kv := by simp [World.cell?, show W.heap[B]? = _ from h]

set_option maxHeartbeats 4000000 in
set_option maxRecDepth 100000 in
theorem each_gives (C : Nat → Prop) (f : Ft) (hcf : f.count ≤ 100000) (B : Nat) (kv : Value) (w : World) (hB : FBox w B kv f) (hCB : C B) (hC : ∀ k, C k → k < w.heap.size) (hks : KsB C w kv f) :
    Gives Try.prog 34 #[.pointer (some ⟨B, 0, none⟩)] C (encW C) (Ft.nodes 0 f) w := by
  intro l J Jx G W hW hCG hJ hJx hY h0 hlive
  have hBW := hB.keep hW (fun h => h hCB)
  have HC := Lib.hid (walk_any hC hJ hJx hY f.count f 0 kv [] [] G W (Nat.le_refl _) hcf (by omega) hks hW hCG (by simp) h0 hlive)
  have c0 := hBW.c0
  have c1 := hBW.c1
  have c2 := hBW.c2
  have c3 := hBW.c3
  obtain ⟨ak, ck, rfl⟩ := hks.shape
  simp only [Ft.val] at HC
  clear hB hBW hks hY hJ hJx hW hCG h0 hlive
  refine (callsIn_wide (n := 9)).1 ?_
  refine callsIn_of_wp Try.func34 rfl trivial ?_
  simp only [Try.ntmps34, List.size_toArray, List.length_cons, List.length_nil, Nat.reduceAdd, Nat.reduceSub, Array.replicate_succ, Array.replicate_zero, List.push_toArray, List.append_toArray, List.nil_append, List.cons_append]
  gi_wp2_with (gi_at_call 35; refine (callsIn_wide.2 HC.out).mono ?_)
  rintro e W2 (⟨rfl, hn⟩ | ⟨rfl, p, hp, hn⟩)
  · have HN := Lib.hid hn
    clear hn
    gi_wp2_with fail
    go_end0
    exact ⟨⟨_, rfl⟩, .inl HN.out⟩
  · have HN := Lib.hid hn
    clear hn
    gi_wp2_with fail
    go_end0
    exact ⟨⟨_, rfl⟩, .inr ⟨p, hp, HN.out⟩⟩

/-- What each makes. -/
def eachW (W : World) (kv : Value) (f : Ft) : World := W.alloc (.cells #[.int .i64 f.op, .string f.name, .string f.text, kv] 26)

set_option maxHeartbeats 1000000 in
theorem each_any (f : Ft) (a : Option Addr) (n c : Nat) (W : World) :
    Calls Try.prog 24 #[.agg #[.int .i64 f.op, .string f.name, .string f.text, .slice a n c]] W fun e W' => e = .returned (.func (.func 34) #[] #[.pointer (some ⟨W.heap.size, 0, none⟩)]) ∧ eachW W (.slice a n c) f = W' := by
  go_enter Try.func24, Try.ntmps24
  go_wp2_with fail
  go_ret
  exact ⟨rfl, rfl⟩

end Go.Proofs.Ytgmahdeaggjjgaa

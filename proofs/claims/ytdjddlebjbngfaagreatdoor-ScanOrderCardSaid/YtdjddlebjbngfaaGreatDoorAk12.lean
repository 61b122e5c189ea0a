/-
  A QUESTION, as data and as it lies.
-/
import Derived.Test.YtdjddlebjbngfaaGreatDoorNb
import Derived.Test.YtdjddlebjbngfaaGreatDoorFlA
namespace Go.Proofs.YtdjddlebjbngfaaGreatDoor.E4
open Go.RowKit Go

/-- A slice of texts. -/
def StrsAt (w : World) (v : Value) (l : List ByteArray) : Prop :=
  ∃ a cap, v = .slice a l.length cap ∧ l.length ≤ 9223372036854775807 ∧ (l = [] ∨ ∃ b off, a = some ⟨b, off, none⟩ ∧ b < w.heap.size ∧
    ∀ i (h : i < l.length), w.cell? ⟨b, off + i, none⟩ = some (.string l[i]))
/-- A slice of rows of texts. -/
def TextsAt (w : World) (v : Value) (ls : List (List ByteArray)) : Prop :=
  ∃ a cap, v = .slice a ls.length cap ∧ ls.length ≤ 9223372036854775807 ∧ (ls = [] ∨ ∃ b off, a = some ⟨b, off, none⟩ ∧ b < w.heap.size ∧
    ∀ i (h : i < ls.length), ∃ rv, w.cell? ⟨b, off + i, none⟩ = some rv ∧ StrsAt w rv ls[i])

theorem StrsAt.below {w w' : World} {v : Value} {l : List ByteArray} (h : StrsAt w v l) (hb : Below w.heap.size w w') : StrsAt w' v l := by
  obtain ⟨a, cap, hv, hn, h | ⟨b, off, ha, hlt, hc⟩⟩ := h
  · exact ⟨a, cap, hv, hn, .inl h⟩
  · exact ⟨a, cap, hv, hn, .inr ⟨b, off, ha, Nat.lt_of_lt_of_le hlt hb.size, fun i hi => (hb.cell hlt).trans (hc i hi)⟩⟩
theorem TextsAt.below {w w' : World} {v : Value} {ls : List (List ByteArray)} (h : TextsAt w v ls) (hb : Below w.heap.size w w') : TextsAt w' v ls := by
  obtain ⟨a, cap, hv, hn, h | ⟨b, off, ha, hlt, hc⟩⟩ := h
  · exact ⟨a, cap, hv, hn, .inl h⟩
  · refine ⟨a, cap, hv, hn, .inr ⟨b, off, ha, Nat.lt_of_lt_of_le hlt hb.size, fun i hi => ?_⟩⟩
    obtain ⟨rv, h0, h1⟩ := hc i hi
    exact ⟨rv, (hb.cell hlt).trans h0, h1.below hb⟩
theorem MsAt.below12 {w w' : World} {v : Value} {l : List Mt} (h : MsAt w v l) (hb : Below w.heap.size w w') : MsAt w' v l := by
  obtain ⟨a, cap, hv, hn, h | ⟨b, off, ha, hlt, hc⟩⟩ := h
  · exact ⟨a, cap, hv, hn, .inl h⟩
  · refine ⟨a, cap, hv, hn, .inr ⟨b, off, ha, Nat.lt_of_lt_of_le hlt hb.size, fun i hi => ?_⟩⟩
    obtain ⟨h0, h1, h2⟩ := hc i hi
    exact ⟨(hb.cell hlt).trans h0, (hb.cell hlt).trans h1, (hb.cell hlt).trans h2⟩

/-- A question. -/
structure Ask where
  kd : Int
  src : Int
  til : Int
  all : List (List ByteArray)
  mat : List Mt

def Ask.cells (a : Ask) (av mv : Value) : Array Value := #[.int .i64 a.kd, .int .i64 a.src, .int .i64 a.til, av, mv]
/-- It, as a value. -/
def AskAt (w : World) (v : Value) (a : Ask) : Prop := ∃ av mv, v = .agg (a.cells av mv) ∧ TextsAt w av a.all ∧ MsAt w mv a.mat
theorem AskAt.below {w w' : World} {v : Value} {a : Ask} (h : AskAt w v a) (hb : Below w.heap.size w w') : AskAt w' v a := by
  obtain ⟨av, mv, h0, h1, h2⟩ := h
  exact ⟨av, mv, h0, h1.below hb, MsAt.below12 h2 hb⟩

def Ask.plain (a : Ask) : Ask := if a.kd = 1 then { a with mat := [] } else if a.kd = 2 then { a with all := [] } else if a.kd = 3 then { a with all := [], mat := [] } else ⟨0, 0, 0, [], []⟩
theorem Ask.ext' {a b : Ask} (h1 : a.kd = b.kd) (h2 : a.src = b.src) (h3 : a.til = b.til) (h4 : a.all = b.all) (h5 : a.mat = b.mat) : a = b := by
  obtain ⟨_, _, _, _, _⟩ := a
  obtain ⟨_, _, _, _, _⟩ := b
  simp only at h1 h2 h3 h4 h5
  subst h1 h2 h3 h4 h5
  rfl

theorem Ask.plain_kd {a : Ask} (h : 1 ≤ a.kd ∧ a.kd ≤ 3) : a.plain.kd = a.kd := by
  unfold Ask.plain
  split
  · rfl
  · split
    · rfl
    · split
      · rfl
      · omega

/-- A block's cells. -/
def Bl (W : World) (B : Nat) (t : TypeId) (arr : Array Value) : Prop := W.heap[B]? = some (.cells arr t (0, 0))
theorem Bl.lt {W : World} {B : Nat} {t : TypeId} {arr : Array Value} (h : Bl W B t arr) : B < W.heap.size := (Array.getElem?_eq_some_iff.1 h).1
theorem Bl.cell {W : World} {B : Nat} {t : TypeId} {arr : Array Value} (h : Bl W B t arr) (i : Nat) : W.cell? ⟨B, i, none⟩ = arr[i]? := by simp [World.cell?, show W.heap[B]? = _ from h]
theorem Bl.new (W : World) (t : TypeId) (arr : Array Value) : Bl (W.alloc (.cells arr t)) W.heap.size t arr := by
  show (W.heap.push _)[W.heap.size]? = _
  simp
theorem Bl.below {W W' : World} {B : Nat} {t : TypeId} {arr : Array Value} (h : Bl W B t arr) (hb : Below W.heap.size W W') : Bl W' B t arr := (hb.block B h.lt).trans h
theorem below_mid12 {a b c : World} (h : Below a.heap.size a b) (k : Below b.heap.size b c) : Below a.heap.size a c := h.trans (k.mono h.size)

end Go.Proofs.YtdjddlebjbngfaaGreatDoor.E4

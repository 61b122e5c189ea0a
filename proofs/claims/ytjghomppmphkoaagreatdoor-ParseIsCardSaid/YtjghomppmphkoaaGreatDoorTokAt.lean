/-
  TOKENS AS THEY LIE: their cells, one after the other.
-/
import Derived.Test.YtjghomppmphkoaaGreatDoorSrc6
import Derived.Test.YtjghomppmphkoaaGreatDoorNums
namespace Go.Proofs.YtjghomppmphkoaaGreatDoor
open Go.RowKit Go

/-- A token's cells. -/
def tokC (t : LX.Tok) : List Value := [.int .i64 (t.kind : Nat), .string ⟨t.says.toArray⟩, .int .i64 t.n, .int .i64 (t.place : Nat)]
def flatT : List LX.Tok → List Value
  | [] => []
  | t :: r => tokC t ++ flatT r

theorem flatT_length : ∀ R : List LX.Tok, (flatT R).length = R.length * 4
  | [] => rfl
  | x :: r => by simp only [flatT, List.length_append, flatT_length r, tokC, List.length_cons, List.length_nil]; omega

theorem flatT_append : ∀ R S : List LX.Tok, flatT (R ++ S) = flatT R ++ flatT S
  | [], _ => rfl
  | x :: r, S => by simp only [List.cons_append, flatT, flatT_append r S, List.append_assoc]

theorem info36 : (Tryz.prog.info? 46).map (fun i => (i.zero, i.size, i.bytes)) = some (some (.agg #[.int .i64 0, .string ⟨#[]⟩, .int .i64 0, .int .i64 0]), 4, 40) := by kernel_rfl

theorem elem36 : ∃ i z, Elem Tryz.prog 42 46 i z 4 40 := by
  obtain ⟨i, hi, hz, hs, hb⟩ := info_parts info36
  exact ⟨i, _, Tryz.underlying42, hi, hz, hs, hb, by kernel_rfl⟩

theorem src_tok (w : World) (g : Nat) (hg : g = w.heap.size) (t : LX.Tok) (a b c d : Value) (h : tokC t = [a, b, c, d]) : Src Tryz.prog 4 42 (.slice (some ⟨g, 0, none⟩) 1 1) 1 (flatT [t]) (w.alloc (.cells #[a, b, c, d] 46)) := by
  subst hg
  have e : flatT [t] = [a, b, c, d] := by simp only [flatT, List.append_nil, h]
  rw [e]
  refine Src.ofSlice _ Tryz.underlying42 ⟨w.heap.size, 0, none⟩ 1 1 _ rfl (fun j u hu => ?_) (fun u hu => ?_)
  · rw [add_lit0]
    rw [World.cell?_alloc_new]
    simpa using hu
  · have h' := h
    simp only [tokC, List.cons.injEq, and_true] at h'
    obtain ⟨rfl, rfl, rfl, rfl⟩ := h'
    simp only [List.mem_cons, List.not_mem_nil, or_false] at hu
    rcases hu with rfl | rfl | rfl | rfl <;> rfl

/-- What Lex answers: all tokens, or the error's number and its place. -/
def LexPost (R : Except (Nat × Nat) (List LX.Tok)) (w : World) (e : Ending) (w' : World) : Prop :=
  Below w.heap.size w w' ∧ match R with
    | .error p => e = .returned (.tuple #[.slice none 0 0, .int .i64 (p.1 : Nat), .int .i64 (p.2 : Nat)])
    | .ok ts => ∃ v, e = .returned (.tuple #[v, .int .i64 0, .int .i64 0]) ∧ Rk 4 (fun b => w.heap.size ≤ b) w' v ts.length (flatT ts)

theorem toks_at {l : List UInt8} {k : Nat} {ts : List LX.Tok} {c : UInt8} {q : List UInt8} (hd : l.drop k = c :: q) (h : LX.toks 0 l = (LX.toks k (l.drop k)).map (ts ++ ·)) {kd m : Nat} {says : List UInt8} {n : Int} (hc : c ≠ 32) (ht : LX.tok c q = some (kd, says, n, m)) :
    LX.toks 0 l = (LX.toks (k + m) (l.drop (k + m))).map ((ts ++ [⟨kd, says, n, k + 1⟩]) ++ ·) := by
  rw [h, hd, LX.toks_some hc ht, ← hd, List.drop_drop]
  cases LX.toks (k + m) (l.drop (k + m)) with
  | error e => rfl
  | ok r =>
    simp only [Except.map, List.append_assoc, List.singleton_append]

theorem lex_none {l : List UInt8} {k : Nat} {ts : List LX.Tok} {c : UInt8} {q : List UInt8} (h1 : l.length ≤ 1024) (hu : LX.U8 l) (hd : l.drop k = c :: q) (h : LX.toks 0 l = (LX.toks k (l.drop k)).map (ts ++ ·)) (hc : c ≠ 32) (ht : LX.tok c q = none) :
    LX.lex l = .error (4, k + 1) := by
  rw [LX.lex_u8 h1 hu, h, hd, LX.toks_none hc ht]
  rfl

/-- Behind the append of a token. -/
theorem tok_app {X : Nat → Prop} {w wr WX w2 : World} {o : Obj} {ao : Option Addr} {co : Nat} {v' : Value} {ts : List LX.Tok} {t : LX.Tok} (hb : Below w.heap.size w wr) (hrk : Rk 4 (fun b => w.heap.size ≤ b) wr (.slice ao ts.length co) ts.length (flatT ts)) (hlx : Lay wr WX)
    (h2 : Rk 4 (fun b => w.heap.size ≤ b ∧ X b) w2 v' (ts.length + 1) (flatT ts ++ flatT [t])) (hk : Keep (At (.slice ao ts.length co)) (WX.alloc o) w2) :
    Rk 4 (fun b => w.heap.size ≤ b) w2 v' (ts ++ [t]).length (flatT (ts ++ [t])) ∧ Below w.heap.size w w2 := by
  rw [← flatT_append] at h2
  refine ⟨by rw [List.length_append]; exact h2.mono fun b h _ => h.1, ?_⟩
  have hl : Lay wr (WX.alloc o) := hlx.alloc _
  have h3 : Below w.heap.size w (WX.alloc o) := hb.trans (hl.below.mono hb.size)
  exact h3.trans (hk.below (fun b ha => (hrk.at ha).1) h3.size)

theorem str_of {a : ByteArray} {l : List UInt8} (h : a.data.toList = l) : a = ⟨l.toArray⟩ := by
  subst h
  cases a
  rfl

theorem tok_at {k : Nat} {kd : Nat} {says : List UInt8} {n : Int} {x : ByteArray} (h : x.data.toList = says) : tokC ⟨kd, says, n, k + 1⟩ = [.int .i64 (kd : Nat), .string x, .int .i64 n, .int .i64 ((k : Int) + 1)] := by
  unfold tokC
  rw [← str_of h]
  rfl

theorem tok_c1 {w wr WX : World} (hws : w.heap.size ≤ wr.heap.size) (hl : Lay wr WX) (o : Obj) : ∀ b, (WX.alloc o).heap.size ≤ b → w.heap.size ≤ b := fun b hb => by
  have h := hl.size
  simp at hb
  omega

theorem run_next {l : List UInt8} {k p : Nat} {b : UInt8} {q : List UInt8} (hp : k + 1 ≤ p) (hd : l.drop p = b :: q) (hb : MW.ch b = true) :
    (l.drop (k + 1)).take (p - (k + 1)) ++ LX.run (l.drop p) = (l.drop (k + 1)).take (p + 1 - (k + 1)) ++ LX.run (l.drop (p + 1)) := by
  have hpl : p < l.length := by
    have := congrArg List.length hd
    rw [List.length_drop, List.length_cons] at this
    omega
  have hq : l.drop (p + 1) = q := by
    rw [← List.drop_drop, hd]
    rfl
  have e : (l.drop (k + 1)).take (p + 1 - (k + 1)) = (l.drop (k + 1)).take (p - (k + 1)) ++ [b] := by
    have h1 : p - (k + 1) < (l.drop (k + 1)).length := by rw [List.length_drop]; omega
    rw [show p + 1 - (k + 1) = p - (k + 1) + 1 by omega, List.take_succ_eq_append_getElem h1, List.getElem_drop]
    have h2 := List.drop_eq_getElem_cons hpl
    rw [hd] at h2
    congr 2
    have h3 : k + 1 + (p - (k + 1)) = p := by omega
    simp only [h3]
    exact (List.cons.inj h2).1.symm
  rw [e, hd, hq, List.append_assoc]
  congr 1
  unfold LX.run
  rw [List.takeWhile_cons_of_pos hb]
  rfl

theorem run_end (s : ByteArray) (p : Nat) (h : ∀ h : p < s.size, ¬ MW.ch s[p] = true) : LX.run (s.data.toList.drop p) = [] := by
  by_cases hp : p < s.size
  · rw [byte_drop s p hp]
    unfold LX.run
    rw [List.takeWhile_cons_of_neg (by simpa using h hp)]
  · rw [List.drop_of_length_le (by rw [← Lib.size_eq]; omega)]
    rfl

/-- A token's block. -/
def Box (g : Nat) (W : World) (a b c d : Value) : Prop :=
  g < W.heap.size ∧ W.cell? ⟨g, 0, none⟩ = some a ∧ W.cell? ⟨g, 1, none⟩ = some b ∧ W.cell? ⟨g, 2, none⟩ = some c ∧ W.cell? ⟨g, 3, none⟩ = some d ∧ ∀ j, W.frozen? ⟨g, j, none⟩ = false

theorem Box.new (wr : World) (a b c d : Value) : ∃ W0 g, W0 = wr.alloc (.cells #[a, b, c, d] 46) ∧ g = wr.heap.size ∧ Lay wr W0 ∧ Box g W0 a b c d :=
  ⟨_, _, rfl, rfl, (Keep.refl _ _).alloc _, by simp, World.cell?_alloc_new .., World.cell?_alloc_new .., World.cell?_alloc_new .., World.cell?_alloc_new .., fun j => World.frozen?_alloc_new ..⟩

theorem Box.lay {g : Nat} {W W' : World} {a b c d : Value} (h : Box g W a b c d) (hl : Lay W W') : Box g W' a b c d := by
  obtain ⟨h0, h1, h2, h3, h4, h5⟩ := h
  exact ⟨Nat.lt_of_lt_of_le h0 hl.size, (hl.cell h0).trans h1, (hl.cell h0).trans h2, (hl.cell h0).trans h3, (hl.cell h0).trans h4, fun j => (World.frozen?_of_block (a := ⟨g, j, none⟩) (hl.block h0)).trans (h5 j)⟩

theorem Box.set1 {g : Nat} {W : World} {a b c d : Value} (h : Box g W a b c d) (x : Value) : Box g (W.setCell ⟨g, 1, none⟩ x) a x c d := by
  obtain ⟨h0, h1, h2, h3, h4, h5⟩ := h
  refine ⟨by simpa [World.setCell] using h0, ?_, ?_, ?_, ?_, fun j => ?_⟩
  all_goals go_simp

end Go.Proofs.YtjghomppmphkoaaGreatDoor

/-
  FILTERS THAT LIE IN BLOCKS OF THEIR OWN, and what a Source makes, case by case.
-/
import Derived.Test.YtjghomppmphkoaaGreatDoorTree1
import Derived.Test.YtjghomppmphkoaaGreatDoorSrc6
import Derived.OwnWalk
namespace Go.Proofs.YtjghomppmphkoaaGreatDoor
open Go.RowKit Go

mutual
/-- kv is a slice of the filter's kids; all rows lie in blocks of G. -/
def KsB (G : Nat → Prop) (w : World) : Value → Ft → Prop
  | kv, .mk _ _ _ k => ∃ a cap, kv = .slice a k.length cap ∧ k.length ≤ 9223372036854775807 ∧ (k = [] ∨ ∃ b off, a = some ⟨b, off, none⟩ ∧ G b ∧ b < w.heap.size ∧ KbAt G w b off k)
/-- They lie one after the other. -/
def KbAt (G : Nat → Prop) (w : World) (b : Nat) : Nat → List Ft → Prop
  | _, [] => True
  | off, x :: r => (∃ kv, w.cell? ⟨b, off, none⟩ = some (.int .i64 x.op) ∧ w.cell? ⟨b, off + 1, none⟩ = some (.string x.name) ∧ w.cell? ⟨b, off + 2, none⟩ = some (.string x.text) ∧ w.cell? ⟨b, off + 3, none⟩ = some kv ∧ KsB G w kv x) ∧ KbAt G w b (off + 4) r
end

mutual
theorem KsB.keep {G : Nat → Prop} {w w' : World} (hs : w.heap.size ≤ w'.heap.size) (hb : ∀ b, G b → b < w.heap.size → w'.heap[b]? = w.heap[b]?) : ∀ (kv : Value) (f : Ft), KsB G w kv f → KsB G w' kv f
  | kv, .mk _ _ _ k, h => by
    rw [KsB] at h ⊢
    obtain ⟨a, cap, hv, hl, h | ⟨b, off, ha, hB, hlt, hk⟩⟩ := h
    · exact ⟨a, cap, hv, hl, .inl h⟩
    · exact ⟨a, cap, hv, hl, .inr ⟨b, off, ha, hB, Nat.lt_of_lt_of_le hlt hs, KbAt.keep hs hb b (hb b hB hlt) off k hk⟩⟩
theorem KbAt.keep {G : Nat → Prop} {w w' : World} (hs : w.heap.size ≤ w'.heap.size) (hb : ∀ b, G b → b < w.heap.size → w'.heap[b]? = w.heap[b]?) (b : Nat) (e : w'.heap[b]? = w.heap[b]?) : ∀ (off : Nat) (l : List Ft), KbAt G w b off l → KbAt G w' b off l
  | _, [], _ => by rw [KbAt]; trivial
  | off, x :: r, h => by
    rw [KbAt] at h ⊢
    obtain ⟨⟨kv, h0, h1, h2, h3, h4⟩, h5⟩ := h
    exact ⟨⟨kv, (World.cell?_of_block (a := ⟨b, off, none⟩) e).trans h0, (World.cell?_of_block (a := ⟨b, off + 1, none⟩) e).trans h1, (World.cell?_of_block (a := ⟨b, off + 2, none⟩) e).trans h2, (World.cell?_of_block (a := ⟨b, off + 3, none⟩) e).trans h3, KsB.keep hs hb kv x h4⟩, KbAt.keep hs hb b e (off + 4) r h5⟩
end

mutual
theorem KsB.mono {G G' : Nat → Prop} {w : World} (h' : ∀ b, b < w.heap.size → G b → G' b) : ∀ (kv : Value) (f : Ft), KsB G w kv f → KsB G' w kv f
  | kv, .mk _ _ _ k, h => by
    rw [KsB] at h ⊢
    obtain ⟨a, cap, hv, hl, h | ⟨b, off, ha, hB, hlt, hk⟩⟩ := h
    · exact ⟨a, cap, hv, hl, .inl h⟩
    · exact ⟨a, cap, hv, hl, .inr ⟨b, off, ha, h' b hlt hB, hlt, KbAt.mono h' b off k hk⟩⟩
theorem KbAt.mono {G G' : Nat → Prop} {w : World} (h' : ∀ b, b < w.heap.size → G b → G' b) (b : Nat) : ∀ (off : Nat) (l : List Ft), KbAt G w b off l → KbAt G' w b off l
  | _, [], _ => by rw [KbAt]; trivial
  | off, x :: r, h => by
    rw [KbAt] at h ⊢
    obtain ⟨⟨kv, h0, h1, h2, h3, h4⟩, h5⟩ := h
    exact ⟨⟨kv, h0, h1, h2, h3, KsB.mono h' kv x h4⟩, KbAt.mono h' b (off + 4) r h5⟩
end

mutual
theorem KsB.at {G : Nat → Prop} {w : World} : ∀ (kv : Value) (f : Ft), KsB G w kv f → KsAt w kv f
  | kv, .mk _ _ _ k, h => by
    rw [KsB] at h
    rw [KsAt]
    obtain ⟨a, cap, hv, hl, h | ⟨b, off, ha, hB, hlt, hk⟩⟩ := h
    · exact ⟨a, cap, hv, hl, .inl h⟩
    · exact ⟨a, cap, hv, hl, .inr ⟨b, off, ha, hlt, KbAt.at b off k hk⟩⟩
theorem KbAt.at {G : Nat → Prop} {w : World} (b : Nat) : ∀ (off : Nat) (l : List Ft), KbAt G w b off l → KAt w b off l
  | _, [], _ => by rw [KAt]; trivial
  | off, x :: r, h => by
    rw [KbAt] at h
    rw [KAt]
    obtain ⟨⟨kv, h0, h1, h2, h3, h4⟩, h5⟩ := h
    exact ⟨⟨kv, h0, h1, h2, h3, KsB.at kv x h4⟩, KbAt.at b (off + 4) r h5⟩
end

theorem KsB.nil (G : Nat → Prop) (w : World) (o : Int) (n t : ByteArray) : KsB G w (.slice none 0 0) (.mk o n t []) := by
  rw [KsB]
  exact ⟨none, 0, rfl, by simp, .inl rfl⟩

/-- Kids and their slices, as cells. -/
def flatK : List (Value × Ft) → List Value
  | [] => []
  | p :: r => [.int .i64 p.2.op, .string p.2.name, .string p.2.text, p.1] ++ flatK r

theorem flatK_length : ∀ R : List (Value × Ft), (flatK R).length = R.length * 4
  | [] => rfl
  | p :: r => by simp only [flatK, List.length_append, flatK_length r, List.length_cons, List.length_nil]; omega
theorem flatK_append : ∀ R S : List (Value × Ft), flatK (R ++ S) = flatK R ++ flatK S
  | [], _ => rfl
  | p :: r, S => by simp only [List.cons_append, flatK, flatK_append r S, List.append_assoc]

/-- A row of kids that the call owns. -/
theorem KbAt.of_cells {G : Nat → Prop} {w : World} {b : Nat} : ∀ (off : Nat) (R : List (Value × Ft)), (∀ j, j < (flatK R).length → w.cell? ⟨b, off + j, none⟩ = (flatK R)[j]?) → (∀ p ∈ R, KsB G w p.1 p.2) → KbAt G w b off (R.map (·.2))
  | _, [], _, _ => by rw [List.map_nil, KbAt]; trivial
  | off, p :: r, hc, hk => by
    rw [List.map_cons, KbAt]
    have hl : (flatK (p :: r)).length = 4 + (flatK r).length := by simp only [flatK, List.length_append, List.length_cons, List.length_nil]
    refine ⟨⟨p.1, hc 0 (by omega), hc 1 (by omega), hc 2 (by omega), hc 3 (by omega), hk p (by simp)⟩, KbAt.of_cells (off + 4) r (fun j hj => ?_) fun q hq => hk q (by simp [hq])⟩
    have := hc (4 + j) (by omega)
    rw [show off + (4 + j) = off + 4 + j by omega] at this
    rw [this]
    simp only [flatK]
    rw [List.getElem?_append_right (by simp)]
    simp

theorem KsB.of_rk {G G0 : Nat → Prop} (hG : ∀ b, G b → G0 b) {w : World} {kv : Value} {R : List (Value × Ft)} (h : Rk 4 G w kv R.length (flatK R)) (hk : ∀ p ∈ R, KsB G0 w p.1 p.2) (hl : R.length ≤ 1000) (o : Int) (n t : ByteArray) : KsB G0 w kv (.mk o n t (R.map (·.2))) := by
  rw [KsB]
  obtain ⟨_, ⟨rfl, h0⟩ | ⟨g, cap, rfl, hg, hlt, _, _, hc, _⟩⟩ := h
  · obtain rfl := List.eq_nil_of_length_eq_zero h0
    exact ⟨none, 0, rfl, by simp, .inl rfl⟩
  · refine ⟨_, _, by rw [List.length_map], by rw [List.length_map]; omega, .inr ⟨g, 0, rfl, hG g hg, hlt, KbAt.of_cells 0 R (fun j hj => ?_) hk⟩⟩
    rw [Nat.zero_add]
    exact hc j hj

theorem info26 : (Tryz.prog.info? 26).map (fun i => (i.zero, i.size, i.bytes)) = some (some (.agg #[.int .i64 0, .string ⟨#[]⟩, .string ⟨#[]⟩, .slice none 0 0]), 4, 64) := by kernel_rfl

theorem elem26 : ∃ i z, Elem Tryz.prog 24 26 i z 4 64 := by
  obtain ⟨i, hi, hz, hs, hb⟩ := info_parts info26
  exact ⟨i, _, Tryz.underlying24, hi, hz, hs, hb, by kernel_rfl⟩

theorem src_kid (w : World) (g : Nat) (hg : g = w.heap.size) (p : Value × Ft) (h1 : p.1.oneCell' = true) : Src Tryz.prog 4 24 (.slice (some ⟨g, 0, none⟩) 1 1) 1 (flatK [p]) (w.alloc (.cells #[.int .i64 p.2.op, .string p.2.name, .string p.2.text, p.1] 26)) := by
  subst hg
  have e : flatK [p] = [.int .i64 p.2.op, .string p.2.name, .string p.2.text, p.1] := rfl
  rw [e]
  refine Src.ofSlice _ Tryz.underlying24 ⟨w.heap.size, 0, none⟩ 1 1 _ rfl (fun j u hu => ?_) (fun u hu => ?_)
  · rw [add_lit0]
    rw [World.cell?_alloc_new]
    simpa using hu
  · simp only [List.mem_cons, List.not_mem_nil, or_false] at hu
    rcases hu with rfl | rfl | rfl | rfl <;> first | rfl | exact h1

/-- A kid put behind the others. -/
theorem app_kid {B : Nat} {W : World} {a : Option Addr} {c : Nat} {R : List (Value × Ft)} (h : Rk 4 (fun b => B ≤ b) W (.slice a R.length c) R.length (flatK R)) (hB : B ≤ W.heap.size) (hn : R.length ≤ 1000) (p : Value × Ft) (h1 : p.1.oneCell' = true) :
    ∃ a7 c7 w7, (Builtin.append_ #[24, 24] 24 #[.slice a R.length c, .slice (some ⟨W.heap.size, 0, none⟩) 1 1]).run Tryz.prog (W.alloc (.cells #[.int .i64 p.2.op, .string p.2.name, .string p.2.text, p.1] 26)) = .ok (.slice a7 (R.length + 1) c7) w7 ∧
      Rk 4 (fun b => B ≤ b ∧ (At (.slice a R.length c) b ∨ W.heap.size + 1 ≤ b)) w7 (.slice a7 (R.length + 1) c7) (R ++ [p]).length (flatK (R ++ [p])) ∧ Keep (At (.slice a R.length c)) (W.alloc (.cells #[.int .i64 p.2.op, .string p.2.name, .string p.2.text, p.1] 26)) w7 := by
  obtain ⟨i26, z26, E26⟩ := elem26
  obtain ⟨v7, w7, hrun, hrk, hk⟩ := run_append_rk E26 (h.alloc _) (fun k hk => by simp at hk; omega) 24 24 _ 1 _ (src_kid W _ rfl p h1) (by omega) (by omega)
  obtain ⟨a7, c7, rfl⟩ := hrk.shape
  refine ⟨a7, c7, w7, hrun, ?_, hk⟩
  rw [flatK_append, List.length_append]
  exact hrk.mono fun b hb _ => ⟨hb.1, hb.2.imp id fun h => by simpa using h⟩

/-! ### What is made, case by case -/
namespace Ft

def nd (d : Nat) : Nat := if d = 0 then 5 else 8

theorem make_word {l : List Int} {d p : Nat} (h : (next l (nd d) p).1 ≤ 1) : make l d p = (mk 3 ⟨#[]⟩ (textOf (next l 12 (next l (nd d) p).2).1) [], (next l 12 (next l (nd d) p).2).2) := by
  cases d <;> simp [nd] at h <;> simp [make, nd, h]
theorem make_has {l : List Int} {d p : Nat} (h : (next l (nd d) p).1 = 2) : make l d p = (mk 4 ⟨#[]⟩ (textOf (next l 12 (next l (nd d) p).2).1) [], (next l 12 (next l (nd d) p).2).2) := by
  cases d <;> simp [nd] at h <;> simp [make, nd, h]
theorem make_field {l : List Int} {d p : Nat} (h : (next l (nd d) p).1 = 3) : make l d p = (mk 5 (nameOf (next l 3 (next l (nd d) p).2).1) (textOf (next l 12 (next l 3 (next l (nd d) p).2).2).1) [], (next l 12 (next l 3 (next l (nd d) p).2).2).2) := by
  cases d <;> simp [nd] at h <;> simp [make, nd, h]
theorem make_bool {l : List Int} {d p : Nat} (h : (next l (nd d) p).1 = 4) : make l d p = (mk (1 + (next l 2 (next l (nd d) p).2).1) ⟨#[]⟩ ⟨#[]⟩ [], (next l 2 (next l (nd d) p).2).2) := by
  cases d <;> simp [nd] at h <;> simp [make, nd, h]
theorem make_not {l : List Int} {d p : Nat} (h : (next l 8 p).1 = 5) : make l (d + 1) p = (mk 6 ⟨#[]⟩ ⟨#[]⟩ [(make l d (next l 8 p).2).1], (make l d (next l 8 p).2).2) := by
  simp [make, h]
theorem make_and {l : List Int} {d p : Nat} (h : 6 ≤ (next l 8 p).1) : make l (d + 1) p =
    (mk (7 + (next l 2 (next l 8 p).2).1) ⟨#[]⟩ ⟨#[]⟩ (several (make l d) (2 + (next l 2 (next l 2 (next l 8 p).2).2).1) (next l 2 (next l 2 (next l 8 p).2).2).2).1,
     (several (make l d) (2 + (next l 2 (next l 2 (next l 8 p).2).2).1) (next l 2 (next l 2 (next l 8 p).2).2).2).2) := by
  have h1 : ¬ (next l 8 p).1 ≤ 1 := by omega
  have h2 : ¬ (next l 8 p).1 = 2 := by omega
  have h3 : ¬ (next l 8 p).1 = 3 := by omega
  have h4 : ¬ (next l 8 p).1 = 4 := by omega
  have h5 : ¬ (next l 8 p).1 = 5 := by omega
  simp [make, h1, h2, h3, h4, h5]
end Ft

theorem Srcs.carry {w w' : World} {g : Nat} {v : Value} {l : List Int} {p : Nat} (h : Srcs w g v l p) (hs : w.heap.size ≤ w'.heap.size) (hg : w'.heap[g]? = w.heap[g]?) (hi : ∀ b off n c, v = .slice (some ⟨b, off, none⟩) n c → l ≠ [] → w'.heap[b]? = w.heap[b]?) : Srcs w' g v l p where
  lt := Nat.lt_of_lt_of_le h.lt hs
  c0 := (World.cell?_of_block (a := ⟨g, 0, none⟩) hg).trans h.c0
  c1 := (World.cell?_of_block (a := ⟨g, 1, none⟩) hg).trans h.c1
  f1 := (World.frozen?_of_block (a := ⟨g, 1, none⟩) hg).trans h.f1
  ints := by
    obtain ⟨a, cap, hv, hl, h0 | ⟨b, off, ha, hlt, hc⟩⟩ := h.ints
    · exact ⟨a, cap, hv, hl, .inl h0⟩
    · refine ⟨a, cap, hv, hl, ?_⟩
      by_cases h0 : l = []
      · exact .inl h0
      · exact .inr ⟨b, off, ha, Nat.lt_of_lt_of_le hlt hs, fun i hi' => (World.cell?_of_block (a := ⟨b, off + i, none⟩) (hi b off _ _ (by rw [hv, ha]) h0)).trans (hc i hi')⟩
  off := h.off
  le := h.le

theorem Srcs.below {w : World} {g : Nat} {v : Value} {l : List Int} {p : Nat} (h : Srcs w g v l p) : ∀ b off n c, v = .slice (some ⟨b, off, none⟩) n c → l ≠ [] → b < w.heap.size := by
  intro b off n c hv hl
  obtain ⟨a, cap, hv', _, h0 | ⟨b', off', ha, hlt, _⟩⟩ := h.ints
  · exact absurd h0 hl
  · rw [hv', ha] at hv
    cases hv
    exact hlt

end Go.Proofs.YtjghomppmphkoaaGreatDoor

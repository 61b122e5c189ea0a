/-
  A SLICE OF THE CALL'S OWN, of elements of one cell ('Rs'), told by its cells; what append makes of it.
-/
import Derived.Test.YtgjlbcmejanfaaaDoorOver
import Derived.WalkKit
import Derived.WalkSpells
import Derived.WalkLawsBesides
import Derived.Deep.AppendSrc
import Derived.Deep.Upon
import Derived.OwnWalkIn
import Derived.Lib.Hide
namespace Go.Proofs.YtgjlbcmejanfaaaDoor
open Go.RowKit Go

/-- v is the nil slice, and xs is empty; or v holds the cells xs, in a block of G, of which no cell is frozen. -/
def Rs (G : Nat → Prop) (w : World) (v : Value) (xs : List Value) : Prop :=
  (v = .slice none 0 0 ∧ xs = []) ∨
  ∃ g cap, v = .slice (some ⟨g, 0, none⟩) xs.length cap ∧ G g ∧ g < w.heap.size ∧ xs.length ≤ cap ∧ cap ≤ maxLen ∧
    (∀ j, j < xs.length → w.cell? ⟨g, j, none⟩ = xs[j]?) ∧
    (∀ j, j < cap → (w.cell? ⟨g, j, none⟩).isSome = true ∧ w.frozen? ⟨g, j, none⟩ = false)

/-- The slice lies in block k. -/
def At (v : Value) (k : Nat) : Prop := ∃ n c, v = .slice (some ⟨k, 0, none⟩) n c

theorem Rs.nil (G : Nat → Prop) (w : World) : Rs G w (.slice none 0 0) [] := .inl ⟨rfl, rfl⟩

theorem Rs.carry {G : Nat → Prop} {w w' : World} {v : Value} {xs : List Value} (h : Rs G w v xs) (hs : w.heap.size ≤ w'.heap.size) (hb : ∀ k, G k → At v k → k < w.heap.size → w'.heap[k]? = w.heap[k]?) : Rs G w' v xs := by
  rcases h with h | ⟨g, cap, hv, hB, hg, hl, hm, hc, hf⟩
  · exact .inl h
  · have e := hb g hB ⟨_, _, hv⟩ hg
    refine .inr ⟨g, cap, hv, hB, Nat.lt_of_lt_of_le hg hs, hl, hm, fun j hj => ?_, fun j hj => ?_⟩
    · rw [World.cell?_of_block (a := ⟨g, j, none⟩) e]; exact hc j hj
    · rw [World.cell?_of_block (a := ⟨g, j, none⟩) e, World.frozen?_of_block (a := ⟨g, j, none⟩) e]; exact hf j hj

theorem Rs.alloc {G : Nat → Prop} {w : World} {v : Value} {xs : List Value} (h : Rs G w v xs) (o : Obj) : Rs G (w.alloc o) v xs :=
  h.carry (by simp) (fun k _ _ hk => Below.heap_alloc w o k hk)

theorem Rs.mono {G G' : Nat → Prop} {w : World} {v : Value} {xs : List Value} (h : Rs G w v xs) (hG : ∀ k, G k → At v k → G' k) : Rs G' w v xs := by
  rcases h with h | ⟨g, cap, hv, h1, hr⟩
  · exact .inl h
  · exact .inr ⟨g, cap, hv, hG g h1 ⟨_, _, hv⟩, hr⟩

/-- What turns not the slice's own block leaves the slice. -/
theorem Rs.keep {G H : Nat → Prop} {w w' : World} {v : Value} {xs : List Value} (h : Rs G w v xs) (hk : Keep H w w') (hd : ∀ k, G k → At v k → k < w.heap.size → ¬ H k) : Rs G w' v xs :=
  h.carry hk.size (fun k hg ha hs => hk.block k hs (hd k hg ha hs))
theorem Rs.below {G : Nat → Prop} {C : Nat} {w w' : World} {v : Value} {xs : List Value} (h : Rs G w v xs) (hC : w.heap.size ≤ C) (hb : Below C w w') : Rs G w' v xs :=
  h.carry hb.size (fun k _ _ hk => hb.block k (Nat.lt_of_lt_of_le hk hC))

theorem Rs.at {G : Nat → Prop} {w : World} {v : Value} {xs : List Value} (h : Rs G w v xs) {k : Nat} (hk : At v k) : G k ∧ k < w.heap.size := by
  obtain ⟨n, c, e⟩ := hk
  rcases h with ⟨h, _⟩ | ⟨g, cap, hv, h1, h2, _⟩
  · rw [h] at e; cases e
  · rw [hv] at e
    obtain rfl : g = k := by
      have : (some (⟨g, 0, none⟩ : Addr)) = some ⟨k, 0, none⟩ := by injection e
      simpa using this
    exact ⟨h1, h2⟩

theorem Rs.shape {G : Nat → Prop} {w : World} {v : Value} {xs : List Value} (h : Rs G w v xs) : ∃ a c, v = .slice a xs.length c := by
  rcases h with ⟨rfl, rfl⟩ | ⟨g, cap, hv, _⟩
  · exact ⟨none, 0, rfl⟩
  · exact ⟨_, _, hv⟩

theorem heap_size_setCells (b : Nat) : ∀ (vs : List Value) (o : Nat) (w : World), (w.setCells b o vs).heap.size = w.heap.size
  | [], _, _ => rfl
  | v :: r, o, w => by rw [World.setCells, heap_size_setCells b r]; simp

theorem tape_setCells (b : Nat) : ∀ (vs : List Value) (o : Nat) (w : World), (w.setCells b o vs).tape = w.tape
  | [], _, _ => rfl
  | v :: r, o, w => by rw [World.setCells, tape_setCells b r]; rfl

theorem keep_setCells (G : Nat → Prop) (b : Nat) (vs : List Value) (o : Nat) (w : World) (h : G b) : Keep G w (w.setCells b o vs) :=
  ⟨World.os_setCells w b o vs, tape_setCells b vs o w, World.output_setCells w b o vs, Nat.le_of_eq (heap_size_setCells b vs o w).symm, fun _ hk hn =>
    World.heap_setCells_other w b o vs hk (fun e => hn (e ▸ h))⟩

/-- An element type of one cell. -/
structure Elem (P : Program) (t e : TypeId) (i : TypeInfo) (z : Value) (bytes : Nat) : Prop where
  under : P.underlying t = some (.slice e)
  info : P.info? e = some i
  zero : i.zero = some z
  size : i.size = 1
  bytes : i.bytes = bytes
  one : z.cells.size = 1

theorem add_lit (g j : Nat) : (⟨g, 0, none⟩ : Addr).add j = ⟨g, j, none⟩ := by unfold Addr.add; split <;> simp_all

/-- append, of whatever source; H: the slice's own block and what is new. -/
theorem run_append_rs {P : Program} {t e : TypeId} {i : TypeInfo} {z : Value} {bytes : Nat} (E : Elem P t e i z bytes) {G : Nat → Prop} {w : World} {v : Value} {xs : List Value} (h : Rs G w v xs) (hG : ∀ k, w.heap.size ≤ k → G k) (tx ty : TypeId) (x : Value) (ys : List Value) (hs : Src P 1 tx x ys.length ys w)
    (hb : (xs.length + ys.length) * bytes ≤ 140737488355328) (hl : xs.length + ys.length ≤ 140737488355328) :
    ∃ v' w', (Builtin.append_ #[t, tx] ty #[v, x]).run P w = .ok v' w' ∧ Rs (fun k => G k ∧ (At v k ∨ w.heap.size ≤ k)) w' v' (xs ++ ys) ∧ Keep (At v) w w' := by
  have ht := E.under
  have hi := E.info
  have hz := E.zero
  have hsz := E.size
  have hml : xs.length + ys.length ≤ maxLen := by unfold maxLen; omega
  rw [← hsz] at hs
  -- a new row
  have grow : ∀ (base : Option Addr) (sc : Nat), v = .slice base xs.length sc → sc < xs.length + ys.length →
      (Builtin.firstCells i.size xs.length (.slice base xs.length sc)).run P w.drew = .ok xs.toArray w.drew →
      ∃ v' w', (Builtin.append_ #[t, tx] ty #[v, x]).run P w = .ok v' w' ∧ Rs (fun k => G k ∧ (At v k ∨ w.heap.size ≤ k)) w' v' (xs ++ ys) ∧ Keep (At v) w w' := by
    rintro base sc rfl hg hold
    have hrun := run_append_grow_src (P := P) w t tx ty e i _ ht hi hz base xs.length sc xs hold x ys.length ys hs hg (by omega) (growslice_fits hg (by rw [E.bytes]; omega))
    have hge := grownCap_ge w (xs.length + ys.length) sc e
    have hcl := grownCap_le_maxLen w (xs.length + ys.length) sc e hml
    have hzs : (Builtin.zeroCells z.cells (grownCap w (xs.length + ys.length) sc e - (xs.length + ys.length))).size = grownCap w (xs.length + ys.length) sc e - (xs.length + ys.length) := by
      rw [size_zeroCells, E.one]; omega
    refine ⟨_, _, hrun, .inr ⟨w.heap.size, _, by rw [List.length_append], ⟨hG _ (Nat.le_refl _), .inr (Nat.le_refl _)⟩, by simp, by rw [List.length_append]; exact hge, hcl, fun j hj => ?_, fun j hj => ⟨?_, ?_⟩⟩,
      ⟨rfl, rfl, rfl, by simp, fun k hk _ => Below.heap_alloc w.drew _ k (by simpa using hk)⟩⟩
    · have e1 : (w.drew.alloc (.cells ((xs ++ ys).toArray ++ Builtin.zeroCells z.cells (grownCap w (xs.length + ys.length) sc e - (xs.length + ys.length))) e)).cell? ⟨w.heap.size, j, none⟩ = _ := World.cell?_alloc_new w.drew _ _ j
      rw [e1, Array.getElem?_append_left (by simp only [List.size_toArray]; exact hj), List.getElem?_toArray]
    · have e1 : (w.drew.alloc (.cells ((xs ++ ys).toArray ++ Builtin.zeroCells z.cells (grownCap w (xs.length + ys.length) sc e - (xs.length + ys.length))) e)).cell? ⟨w.heap.size, j, none⟩ = _ := World.cell?_alloc_new w.drew _ _ j
      rw [e1]
      rw [Array.getElem?_eq_getElem (by rw [Array.size_append, hzs]; simp only [List.size_toArray, List.length_append]; omega)]
      rfl
    · exact World.frozen?_alloc_new w.drew _ _ j
  rcases h with ⟨rfl, rfl⟩ | ⟨g, cap, rfl, hBg, hg, hlc, hm, hc, hf⟩
  · by_cases hm0 : ys = []
    · subst hm0
      refine ⟨_, _, run_append_nothing (P := P) w t tx ty e i ht hi none 0 0 (Nat.le_refl _) x (by simpa using hs), Rs.nil _ w, Keep.refl _ _⟩
    · have hp : 0 < ys.length := List.length_pos_iff.2 hm0
      exact grow none 0 rfl (by simpa using hp) (run_firstCells_none w.drew i.size 0 0 0)
  · by_cases hfit : xs.length + ys.length ≤ cap
    · have hj1 : ∀ j, j < ys.length → 0 + xs.length * i.size + j < cap := fun j hj => by rw [hsz]; omega
      have hrun := run_append_room_src (P := P) w t tx ty e i ht hi g 0 xs.length cap x ys.length ys hs hfit (fun j hj => (hf _ (hj1 j hj)).1) (fun j hj => (hf _ (hj1 j hj)).2)
      have eoff : 0 + xs.length * i.size = xs.length := by rw [hsz]; omega
      rw [eoff] at hrun
      refine ⟨_, _, hrun, .inr ⟨g, cap, by rw [List.length_append], ⟨hBg, .inl ⟨_, _, rfl⟩⟩, by rw [heap_size_setCells]; exact hg, by rw [List.length_append]; exact hfit, hm, fun j hj => ?_, fun j hj => ⟨?_, ?_⟩⟩, keep_setCells _ _ _ _ _ ⟨_, _, rfl⟩⟩
      · rw [List.length_append] at hj
        by_cases hjl : j < xs.length
        · rw [World.cell?_setCells_out g _ _ _ _ (fun _ _ => .inl hjl), hc j hjl, List.getElem?_append_left hjl]
        · have ht' : j - xs.length < ys.length := by omega
          have hin := World.cell?_setCells_in g ys xs.length w (fun j hj => (hf _ (by omega)).1) (j - xs.length) ht'
          rw [show xs.length + (j - xs.length) = j by omega] at hin
          rw [hin, List.getElem?_append_right (by omega), List.getElem?_eq_getElem ht']
      · by_cases hin : xs.length ≤ j ∧ j < xs.length + ys.length
        · have ht' : j - xs.length < ys.length := by omega
          have hin := World.cell?_setCells_in g ys xs.length w (fun j hj => (hf _ (by omega)).1) (j - xs.length) ht'
          rw [show xs.length + (j - xs.length) = j by omega] at hin
          rw [hin]; rfl
        · rw [World.cell?_setCells_out g _ _ _ _ (fun _ _ => by show j < xs.length ∨ xs.length + ys.length ≤ j; omega)]
          exact (hf j hj).1
      · rw [World.frozen?_setCells]
        exact (hf j hj).2
    · exact grow _ cap rfl (by omega) (run_firstCells_some w.drew i.size xs.length ⟨g, 0, none⟩ xs.length cap xs (by rw [hsz]; omega) (fun j u hu => by
        have hj : j < xs.length := (List.getElem?_eq_some_iff.1 hu).1
        rw [add_lit]
        show w.drew.cell? ⟨g, j, none⟩ = some u
        rw [World.cell?_drew, hc j hj, hu]))

/-- A slice as what is appended. -/
theorem Rs.src {P : Program} {t e : TypeId} (ht : P.underlying t = some (.slice e)) {G : Nat → Prop} {w : World} {v : Value} {xs : List Value} (h : Rs G w v xs) (h1 : ∀ u ∈ xs, u.oneCell' = true) : Src P 1 t v xs.length xs w := by
  rcases h with ⟨rfl, rfl⟩ | ⟨g, cap, rfl, hBg, hg, hlc, hm, hc, hf⟩
  · exact Src.ofNil w ht 0
  · refine Src.ofSlice w ht _ _ _ _ (by omega) (fun j u hu => ?_) h1
    have hj : j < xs.length := (List.getElem?_eq_some_iff.1 hu).1
    rw [add_lit, hc j hj, hu]

/-- A new row of values that were written out. -/
theorem rs_new {P : Program} (w : World) (xs : List Value) (e : TypeId) (hl : xs.length ≤ 1000) : Rs (fun k => k = w.heap.size) (w.alloc (.cells xs.toArray e)) (.slice (some ⟨w.heap.size, 0, none⟩) xs.length xs.length) xs := by
  refine .inr ⟨w.heap.size, xs.length, rfl, rfl, by simp, Nat.le_refl _, by unfold maxLen; omega, fun j hj => ?_, fun j hj => ⟨?_, ?_⟩⟩
  · have e1 : (w.alloc (.cells xs.toArray e)).cell? ⟨w.heap.size, j, none⟩ = _ := World.cell?_alloc_new w _ _ j
    rw [e1, List.getElem?_toArray]
  · have e1 : (w.alloc (.cells xs.toArray e)).cell? ⟨w.heap.size, j, none⟩ = _ := World.cell?_alloc_new w _ _ j
    rw [e1, Array.getElem?_eq_getElem (by simpa using hj)]
    rfl
  · exact World.frozen?_alloc_new w _ _ j

/-- append at the walk, and in a fence. -/
theorem wpList_append_rs {P : Program} {t e : TypeId} {i : TypeInfo} {z : Value} {bytes : Nat} (E : Elem P t e i z bytes) (w : World) {ops : Array Oper} {rest : List Oper} {o : Oper} {a : Act} {Q : Exit → Act → World → Prop} (hgd : o.guard = none) (s x : Operand) (tx : TypeId)
    (ho : o.op = .call { callee := .builtin .append, args := #[s, x], argTypes := #[t, tx] })
    {G : Nat → Prop} {v : Value} {xs : List Value} (hv : a.eval s = v) (h : Rs G w v xs) (hG : ∀ k, w.heap.size ≤ k → G k)
    (xv : Value) (ys : List Value) (hx : a.eval x = xv) (hs : Src P 1 tx xv ys.length ys w) (hb : (xs.length + ys.length) * bytes ≤ 140737488355328) (hl : xs.length + ys.length ≤ 140737488355328)
    (hK : ∀ v' w', Rs (fun k => G k ∧ (At v k ∨ w.heap.size ≤ k)) w' v' (xs ++ ys) → Keep (At v) w w' → wpList P ops Q rest (a.put o.dst v') w') : wpList P ops Q (o :: rest) a w := by
  refine wpList_plain hgd fun K hK' => ?_
  obtain ⟨v', w', hrun, h1, h2⟩ := run_append_rs E h hG tx o.type xv ys hs hb hl
  unfold Oper.wp
  simp [execOp, ho, resolve, invoke, builtin, hv, hx, hrun, Result.andThen]
  exact hK' _ _ (hK v' w' h1 h2)

theorem wpListIn_append_rs {F : Fence} {n : Nat} {P : Program} {t e : TypeId} {i : TypeInfo} {z : Value} {bytes : Nat} (E : Elem P t e i z bytes) (w : World) {ops : Array Oper} {rest : List Oper} {o : Oper} {a : Act} {Q : Exit → Act → World → Prop} (hgd : o.guard = none) (s x : Operand) (tx : TypeId)
    (ho : o.op = .call { callee := .builtin .append, args := #[s, x], argTypes := #[t, tx] })
    {G : Nat → Prop} {v : Value} {xs : List Value} (hv : a.eval s = v) (h : Rs G w v xs) (hG : ∀ k, w.heap.size ≤ k → G k)
    (xv : Value) (ys : List Value) (hx : a.eval x = xv) (hs : Src P 1 tx xv ys.length ys w) (hb : (xs.length + ys.length) * bytes ≤ 140737488355328) (hl : xs.length + ys.length ≤ 140737488355328)
    (hK : ∀ v' w', Rs (fun k => G k ∧ (At v k ∨ w.heap.size ≤ k)) w' v' (xs ++ ys) → Keep (At v) w w' → wpListIn F n P ops Q rest (a.put o.dst v') w') : wpListIn F n P ops Q (o :: rest) a w := by
  refine wpListIn_plain hgd fun K hK' => ?_
  obtain ⟨v', w', hrun, h1, h2⟩ := run_append_rs E h hG tx o.type xv ys hs hb hl
  unfold Oper.wpIn
  refine ⟨?_, ?_⟩
  · simp [Oper.about, ho, resolve, Target.leads, Sem.run_pure]
  · rw [Oper.semAt_plain F _ _ (by rw [ho]; intro c hc'; cases hc')]
    simp [execOp, ho, resolve, invoke, builtin, hv, hx, hrun, Result.andThen]
    exact hK' _ _ (hK v' w' h1 h2)

end Go.Proofs.YtgjlbcmejanfaaaDoor

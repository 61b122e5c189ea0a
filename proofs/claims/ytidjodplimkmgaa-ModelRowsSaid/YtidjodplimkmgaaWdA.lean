/-
  WORDS OF BYTES, AND NAMES: no program in it.
  A SLICE OF THE CALL'S OWN, of elements of k cells ('Rk'), told by its cells; what append makes of it. What turns, and what doesn't ('Keep', 'Lay').
  STRINGS, BYTE BY BYTE: what a walk asks of them.
  THE DOCUMENT'S OWN Name.
-/
import Derived.Lib.DecodeN
import Derived.Lib.Strings
import Derived.Test.YtidjodplimkmgaaRows
import Derived.WalkKit
import Derived.WalkSpells
import Derived.WalkLawsBesides
import Derived.Deep.Upon
import Derived.Lib.ConvBytes
import Derived.Lib.Hide
import Derived.Sort.Grow
import Derived.WalkSmall
import Derived.Deep.QuietTactic
import Derived.BigQuiet
import Derived.Lib.OthersKept
import Derived.Lib.Walk
import Derived.Outline
namespace Go.Proofs.Ytidjodplimkmgaa.MW
open Go

/-- Is a rune a word's? -/
def letter (c : Nat) : Bool := if 128 ≤ c then c != 65533 else (decide (97 ≤ c) && decide (c ≤ 122)) || (decide (65 ≤ c) && decide (c ≤ 90)) || (decide (48 ≤ c) && decide (c ≤ 57)) || c == 95

/-- The first rune of a text, and how many bytes it has. -/
def dec (l : List UInt8) : Nat × Nat := Lib.decodeN l.length (l.getD 0 0).toNat (l.getD 1 0).toNat (l.getD 2 0).toNat (l.getD 3 0).toNat

def af : Nat → List UInt8 → Bool
  | 0, _ => true
  | f + 1, l => if l = [] then true else letter (dec l).1 && af f (l.drop (dec l).2)

def all (l : List UInt8) : Bool := af l.length l
/-- Is all of it one word? -/
def is (l : List UInt8) : Bool := all l && !l.isEmpty

/-- A byte of a name. -/
def ch (c : UInt8) : Bool := c == 95 || (decide (48 ≤ c.toNat) && decide (c.toNat ≤ 57)) || (decide (97 ≤ c.toNat) && decide (c.toNat ≤ 122)) || (decide (65 ≤ c.toNat) && decide (c.toNat ≤ 90))
def dig (c : UInt8) : Bool := decide (48 ≤ c.toNat) && decide (c.toNat ≤ 57)
/-- Can it be a label's name? -/
def name (l : List UInt8) : Bool := !l.isEmpty && decide (l.length ≤ 20) && !dig (l.headD 0) && l.all ch

end Go.Proofs.Ytidjodplimkmgaa.MW

namespace Go.Proofs.Ytidjodplimkmgaa
open Go.RowKit Go

theorem heap_size_setCells (b : Nat) : ∀ (vs : List Value) (o : Nat) (w : World), (w.setCells b o vs).heap.size = w.heap.size
  | [], _, _ => rfl
  | v :: r, o, w => by rw [World.setCells, heap_size_setCells b r]; simp

theorem tape_setCells (b : Nat) : ∀ (vs : List Value) (o : Nat) (w : World), (w.setCells b o vs).tape = w.tape
  | [], _, _ => rfl
  | v :: r, o, w => by rw [World.setCells, tape_setCells b r]; rfl

/-- Of the old blocks only those of G have turned. -/
structure Keep (G : Nat → Prop) (w w' : World) : Prop where
  os : w'.os = w.os
  tape : w'.tape = w.tape
  output : w'.output = w.output
  size : w.heap.size ≤ w'.heap.size
  drawn : w.drawn ≤ w'.drawn
  block : ∀ k, k < w.heap.size → ¬ G k → w'.heap[k]? = w.heap[k]?

theorem Keep.refl (G : Nat → Prop) (w : World) : Keep G w w := ⟨rfl, rfl, rfl, Nat.le_refl _, Nat.le_refl _, fun _ _ _ => rfl⟩
theorem Keep.trans {G : Nat → Prop} {a b c : World} (h : Keep G a b) (k : Keep G b c) : Keep G a c :=
  ⟨k.os.trans h.os, k.tape.trans h.tape, k.output.trans h.output, Nat.le_trans h.size k.size, Nat.le_trans h.drawn k.drawn, fun i hi hn => (k.block i (Nat.lt_of_lt_of_le hi h.size) hn).trans (h.block i hi hn)⟩
theorem Keep.alloc {G : Nat → Prop} {a w : World} (h : Keep G a w) (o : Obj) : Keep G a (w.alloc o) :=
  h.trans ⟨rfl, rfl, rfl, by simp, Nat.le_refl _, fun k hk _ => Below.heap_alloc _ _ _ hk⟩
theorem Keep.drewN {G : Nat → Prop} {a w : World} (h : Keep G a w) (n : Nat) : Keep G a (w.drewN n) := ⟨h.os, h.tape, h.output, h.size, Nat.le_trans h.drawn (Nat.le_add_right _ _), h.block⟩
theorem Keep.drew {G : Nat → Prop} {a w : World} (h : Keep G a w) : Keep G a w.drew := h.drewN 1
theorem Keep.into {G H : Nat → Prop} {w w' : World} (h : Keep G w w') (hk : ∀ k, k < w.heap.size → G k → H k) : Keep H w w' :=
  ⟨h.os, h.tape, h.output, h.size, h.drawn, fun k hlt hn => h.block k hlt (fun hg => hn (hk k hlt hg))⟩
theorem Keep.below {G : Nat → Prop} {B : Nat} {w w' : World} (h : Keep G w w') (hG : ∀ k, G k → B ≤ k) (hB : B ≤ w.heap.size) : Below B w w' :=
  ⟨h.os, h.tape, h.output, h.size, fun k hk => h.block k (by omega) (fun hg => by have := hG k hg; omega)⟩
theorem Keep.setCell {G : Nat → Prop} {a w : World} (h : Keep G a w) {p : Addr} (hp : a.heap.size ≤ p.block ∨ G p.block) (u : Value) : Keep G a (w.setCell p u) :=
  ⟨h.os, h.tape, h.output, by simpa [World.setCell] using h.size, h.drawn, fun k hk hn => (Below.heap_setCell w p u k (fun e => by subst e; exact hp.elim (fun h => by omega) hn)).trans (h.block k hk hn)⟩

/-- Nothing that was there has turned; draws have gone on. -/
abbrev Lay (w w' : World) : Prop := Keep (fun _ => False) w w'

theorem Lay.below {w w' : World} (h : Lay w w') : Below w.heap.size w w' := Keep.below h (fun _ h => h.elim) (Nat.le_refl _)
theorem Lay.keep {G : Nat → Prop} {w w' : World} (h : Lay w w') : Keep G w w' := h.into fun _ _ h => h.elim
theorem Lay.block {w w' : World} (h : Lay w w') {k : Nat} (hk : k < w.heap.size) : w'.heap[k]? = w.heap[k]? := Keep.block h k hk (fun h => h)
theorem Lay.cell {w w' : World} (h : Lay w w') {b o : Nat} (hk : b < w.heap.size) : w'.cell? ⟨b, o, none⟩ = w.cell? ⟨b, o, none⟩ := World.cell?_of_block (a := ⟨b, o, none⟩) (h.block hk)
theorem Lay.set {a w : World} (h : Lay a w) {p : Addr} (hp : a.heap.size ≤ p.block) (u : Value) : Lay a (w.setCell p u) := Keep.setCell h (.inl hp) u

/-- v is the nil slice, and there are none; or v holds n elements of k cells each, in a block of G, of which no cell is frozen. -/
def Rk (k : Nat) (G : Nat → Prop) (w : World) (v : Value) (n : Nat) (xs : List Value) : Prop :=
  xs.length = n * k ∧ ((v = .slice none 0 0 ∧ n = 0) ∨
  ∃ g cap, v = .slice (some ⟨g, 0, none⟩) n cap ∧ G g ∧ g < w.heap.size ∧ n ≤ cap ∧ cap ≤ maxLen ∧
    (∀ j, j < xs.length → w.cell? ⟨g, j, none⟩ = xs[j]?) ∧
    (∀ j, j < cap * k → (w.cell? ⟨g, j, none⟩).isSome = true ∧ w.frozen? ⟨g, j, none⟩ = false))

/-- The slice lies in block k. -/
def At (v : Value) (k : Nat) : Prop := ∃ n c, v = .slice (some ⟨k, 0, none⟩) n c

theorem Rk.nil (k : Nat) (G : Nat → Prop) (w : World) : Rk k G w (.slice none 0 0) 0 [] := ⟨by simp, .inl ⟨rfl, rfl⟩⟩

theorem Rk.carry {k : Nat} {G : Nat → Prop} {w w' : World} {v : Value} {n : Nat} {xs : List Value} (h : Rk k G w v n xs) (hs : w.heap.size ≤ w'.heap.size) (hb : ∀ k, G k → At v k → k < w.heap.size → w'.heap[k]? = w.heap[k]?) : Rk k G w' v n xs := by
  obtain ⟨h0, h | ⟨g, cap, hv, hB, hg, hl, hm, hc, hf⟩⟩ := h
  · exact ⟨h0, .inl h⟩
  · have e := hb g hB ⟨_, _, hv⟩ hg
    refine ⟨h0, .inr ⟨g, cap, hv, hB, Nat.lt_of_lt_of_le hg hs, hl, hm, fun j hj => ?_, fun j hj => ?_⟩⟩
    · rw [World.cell?_of_block (a := ⟨g, j, none⟩) e]; exact hc j hj
    · rw [World.cell?_of_block (a := ⟨g, j, none⟩) e, World.frozen?_of_block (a := ⟨g, j, none⟩) e]; exact hf j hj

theorem Rk.alloc {k : Nat} {G : Nat → Prop} {w : World} {v : Value} {n : Nat} {xs : List Value} (h : Rk k G w v n xs) (o : Obj) : Rk k G (w.alloc o) v n xs :=
  h.carry (by simp) (fun k _ _ hk => Below.heap_alloc w o k hk)
theorem Rk.drew {k : Nat} {G : Nat → Prop} {w : World} {v : Value} {n : Nat} {xs : List Value} (h : Rk k G w v n xs) : Rk k G w.drew v n xs :=
  h.carry (Nat.le_refl _) (fun _ _ _ _ => rfl)
theorem Rk.mono {k : Nat} {G G' : Nat → Prop} {w : World} {v : Value} {n : Nat} {xs : List Value} (h : Rk k G w v n xs) (hG : ∀ k, G k → At v k → G' k) : Rk k G' w v n xs := by
  obtain ⟨h0, h | ⟨g, cap, hv, h1, hr⟩⟩ := h
  · exact ⟨h0, .inl h⟩
  · exact ⟨h0, .inr ⟨g, cap, hv, hG g h1 ⟨_, _, hv⟩, hr⟩⟩
/-- What turns not the slice's own block leaves the slice. -/
theorem Rk.keep {k : Nat} {G H : Nat → Prop} {w w' : World} {v : Value} {n : Nat} {xs : List Value} (h : Rk k G w v n xs) (hk : Keep H w w') (hd : ∀ k, G k → At v k → k < w.heap.size → ¬ H k) : Rk k G w' v n xs :=
  h.carry hk.size (fun k hg ha hs => hk.block k hs (hd k hg ha hs))
theorem Rk.lay {k : Nat} {G : Nat → Prop} {w w' : World} {v : Value} {n : Nat} {xs : List Value} (h : Rk k G w v n xs) (hk : Lay w w') : Rk k G w' v n xs := h.keep hk (fun _ _ _ _ h => h)
theorem Rk.at {k : Nat} {G : Nat → Prop} {w : World} {v : Value} {n : Nat} {xs : List Value} (h : Rk k G w v n xs) {b : Nat} (hk : At v b) : G b ∧ b < w.heap.size := by
  obtain ⟨m, c, e⟩ := hk
  obtain ⟨_, ⟨h, _⟩ | ⟨g, cap, hv, h1, h2, _⟩⟩ := h
  · rw [h] at e; cases e
  · rw [hv] at e
    obtain rfl : g = b := by
      have : (some (⟨g, 0, none⟩ : Addr)) = some ⟨b, 0, none⟩ := by injection e
      simpa using this
    exact ⟨h1, h2⟩
theorem Rk.shape {k : Nat} {G : Nat → Prop} {w : World} {v : Value} {n : Nat} {xs : List Value} (h : Rk k G w v n xs) : ∃ a c, v = .slice a n c := by
  obtain ⟨_, ⟨rfl, rfl⟩ | ⟨g, cap, hv, _⟩⟩ := h
  · exact ⟨none, 0, rfl⟩
  · exact ⟨_, _, hv⟩

theorem keep_setCells (G : Nat → Prop) (b : Nat) (vs : List Value) (o : Nat) (w : World) (h : G b) : Keep G w (w.setCells b o vs) :=
  ⟨World.os_setCells w b o vs, tape_setCells b vs o w, World.output_setCells w b o vs, Nat.le_of_eq (heap_size_setCells b vs o w).symm, by
    have : ∀ (vs : List Value) (o : Nat) (w : World), (w.setCells b o vs).drawn = w.drawn := by
      intro vs
      induction vs with
      | nil => intro o w; rfl
      | cons v r ih => intro o w; rw [World.setCells, ih]; rfl
    rw [this]; exact Nat.le_refl _, fun _ hk hn =>
    World.heap_setCells_other w b o vs hk (fun e => hn (e ▸ h))⟩

/-- An element type of k cells. -/
structure Elem (P : Program) (t e : TypeId) (i : TypeInfo) (z : Value) (k bytes : Nat) : Prop where
  under : P.underlying t = some (.slice e)
  info : P.info? e = some i
  zero : i.zero = some z
  size : i.size = k
  bytes : i.bytes = bytes
  cells : z.cells.size = k

theorem add_lit0 (g j : Nat) : (⟨g, 0, none⟩ : Addr).add j = ⟨g, j, none⟩ := by unfold Addr.add; split <;> simp_all

/-- append, of whatever source. -/
theorem run_append_rk {P : Program} {t e : TypeId} {i : TypeInfo} {z : Value} {k bytes : Nat} (E : Elem P t e i z k bytes) {G : Nat → Prop} {w : World} {v : Value} {n : Nat} {xs : List Value} (h : Rk k G w v n xs) (hG : ∀ k, w.heap.size ≤ k → G k) (tx ty : TypeId) (x : Value) (m : Nat) (ys : List Value) (hs : Src P k tx x m ys w)
    (hb : (n + m) * bytes ≤ 140737488355328) (hl : n + m ≤ 140737488355328) :
    ∃ v' w', (Builtin.append_ #[t, tx] ty #[v, x]).run P w = .ok v' w' ∧ Rk k (fun k => G k ∧ (At v k ∨ w.heap.size ≤ k)) w' v' (n + m) (xs ++ ys) ∧ Keep (At v) w w' := by
  have ht := E.under
  have hi := E.info
  have hz := E.zero
  have hsz := E.size
  have hys := hs.newsLen
  have hml : n + m ≤ maxLen := by unfold maxLen; omega
  have hmul : (n + m) * k = n * k + m * k := Nat.add_mul _ _ _
  obtain ⟨hxs, h⟩ := h
  have hlen : (xs ++ ys).length = (n + m) * k := by rw [List.length_append, hxs, hys, hmul]
  rw [← hsz] at hs
  -- a new row
  have grow : ∀ (base : Option Addr) (sc : Nat), v = .slice base n sc → sc < n + m →
      (Builtin.firstCells i.size n (.slice base n sc)).run P w.drew = .ok xs.toArray w.drew →
      ∃ v' w', (Builtin.append_ #[t, tx] ty #[v, x]).run P w = .ok v' w' ∧ Rk k (fun k => G k ∧ (At v k ∨ w.heap.size ≤ k)) w' v' (n + m) (xs ++ ys) ∧ Keep (At v) w w' := by
    rintro base sc rfl hg hold
    have hrun := run_append_grow_src (P := P) w t tx ty e i _ ht hi hz base n sc xs hold x m ys hs hg (by omega) (growslice_fits hg (by rw [E.bytes]; omega))
    have hge := grownCap_ge w (n + m) sc e
    have hcl := grownCap_le_maxLen w (n + m) sc e hml
    obtain ⟨q, hq⟩ : ∃ q, grownCap w (n + m) sc e = n + m + q := ⟨_, (Nat.add_sub_cancel' hge).symm⟩
    rw [hq] at hrun hcl
    rw [Nat.add_sub_cancel_left] at hrun
    have hzs : (Builtin.zeroCells z.cells q).size = q * k := by rw [size_zeroCells, E.cells]
    have hcap : (n + m + q) * k = (n + m) * k + q * k := Nat.add_mul _ _ _
    refine ⟨_, _, hrun, ⟨hlen, .inr ⟨w.heap.size, _, rfl, ⟨hG _ (Nat.le_refl _), .inr (Nat.le_refl _)⟩, by simp, by omega, hcl, fun j hj => ?_, fun j hj => ⟨?_, ?_⟩⟩⟩,
      ⟨rfl, rfl, rfl, by simp, Nat.le_succ _, fun k hk _ => Below.heap_alloc w.drew _ k (by simpa using hk)⟩⟩
    · have e1 : (w.drew.alloc (.cells ((xs ++ ys).toArray ++ Builtin.zeroCells z.cells q) e)).cell? ⟨w.heap.size, j, none⟩ = _ := World.cell?_alloc_new w.drew _ _ j
      rw [e1, Array.getElem?_append_left (by simp only [List.size_toArray]; exact hj), List.getElem?_toArray]
    · have e1 : (w.drew.alloc (.cells ((xs ++ ys).toArray ++ Builtin.zeroCells z.cells q) e)).cell? ⟨w.heap.size, j, none⟩ = _ := World.cell?_alloc_new w.drew _ _ j
      rw [e1]
      rw [Array.getElem?_eq_getElem (by rw [Array.size_append, hzs]; simp only [List.size_toArray, hlen]; omega)]
      rfl
    · exact World.frozen?_alloc_new w.drew _ _ j
  rcases h with ⟨rfl, rfl⟩ | ⟨g, cap, rfl, hBg, hg, hlc, hm, hc, hf⟩
  · obtain rfl : xs = [] := List.eq_nil_of_length_eq_zero (by simpa using hxs)
    by_cases hm0 : m = 0
    · subst hm0
      obtain rfl : ys = [] := List.eq_nil_of_length_eq_zero (by simpa using hys)
      exact ⟨_, _, run_append_nothing (P := P) w t tx ty e i ht hi none 0 0 (Nat.le_refl _) x (by simpa using hs), ⟨by simp, .inl ⟨rfl, rfl⟩⟩, Keep.refl _ _⟩
    · exact grow none 0 rfl (by omega) (run_firstCells_none w.drew i.size 0 0 0)
  · by_cases hfit : n + m ≤ cap
    · have hck : (n + m) * k ≤ cap * k := Nat.mul_le_mul_right _ hfit
      have hj1 : ∀ j, j < ys.length → 0 + n * i.size + j < cap * k := fun j hj => by rw [hsz]; omega
      have hrun := run_append_room_src (P := P) w t tx ty e i ht hi g 0 n cap x m ys hs hfit (fun j hj => (hf _ (hj1 j hj)).1) (fun j hj => (hf _ (hj1 j hj)).2)
      have eoff : 0 + n * i.size = xs.length := by rw [hsz, hxs]; omega
      rw [eoff] at hrun
      refine ⟨_, _, hrun, ⟨hlen, .inr ⟨g, cap, rfl, ⟨hBg, .inl ⟨_, _, rfl⟩⟩, by rw [heap_size_setCells]; exact hg, hfit, hm, fun j hj => ?_, fun j hj => ⟨?_, ?_⟩⟩⟩, keep_setCells _ _ _ _ _ ⟨_, _, rfl⟩⟩
      · rw [List.length_append] at hj
        by_cases hjl : j < xs.length
        · rw [World.cell?_setCells_out g _ _ _ _ (fun _ _ => .inl hjl), hc j hjl, List.getElem?_append_left hjl]
        · have ht' : j - xs.length < ys.length := by omega
          have hin := World.cell?_setCells_in g ys xs.length w (fun j hj => (hf _ (by omega)).1) (j - xs.length) ht'
          rw [show xs.length + (j - xs.length) = j by omega] at hin
          rw [hin, List.getElem?_append_right (by omega), List.getElem?_eq_getElem ht']
      · by_cases hin : xs.length ≤ j ∧ j < xs.length + ys.length
        · have ht' : j - xs.length < ys.length := by omega
          have hin := World.cell?_setCells_in g ys xs.length w (fun j hj => (hf _ (by omega)).1) (j - xs.length) ht'
          rw [show xs.length + (j - xs.length) = j by omega] at hin
          rw [hin]; rfl
        · rw [World.cell?_setCells_out g _ _ _ _ (fun _ _ => by show j < xs.length ∨ xs.length + ys.length ≤ j; omega)]
          exact (hf j hj).1
      · rw [World.frozen?_setCells]
        exact (hf j hj).2
    · exact grow _ cap rfl (by omega) (run_firstCells_some w.drew i.size n ⟨g, 0, none⟩ n cap xs (by rw [hsz, hxs]) (fun j u hu => by
        have hj : j < xs.length := (List.getElem?_eq_some_iff.1 hu).1
        rw [add_lit0]
        show w.drew.cell? ⟨g, j, none⟩ = some u
        rw [World.cell?_drew, hc j hj, hu]))

/-- A slice as what is appended. -/
theorem Rk.src {P : Program} {t e : TypeId} (ht : P.underlying t = some (.slice e)) {k : Nat} {G : Nat → Prop} {w : World} {v : Value} {n : Nat} {xs : List Value} (h : Rk k G w v n xs) (h1 : ∀ u ∈ xs, u.oneCell' = true) : Src P k t v n xs w := by
  obtain ⟨h0, ⟨rfl, rfl⟩ | ⟨g, cap, rfl, hBg, hg, hlc, hm, hc, hf⟩⟩ := h
  · obtain rfl : xs = [] := List.eq_nil_of_length_eq_zero (by simpa using h0)
    exact Src.ofNil w ht 0
  · refine Src.ofSlice w ht _ _ _ _ h0 (fun j u hu => ?_) h1
    have hj : j < xs.length := (List.getElem?_eq_some_iff.1 hu).1
    rw [add_lit0, hc j hj, hu]

/-- A new row of values that were written out. -/
theorem rk_new (k : Nat) (w : World) (n : Nat) (xs : List Value) (e : TypeId) (h0 : xs.length = n * k) (hl : n ≤ 1000) : Rk k (fun k => k = w.heap.size) (w.alloc (.cells xs.toArray e)) (.slice (some ⟨w.heap.size, 0, none⟩) n n) n xs := by
  refine ⟨h0, .inr ⟨w.heap.size, n, rfl, rfl, by simp, Nat.le_refl _, by unfold maxLen; omega, fun j hj => ?_, fun j hj => ⟨?_, ?_⟩⟩⟩
  · have e1 : (w.alloc (.cells xs.toArray e)).cell? ⟨w.heap.size, j, none⟩ = _ := World.cell?_alloc_new w _ _ j
    rw [e1, List.getElem?_toArray]
  · have e1 : (w.alloc (.cells xs.toArray e)).cell? ⟨w.heap.size, j, none⟩ = _ := World.cell?_alloc_new w _ _ j
    rw [e1, Array.getElem?_eq_getElem (by simp only [List.size_toArray]; omega)]
    rfl
  · exact World.frozen?_alloc_new w _ _ j

end Go.Proofs.Ytidjodplimkmgaa

namespace Go.Proofs.Ytidjodplimkmgaa
open Go.RowKit Go

end Go.Proofs.Ytidjodplimkmgaa

namespace Go.Proofs.Ytidjodplimkmgaa
open Go.RowKit Go

end Go.Proofs.Ytidjodplimkmgaa

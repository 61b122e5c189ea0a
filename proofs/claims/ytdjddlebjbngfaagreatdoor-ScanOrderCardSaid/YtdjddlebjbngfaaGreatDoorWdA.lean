/-
  WORDS OF BYTES, AND NAMES: no program in it.
  A SLICE OF THE CALL'S OWN, of elements of k cells ('Rk'), told by its cells; what append makes of it. What turns, and what doesn't ('Keep', 'Lay').
  STRINGS, BYTE BY BYTE: what a walk asks of them.
  THE DOCUMENT'S OWN Name.
-/
import Derived.Lib.DecodeN
import Derived.Lib.Strings
import Derived.Test.YtdjddlebjbngfaaGreatDoorRows
import Derived.WalkKit
import Derived.WalkSpells
import Derived.WalkLawsBesides
import Derived.Deep.Upon
import Derived.Lib.ConvBytes
import Derived.Lib.Hide
import Derived.Sort.Grow
import Derived.WalkSmall
import Derived.Deep.QuietTactic
import Derived.BigQuiet
import Derived.Lib.OthersKept
import Derived.Lib.Walk
import Derived.Outline
namespace Go.Proofs.YtdjddlebjbngfaaGreatDoor.MW
open Go

/-- Is a rune a word's? -/
def letter (c : Nat) : Bool := if 128 ≤ c then c != 65533 else (decide (97 ≤ c) && decide (c ≤ 122)) || (decide (65 ≤ c) && decide (c ≤ 90)) || (decide (48 ≤ c) && decide (c ≤ 57)) || c == 95

/-- The first rune of a text, and how many bytes it has. -/
def dec (l : List UInt8) : Nat × Nat := Lib.decodeN l.length (l.getD 0 0).toNat (l.getD 1 0).toNat (l.getD 2 0).toNat (l.getD 3 0).toNat

def af : Nat → List UInt8 → Bool
  | 0, _ => true
  | f + 1, l => if l = [] then true else letter (dec l).1 && af f (l.drop (dec l).2)

def all (l : List UInt8) : Bool := af l.length l
/-- Is all of it one word? -/
def is (l : List UInt8) : Bool := all l && !l.isEmpty

/-- A byte of a name. -/
def ch (c : UInt8) : Bool := c == 95 || (decide (48 ≤ c.toNat) && decide (c.toNat ≤ 57)) || (decide (97 ≤ c.toNat) && decide (c.toNat ≤ 122)) || (decide (65 ≤ c.toNat) && decide (c.toNat ≤ 90))
def dig (c : UInt8) : Bool := decide (48 ≤ c.toNat) && decide (c.toNat ≤ 57)
/-- Can it be a label's name? -/
def name (l : List UInt8) : Bool := !l.isEmpty && decide (l.length ≤ 20) && !dig (l.headD 0) && l.all ch

end Go.Proofs.YtdjddlebjbngfaaGreatDoor.MW

namespace Go.Proofs.YtdjddlebjbngfaaGreatDoor
open Go.RowKit Go

/-- Of the old blocks only those of G have turned. -/
structure Keep (G : Nat → Prop) (w w' : World) : Prop where
  os : w'.os = w.os
  tape : w'.tape = w.tape
  output : w'.output = w.output
  size : w.heap.size ≤ w'.heap.size
  drawn : w.drawn ≤ w'.drawn
  block : ∀ k, k < w.heap.size → ¬ G k → w'.heap[k]? = w.heap[k]?

theorem Keep.refl (G : Nat → Prop) (w : World) : Keep G w w := ⟨rfl, rfl, rfl, Nat.le_refl _, Nat.le_refl _, fun _ _ _ => rfl⟩
theorem Keep.trans {G : Nat → Prop} {a b c : World} (h : Keep G a b) (k : Keep G b c) : Keep G a c :=
  ⟨k.os.trans h.os, k.tape.trans h.tape, k.output.trans h.output, Nat.le_trans h.size k.size, Nat.le_trans h.drawn k.drawn, fun i hi hn => (k.block i (Nat.lt_of_lt_of_le hi h.size) hn).trans (h.block i hi hn)⟩
theorem Keep.alloc {G : Nat → Prop} {a w : World} (h : Keep G a w) (o : Obj) : Keep G a (w.alloc o) :=
  h.trans ⟨rfl, rfl, rfl, by simp, Nat.le_refl _, fun k hk _ => Below.heap_alloc _ _ _ hk⟩
theorem Keep.into {G H : Nat → Prop} {w w' : World} (h : Keep G w w') (hk : ∀ k, k < w.heap.size → G k → H k) : Keep H w w' :=
  ⟨h.os, h.tape, h.output, h.size, h.drawn, fun k hlt hn => h.block k hlt (fun hg => hn (hk k hlt hg))⟩
/-- Nothing that was there has turned; draws have gone on. -/
abbrev Lay (w w' : World) : Prop := Keep (fun _ => False) w w'

theorem Lay.keep {G : Nat → Prop} {w w' : World} (h : Lay w w') : Keep G w w' := h.into fun _ _ h => h.elim
theorem Lay.block {w w' : World} (h : Lay w w') {k : Nat} (hk : k < w.heap.size) : w'.heap[k]? = w.heap[k]? := Keep.block h k hk (fun h => h)
theorem Lay.cell {w w' : World} (h : Lay w w') {b o : Nat} (hk : b < w.heap.size) : w'.cell? ⟨b, o, none⟩ = w.cell? ⟨b, o, none⟩ := World.cell?_of_block (a := ⟨b, o, none⟩) (h.block hk)
/-- v is the nil slice, and there are none; or v holds n elements of k cells each, in a block of G, of which no cell is frozen. -/
def Rk (k : Nat) (G : Nat → Prop) (w : World) (v : Value) (n : Nat) (xs : List Value) : Prop :=
  xs.length = n * k ∧ ((v = .slice none 0 0 ∧ n = 0) ∨
  ∃ g cap, v = .slice (some ⟨g, 0, none⟩) n cap ∧ G g ∧ g < w.heap.size ∧ n ≤ cap ∧ cap ≤ maxLen ∧
    (∀ j, j < xs.length → w.cell? ⟨g, j, none⟩ = xs[j]?) ∧
    (∀ j, j < cap * k → (w.cell? ⟨g, j, none⟩).isSome = true ∧ w.frozen? ⟨g, j, none⟩ = false))

/-- The slice lies in block k. -/
def At (v : Value) (k : Nat) : Prop := ∃ n c, v = .slice (some ⟨k, 0, none⟩) n c

theorem Rk.nil (k : Nat) (G : Nat → Prop) (w : World) : Rk k G w (.slice none 0 0) 0 [] := ⟨by simp, .inl ⟨rfl, rfl⟩⟩

theorem Rk.carry {k : Nat} {G : Nat → Prop} {w w' : World} {v : Value} {n : Nat} {xs : List Value} (h : Rk k G w v n xs) (hs : w.heap.size ≤ w'.heap.size) (hb : ∀ k, G k → At v k → k < w.heap.size → w'.heap[k]? = w.heap[k]?) : Rk k G w' v n xs := by
  obtain ⟨h0, h | ⟨g, cap, hv, hB, hg, hl, hm, hc, hf⟩⟩ := h
  · exact ⟨h0, .inl h⟩
  · have e := hb g hB ⟨_, _, hv⟩ hg
    refine ⟨h0, .inr ⟨g, cap, hv, hB, Nat.lt_of_lt_of_le hg hs, hl, hm, fun j hj => ?_, fun j hj => ?_⟩⟩
    · rw [World.cell?_of_block (a := ⟨g, j, none⟩) e]; exact hc j hj
    · rw [World.cell?_of_block (a := ⟨g, j, none⟩) e, World.frozen?_of_block (a := ⟨g, j, none⟩) e]; exact hf j hj

theorem Rk.alloc {k : Nat} {G : Nat → Prop} {w : World} {v : Value} {n : Nat} {xs : List Value} (h : Rk k G w v n xs) (o : Obj) : Rk k G (w.alloc o) v n xs :=
  h.carry (by simp) (fun k _ _ hk => Below.heap_alloc w o k hk)
theorem Rk.mono {k : Nat} {G G' : Nat → Prop} {w : World} {v : Value} {n : Nat} {xs : List Value} (h : Rk k G w v n xs) (hG : ∀ k, G k → At v k → G' k) : Rk k G' w v n xs := by
  obtain ⟨h0, h | ⟨g, cap, hv, h1, hr⟩⟩ := h
  · exact ⟨h0, .inl h⟩
  · exact ⟨h0, .inr ⟨g, cap, hv, hG g h1 ⟨_, _, hv⟩, hr⟩⟩
/-- What turns not the slice's own block leaves the slice. -/
theorem Rk.keep {k : Nat} {G H : Nat → Prop} {w w' : World} {v : Value} {n : Nat} {xs : List Value} (h : Rk k G w v n xs) (hk : Keep H w w') (hd : ∀ k, G k → At v k → k < w.heap.size → ¬ H k) : Rk k G w' v n xs :=
  h.carry hk.size (fun k hg ha hs => hk.block k hs (hd k hg ha hs))
theorem Rk.lay {k : Nat} {G : Nat → Prop} {w w' : World} {v : Value} {n : Nat} {xs : List Value} (h : Rk k G w v n xs) (hk : Lay w w') : Rk k G w' v n xs := h.keep hk (fun _ _ _ _ h => h)
theorem Rk.at {k : Nat} {G : Nat → Prop} {w : World} {v : Value} {n : Nat} {xs : List Value} (h : Rk k G w v n xs) {b : Nat} (hk : At v b) : G b ∧ b < w.heap.size := by
  obtain ⟨m, c, e⟩ := hk
  obtain ⟨_, ⟨h, _⟩ | ⟨g, cap, hv, h1, h2, _⟩⟩ := h
  · rw [h] at e; cases e
  · rw [hv] at e
    obtain rfl : g = b := by
      have : (some (⟨g, 0, none⟩ : Addr)) = some ⟨b, 0, none⟩ := by injection e
      simpa using this
    exact ⟨h1, h2⟩
theorem add_lit0 (g j : Nat) : (⟨g, 0, none⟩ : Addr).add j = ⟨g, j, none⟩ := by unfold Addr.add; split <;> simp_all

/-- A slice as what is appended. -/
theorem Rk.src {P : Program} {t e : TypeId} (ht : P.underlying t = some (.slice e)) {k : Nat} {G : Nat → Prop} {w : World} {v : Value} {n : Nat} {xs : List Value} (h : Rk k G w v n xs) (h1 : ∀ u ∈ xs, u.oneCell' = true) : Src P k t v n xs w := by
  obtain ⟨h0, ⟨rfl, rfl⟩ | ⟨g, cap, rfl, hBg, hg, hlc, hm, hc, hf⟩⟩ := h
  · obtain rfl : xs = [] := List.eq_nil_of_length_eq_zero (by simpa using h0)
    exact Src.ofNil w ht 0
  · refine Src.ofSlice w ht _ _ _ _ h0 (fun j u hu => ?_) h1
    have hj : j < xs.length := (List.getElem?_eq_some_iff.1 hu).1
    rw [add_lit0, hc j hj, hu]

end Go.Proofs.YtdjddlebjbngfaaGreatDoor

namespace Go.Proofs.YtdjddlebjbngfaaGreatDoor
open Go.RowKit Go

end Go.Proofs.YtdjddlebjbngfaaGreatDoor

namespace Go.Proofs.YtdjddlebjbngfaaGreatDoor
open Go.RowKit Go

end Go.Proofs.YtdjddlebjbngfaaGreatDoor

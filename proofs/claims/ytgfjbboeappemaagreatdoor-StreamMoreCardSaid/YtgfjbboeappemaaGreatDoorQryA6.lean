/-
  THE DOCUMENT'S OWN Query: its blocks, its matchers.
-/
import Derived.Lib.DecodeN
import Derived.Lib.Strings
import Derived.Test.YtgfjbboeappemaaGreatDoorRows
import Derived.WalkKit
import Derived.WalkSpells
import Derived.WalkLawsBesides
import Derived.Deep.Upon
import Derived.Lib.ConvBytes
import Derived.Lib.Hide
import Derived.Sort.Grow
import Derived.WalkSmall
import Derived.Deep.QuietTactic
import Derived.BigQuiet
import Derived.Lib.OthersKept
import Derived.Lib.Walk
import Derived.Outline
import Derived.OwnWalk
import Derived.Deep.RegionWith
import Derived.Laws.StructEq
import Derived.Deep.RegionLaw
import Derived.OrdersIn
import Derived.OwnWalkIn
import Derived.TacticsInMore
import Derived.LoopNIn
import Derived.LoopIn
import Derived.RangeFuncLeaves
import Derived.RangeFuncCalls
namespace Go.Proofs.YtgfjbboeappemaaGreatDoor.MW
open Go

/-- Is a rune a word's? -/
def letter (c : Nat) : Bool := if 128 ≤ c then c != 65533 else (decide (97 ≤ c) && decide (c ≤ 122)) || (decide (65 ≤ c) && decide (c ≤ 90)) || (decide (48 ≤ c) && decide (c ≤ 57)) || c == 95

/-- The first rune of a text, and how many bytes it has. -/
def dec (l : List UInt8) : Nat × Nat := Lib.decodeN l.length (l.getD 0 0).toNat (l.getD 1 0).toNat (l.getD 2 0).toNat (l.getD 3 0).toNat

theorem get_getD (s : ByteArray) (i : Nat) : s.get! i = s.data.toList.getD i 0 := by
  simp only [ByteArray.get!, List.getD_eq_getElem?_getD, Array.getElem?_toList]
  rw [getElem!_def]
  cases s.data[i]? <;> rfl

theorem dec_at (s : ByteArray) (i : Nat) : Utf8.decode s i = dec (s.data.toList.drop i) := by
  have e : ∀ k, s.get! (i + k) = (s.data.toList.drop i).getD k 0 := fun k => by
    rw [get_getD]
    simp [List.getD_eq_getElem?_getD]
  have e0 := e 0
  rw [Nat.add_zero] at e0
  rw [Lib.decode_at s i, e0, e 1, e 2, e 3]
  unfold dec
  rw [List.length_drop]
  rfl

theorem dec_pos (l : List UInt8) : 1 ≤ (dec l).2 := by
  unfold dec Lib.decodeN
  repeat' split
  all_goals simp

theorem dec_le (l : List UInt8) (h : l ≠ []) : (dec l).2 ≤ l.length := by
  have hp := List.length_pos_iff.2 h
  unfold dec Lib.decodeN
  repeat' split
  all_goals simp only
  all_goals omega

/-- Are all its runes words'? -/
theorem drop_lt (l : List UInt8) (h : l ≠ []) : (l.drop (dec l).2).length < l.length := by
  have := dec_pos l
  have := List.length_pos_iff.2 h
  rw [List.length_drop]
  omega

def af : Nat → List UInt8 → Bool
  | 0, _ => true
  | f + 1, l => if l = [] then true else letter (dec l).1 && af f (l.drop (dec l).2)

def all (l : List UInt8) : Bool := af l.length l
/-- Is all of it one word? -/
def is (l : List UInt8) : Bool := all l && !l.isEmpty

theorem dec_drop {l : List UInt8} {pos : Nat} (h : pos < l.length) : 1 ≤ (dec (l.drop pos)).2 ∧ pos + (dec (l.drop pos)).2 ≤ l.length := by
  have h1 := dec_pos (l.drop pos)
  have h2 := dec_le (l.drop pos) (by intro e; have := congrArg List.length e; simp at this; omega)
  rw [List.length_drop] at h2
  omega

/-- A byte of a name. -/
def ch (c : UInt8) : Bool := c == 95 || (decide (48 ≤ c.toNat) && decide (c.toNat ≤ 57)) || (decide (97 ≤ c.toNat) && decide (c.toNat ≤ 122)) || (decide (65 ≤ c.toNat) && decide (c.toNat ≤ 90))
def dig (c : UInt8) : Bool := decide (48 ≤ c.toNat) && decide (c.toNat ≤ 57)
theorem dec_low (b : UInt8) (r : List UInt8) (h : b.toNat < 128) : dec (b :: r) = (b.toNat, 1) := by
  unfold dec
  rw [Lib.decodeN]
  simp [h]

/-- Can it be a label's name? -/
def name (l : List UInt8) : Bool := !l.isEmpty && decide (l.length ≤ 20) && !dig (l.headD 0) && l.all ch

end Go.Proofs.YtgfjbboeappemaaGreatDoor.MW

namespace Go.Proofs.YtgfjbboeappemaaGreatDoor
open Go.RowKit Go

/-- Of the old blocks only those of G have turned. -/
structure Keep (G : Nat → Prop) (w w' : World) : Prop where
  os : w'.os = w.os
  tape : w'.tape = w.tape
  output : w'.output = w.output
  size : w.heap.size ≤ w'.heap.size
  drawn : w.drawn ≤ w'.drawn
  block : ∀ k, k < w.heap.size → ¬ G k → w'.heap[k]? = w.heap[k]?

theorem Keep.refl (G : Nat → Prop) (w : World) : Keep G w w := ⟨rfl, rfl, rfl, Nat.le_refl _, Nat.le_refl _, fun _ _ _ => rfl⟩
theorem Keep.trans {G : Nat → Prop} {a b c : World} (h : Keep G a b) (k : Keep G b c) : Keep G a c :=
  ⟨k.os.trans h.os, k.tape.trans h.tape, k.output.trans h.output, Nat.le_trans h.size k.size, Nat.le_trans h.drawn k.drawn, fun i hi hn => (k.block i (Nat.lt_of_lt_of_le hi h.size) hn).trans (h.block i hi hn)⟩
theorem Keep.alloc {G : Nat → Prop} {a w : World} (h : Keep G a w) (o : Obj) : Keep G a (w.alloc o) :=
  h.trans ⟨rfl, rfl, rfl, by simp, Nat.le_refl _, fun k hk _ => Below.heap_alloc _ _ _ hk⟩
theorem Keep.into {G H : Nat → Prop} {w w' : World} (h : Keep G w w') (hk : ∀ k, k < w.heap.size → G k → H k) : Keep H w w' :=
  ⟨h.os, h.tape, h.output, h.size, h.drawn, fun k hlt hn => h.block k hlt (fun hg => hn (hk k hlt hg))⟩
theorem Keep.below {G : Nat → Prop} {B : Nat} {w w' : World} (h : Keep G w w') (hG : ∀ k, G k → B ≤ k) (hB : B ≤ w.heap.size) : Below B w w' :=
  ⟨h.os, h.tape, h.output, h.size, fun k hk => h.block k (by omega) (fun hg => by have := hG k hg; omega)⟩
theorem Keep.setCell {G : Nat → Prop} {a w : World} (h : Keep G a w) {p : Addr} (hp : a.heap.size ≤ p.block ∨ G p.block) (u : Value) : Keep G a (w.setCell p u) :=
  ⟨h.os, h.tape, h.output, by simpa [World.setCell] using h.size, h.drawn, fun k hk hn => (Below.heap_setCell w p u k (fun e => by subst e; exact hp.elim (fun h => by omega) hn)).trans (h.block k hk hn)⟩

/-- Nothing that was there has turned; draws have gone on. -/
abbrev Lay (w w' : World) : Prop := Keep (fun _ => False) w w'

theorem Lay.below {w w' : World} (h : Lay w w') : Below w.heap.size w w' := Keep.below h (fun _ h => h.elim) (Nat.le_refl _)
theorem Lay.keep {G : Nat → Prop} {w w' : World} (h : Lay w w') : Keep G w w' := h.into fun _ _ h => h.elim
theorem Lay.block {w w' : World} (h : Lay w w') {k : Nat} (hk : k < w.heap.size) : w'.heap[k]? = w.heap[k]? := Keep.block h k hk (fun h => h)
theorem Lay.cell {w w' : World} (h : Lay w w') {b o : Nat} (hk : b < w.heap.size) : w'.cell? ⟨b, o, none⟩ = w.cell? ⟨b, o, none⟩ := World.cell?_of_block (a := ⟨b, o, none⟩) (h.block hk)
/-- v is the nil slice, and there are none; or v holds n elements of k cells each, in a block of G, of which no cell is frozen. -/
def Rk (k : Nat) (G : Nat → Prop) (w : World) (v : Value) (n : Nat) (xs : List Value) : Prop :=
  xs.length = n * k ∧ ((v = .slice none 0 0 ∧ n = 0) ∨
  ∃ g cap, v = .slice (some ⟨g, 0, none⟩) n cap ∧ G g ∧ g < w.heap.size ∧ n ≤ cap ∧ cap ≤ maxLen ∧
    (∀ j, j < xs.length → w.cell? ⟨g, j, none⟩ = xs[j]?) ∧
    (∀ j, j < cap * k → (w.cell? ⟨g, j, none⟩).isSome = true ∧ w.frozen? ⟨g, j, none⟩ = false))

/-- The slice lies in block k. -/
def At (v : Value) (k : Nat) : Prop := ∃ n c, v = .slice (some ⟨k, 0, none⟩) n c

theorem Rk.nil (k : Nat) (G : Nat → Prop) (w : World) : Rk k G w (.slice none 0 0) 0 [] := ⟨by simp, .inl ⟨rfl, rfl⟩⟩

theorem Rk.carry {k : Nat} {G : Nat → Prop} {w w' : World} {v : Value} {n : Nat} {xs : List Value} (h : Rk k G w v n xs) (hs : w.heap.size ≤ w'.heap.size) (hb : ∀ k, G k → At v k → k < w.heap.size → w'.heap[k]? = w.heap[k]?) : Rk k G w' v n xs := by
  obtain ⟨h0, h | ⟨g, cap, hv, hB, hg, hl, hm, hc, hf⟩⟩ := h
  · exact ⟨h0, .inl h⟩
  · have e := hb g hB ⟨_, _, hv⟩ hg
    refine ⟨h0, .inr ⟨g, cap, hv, hB, Nat.lt_of_lt_of_le hg hs, hl, hm, fun j hj => ?_, fun j hj => ?_⟩⟩
    · rw [World.cell?_of_block (a := ⟨g, j, none⟩) e]; exact hc j hj
    · rw [World.cell?_of_block (a := ⟨g, j, none⟩) e, World.frozen?_of_block (a := ⟨g, j, none⟩) e]; exact hf j hj

theorem Rk.alloc {k : Nat} {G : Nat → Prop} {w : World} {v : Value} {n : Nat} {xs : List Value} (h : Rk k G w v n xs) (o : Obj) : Rk k G (w.alloc o) v n xs :=
  h.carry (by simp) (fun k _ _ hk => Below.heap_alloc w o k hk)
theorem Rk.mono {k : Nat} {G G' : Nat → Prop} {w : World} {v : Value} {n : Nat} {xs : List Value} (h : Rk k G w v n xs) (hG : ∀ k, G k → At v k → G' k) : Rk k G' w v n xs := by
  obtain ⟨h0, h | ⟨g, cap, hv, h1, hr⟩⟩ := h
  · exact ⟨h0, .inl h⟩
  · exact ⟨h0, .inr ⟨g, cap, hv, hG g h1 ⟨_, _, hv⟩, hr⟩⟩
/-- What turns not the slice's own block leaves the slice. -/
theorem Rk.keep {k : Nat} {G H : Nat → Prop} {w w' : World} {v : Value} {n : Nat} {xs : List Value} (h : Rk k G w v n xs) (hk : Keep H w w') (hd : ∀ k, G k → At v k → k < w.heap.size → ¬ H k) : Rk k G w' v n xs :=
  h.carry hk.size (fun k hg ha hs => hk.block k hs (hd k hg ha hs))
theorem Rk.lay {k : Nat} {G : Nat → Prop} {w w' : World} {v : Value} {n : Nat} {xs : List Value} (h : Rk k G w v n xs) (hk : Lay w w') : Rk k G w' v n xs := h.keep hk (fun _ _ _ _ h => h)
theorem Rk.at {k : Nat} {G : Nat → Prop} {w : World} {v : Value} {n : Nat} {xs : List Value} (h : Rk k G w v n xs) {b : Nat} (hk : At v b) : G b ∧ b < w.heap.size := by
  obtain ⟨m, c, e⟩ := hk
  obtain ⟨_, ⟨h, _⟩ | ⟨g, cap, hv, h1, h2, _⟩⟩ := h
  · rw [h] at e; cases e
  · rw [hv] at e
    obtain rfl : g = b := by
      have : (some (⟨g, 0, none⟩ : Addr)) = some ⟨b, 0, none⟩ := by injection e
      simpa using this
    exact ⟨h1, h2⟩
theorem add_lit0 (g j : Nat) : (⟨g, 0, none⟩ : Addr).add j = ⟨g, j, none⟩ := by unfold Addr.add; split <;> simp_all

/-- A slice as what is appended. -/
theorem Rk.src {P : Program} {t e : TypeId} (ht : P.underlying t = some (.slice e)) {k : Nat} {G : Nat → Prop} {w : World} {v : Value} {n : Nat} {xs : List Value} (h : Rk k G w v n xs) (h1 : ∀ u ∈ xs, u.oneCell' = true) : Src P k t v n xs w := by
  obtain ⟨h0, ⟨rfl, rfl⟩ | ⟨g, cap, rfl, hBg, hg, hlc, hm, hc, hf⟩⟩ := h
  · obtain rfl : xs = [] := List.eq_nil_of_length_eq_zero (by simpa using h0)
    exact Src.ofNil w ht 0
  · refine Src.ofSlice w ht _ _ _ _ h0 (fun j u hu => ?_) h1
    have hj : j < xs.length := (List.getElem?_eq_some_iff.1 hu).1
    rw [add_lit0, hc j hj, hu]

end Go.Proofs.YtgfjbboeappemaaGreatDoor

namespace Go.Proofs.YtgfjbboeappemaaGreatDoor
open Go.RowKit Go

theorem ret_bool {a b : Bool} (h : a = b) : Ending.returned (.bool a) = .returned (.bool b) := by rw [h]

theorem idx_run (S : ByteArray) (ix bv : Nat) (hx : ix < S.size) (hb : S[ix].toNat = bv) (w : World) : (Instr.index 9 (.string S) (.int .i64 (ix : Int))).run Tryz.prog w = .ok (.int .u8 (bv : Int)) w := by
  have h : 0 ≤ (ix : Int) ∧ (ix : Int) < S.size := ⟨by omega, by omega⟩
  have e := run_index_string (P := Tryz.prog) (w := w) 9 S .i64 ix Tryz.underlying9
  rw [dif_pos h] at e
  subst hb
  exact e

theorem byte_drop (s : ByteArray) (k : Nat) (h : k < s.size) : s.data.toList.drop k = s[k] :: s.data.toList.drop (k + 1) := by
  have hl : k < s.data.toList.length := by rw [← Lib.size_eq]; exact h
  rw [List.drop_eq_getElem_cons hl]
  rfl

end Go.Proofs.YtgfjbboeappemaaGreatDoor

namespace Go.Proofs.YtgfjbboeappemaaGreatDoor
open Go.RowKit Go

end Go.Proofs.YtgfjbboeappemaaGreatDoor

namespace Go.Proofs.YtgfjbboeappemaaGreatDoor
open Go MW

/-- A filter: its kind, its texts, its kids. -/
inductive Ft where
  | mk (op : Int) (name text : ByteArray) (kids : List Ft)

namespace Ft
def op : Ft → Int | mk o _ _ _ => o
def name : Ft → ByteArray | mk _ n _ _ => n
def text : Ft → ByteArray | mk _ _ t _ => t
def kids : Ft → List Ft | mk _ _ _ k => k

/-- A filter without its kids. -/
structure Row where
  op : Int
  name : ByteArray
  text : ByteArray
  kids : Nat
  deep : Nat

mutual
/-- A filter, and all within it. -/
def rows : Nat → Ft → List Row
  | d, mk o n t k => ⟨o, n, t, k.length, d⟩ :: rowsOf (d + 1) k
def rowsOf : Nat → List Ft → List Row
  | _, [] => []
  | d, x :: r => rows d x ++ rowsOf d r
end

/-! ### Which can be -/

end Ft
end Go.Proofs.YtgfjbboeappemaaGreatDoor

namespace Go.Proofs.YtgfjbboeappemaaGreatDoor
open Go.RowKit Go

/-- A filter's value, of its kids' slice. -/
def Ft.val (f : Ft) (kv : Value) : Value := .agg #[.int .i64 f.op, .string f.name, .string f.text, kv]

mutual
/-- kv is a slice of the filter's kids. -/
def KsAt (w : World) : Value → Ft → Prop
  | kv, .mk _ _ _ k => ∃ a cap, kv = .slice a k.length cap ∧ k.length ≤ 9223372036854775807 ∧ (k = [] ∨ ∃ b off, a = some ⟨b, off, none⟩ ∧ b < w.heap.size ∧ KAt w b off k)
/-- They lie one after the other. -/
def KAt (w : World) (b : Nat) : Nat → List Ft → Prop
  | _, [] => True
  | off, x :: r => (∃ kv, w.cell? ⟨b, off, none⟩ = some (.int .i64 x.op) ∧ w.cell? ⟨b, off + 1, none⟩ = some (.string x.name) ∧ w.cell? ⟨b, off + 2, none⟩ = some (.string x.text) ∧ w.cell? ⟨b, off + 3, none⟩ = some kv ∧ KsAt w kv x) ∧ KAt w b (off + 4) r
end

theorem KAt.of {w : World} {b : Nat} : ∀ {off : Nat} {l : List Ft}, (∀ i (h : i < l.length), ∃ kv, w.cell? ⟨b, off + i * 4, none⟩ = some (.int .i64 l[i].op) ∧ w.cell? ⟨b, off + i * 4 + 1, none⟩ = some (.string l[i].name) ∧
    w.cell? ⟨b, off + i * 4 + 2, none⟩ = some (.string l[i].text) ∧ w.cell? ⟨b, off + i * 4 + 3, none⟩ = some kv ∧ KsAt w kv l[i]) → KAt w b off l
  | _, [], _ => by rw [KAt]; trivial
  | off, x :: r, h => by
    rw [KAt]
    refine ⟨?_, KAt.of fun i hi => ?_⟩
    · have := h 0 (by simp)
      simpa using this
    · have := h (i + 1) (by simpa using hi)
      rw [show off + (i + 1) * 4 = off + 4 + i * 4 by omega] at this
      simpa using this

end Go.Proofs.YtgfjbboeappemaaGreatDoor

namespace Go.Proofs.YtgfjbboeappemaaGreatDoor
open Go.RowKit Go

end Go.Proofs.YtgfjbboeappemaaGreatDoor

namespace Go.Proofs.YtgfjbboeappemaaGreatDoor
open Go MW
namespace Ft

def texts : List ByteArray := [⟨#[103, 101, 116]⟩, ⟨#[101, 114, 114]⟩, ⟨#[97]⟩, ⟨#[98]⟩, ⟨#[111, 107, 32, 50, 48, 48]⟩, ⟨#[120, 45, 121]⟩, ⟨#[32, 97, 32]⟩, ⟨#[]⟩, ⟨#[195, 169]⟩, ⟨#[107, 61, 103, 101, 116]⟩, ⟨#[97, 34, 98]⟩, ⟨#[105, 100, 95, 55]⟩]
end Ft
end Go.Proofs.YtgfjbboeappemaaGreatDoor

namespace Go.Proofs.YtgfjbboeappemaaGreatDoor
open Go.RowKit Go

/-- Numbers that lie so. -/
def IntsAt (w : World) (v : Value) (l : List Int) : Prop :=
  ∃ a cap, v = .slice a l.length cap ∧ l.length ≤ 9223372036854775807 ∧ (l = [] ∨ ∃ b off, a = some ⟨b, off, none⟩ ∧ b < w.heap.size ∧ ∀ i (h : i < l.length), w.cell? ⟨b, off + i, none⟩ = some (.int .i64 l[i]))

theorem IntsAt.keep {G : Nat → Prop} {w w' : World} {v : Value} {l : List Int} (h : IntsAt w v l) (hk : Keep G w w') (hd : ∀ b off n c, v = .slice (some ⟨b, off, none⟩) n c → ¬ G b) : IntsAt w' v l := by
  obtain ⟨a, cap, hv, hl, h | ⟨b, off, ha, hlt, hc⟩⟩ := h
  · exact ⟨a, cap, hv, hl, .inl h⟩
  · refine ⟨a, cap, hv, hl, .inr ⟨b, off, ha, Nat.lt_of_lt_of_le hlt hk.size, fun i hi => ?_⟩⟩
    rw [World.cell?_of_block (a := ⟨b, off + i, none⟩) (hk.block b hlt (hd b off _ _ (by rw [hv, ha])))]
    exact hc i hi

/-- A source of numbers: which, and how many are used up; what it reads lies elsewhere. -/
structure Srcs (w : World) (g : Nat) (v : Value) (l : List Int) (p : Nat) : Prop where
  lt : g < w.heap.size
  c0 : w.cell? ⟨g, 0, none⟩ = some v
  c1 : w.cell? ⟨g, 1, none⟩ = some (.int .i64 (p : Nat))
  f1 : w.frozen? ⟨g, 1, none⟩ = false
  ints : IntsAt w v l
  off : l ≠ [] → ∀ b off n c, v = .slice (some ⟨b, off, none⟩) n c → b ≠ g
  le : p ≤ l.length

end Go.Proofs.YtgfjbboeappemaaGreatDoor

namespace Go.Proofs.YtgfjbboeappemaaGreatDoor
open Go.RowKit Go

mutual
/-- kv is a slice of the filter's kids; all rows lie in blocks of G. -/
def KsB (G : Nat → Prop) (w : World) : Value → Ft → Prop
  | kv, .mk _ _ _ k => ∃ a cap, kv = .slice a k.length cap ∧ k.length ≤ 9223372036854775807 ∧ (k = [] ∨ ∃ b off, a = some ⟨b, off, none⟩ ∧ G b ∧ b < w.heap.size ∧ KbAt G w b off k)
/-- They lie one after the other. -/
def KbAt (G : Nat → Prop) (w : World) (b : Nat) : Nat → List Ft → Prop
  | _, [] => True
  | off, x :: r => (∃ kv, w.cell? ⟨b, off, none⟩ = some (.int .i64 x.op) ∧ w.cell? ⟨b, off + 1, none⟩ = some (.string x.name) ∧ w.cell? ⟨b, off + 2, none⟩ = some (.string x.text) ∧ w.cell? ⟨b, off + 3, none⟩ = some kv ∧ KsB G w kv x) ∧ KbAt G w b (off + 4) r
end

mutual
theorem KsB.keep {G : Nat → Prop} {w w' : World} (hs : w.heap.size ≤ w'.heap.size) (hb : ∀ b, G b → b < w.heap.size → w'.heap[b]? = w.heap[b]?) : ∀ (kv : Value) (f : Ft), KsB G w kv f → KsB G w' kv f
  | kv, .mk _ _ _ k, h => by
    rw [KsB] at h ⊢
    obtain ⟨a, cap, hv, hl, h | ⟨b, off, ha, hB, hlt, hk⟩⟩ := h
    · exact ⟨a, cap, hv, hl, .inl h⟩
    · exact ⟨a, cap, hv, hl, .inr ⟨b, off, ha, hB, Nat.lt_of_lt_of_le hlt hs, KbAt.keep hs hb b (hb b hB hlt) off k hk⟩⟩
theorem KbAt.keep {G : Nat → Prop} {w w' : World} (hs : w.heap.size ≤ w'.heap.size) (hb : ∀ b, G b → b < w.heap.size → w'.heap[b]? = w.heap[b]?) (b : Nat) (e : w'.heap[b]? = w.heap[b]?) : ∀ (off : Nat) (l : List Ft), KbAt G w b off l → KbAt G w' b off l
  | _, [], _ => by rw [KbAt]; trivial
  | off, x :: r, h => by
    rw [KbAt] at h ⊢
    obtain ⟨⟨kv, h0, h1, h2, h3, h4⟩, h5⟩ := h
    exact ⟨⟨kv, (World.cell?_of_block (a := ⟨b, off, none⟩) e).trans h0, (World.cell?_of_block (a := ⟨b, off + 1, none⟩) e).trans h1, (World.cell?_of_block (a := ⟨b, off + 2, none⟩) e).trans h2, (World.cell?_of_block (a := ⟨b, off + 3, none⟩) e).trans h3, KsB.keep hs hb kv x h4⟩, KbAt.keep hs hb b e (off + 4) r h5⟩
end

mutual
theorem KsB.mono {G G' : Nat → Prop} {w : World} (h' : ∀ b, b < w.heap.size → G b → G' b) : ∀ (kv : Value) (f : Ft), KsB G w kv f → KsB G' w kv f
  | kv, .mk _ _ _ k, h => by
    rw [KsB] at h ⊢
    obtain ⟨a, cap, hv, hl, h | ⟨b, off, ha, hB, hlt, hk⟩⟩ := h
    · exact ⟨a, cap, hv, hl, .inl h⟩
    · exact ⟨a, cap, hv, hl, .inr ⟨b, off, ha, h' b hlt hB, hlt, KbAt.mono h' b off k hk⟩⟩
theorem KbAt.mono {G G' : Nat → Prop} {w : World} (h' : ∀ b, b < w.heap.size → G b → G' b) (b : Nat) : ∀ (off : Nat) (l : List Ft), KbAt G w b off l → KbAt G' w b off l
  | _, [], _ => by rw [KbAt]; trivial
  | off, x :: r, h => by
    rw [KbAt] at h ⊢
    obtain ⟨⟨kv, h0, h1, h2, h3, h4⟩, h5⟩ := h
    exact ⟨⟨kv, h0, h1, h2, h3, KsB.mono h' kv x h4⟩, KbAt.mono h' b (off + 4) r h5⟩
end

mutual
theorem KsB.at {G : Nat → Prop} {w : World} : ∀ (kv : Value) (f : Ft), KsB G w kv f → KsAt w kv f
  | kv, .mk _ _ _ k, h => by
    rw [KsB] at h
    rw [KsAt]
    obtain ⟨a, cap, hv, hl, h | ⟨b, off, ha, hB, hlt, hk⟩⟩ := h
    · exact ⟨a, cap, hv, hl, .inl h⟩
    · exact ⟨a, cap, hv, hl, .inr ⟨b, off, ha, hlt, KbAt.at b off k hk⟩⟩
theorem KbAt.at {G : Nat → Prop} {w : World} (b : Nat) : ∀ (off : Nat) (l : List Ft), KbAt G w b off l → KAt w b off l
  | _, [], _ => by rw [KAt]; trivial
  | off, x :: r, h => by
    rw [KbAt] at h
    rw [KAt]
    obtain ⟨⟨kv, h0, h1, h2, h3, h4⟩, h5⟩ := h
    exact ⟨⟨kv, h0, h1, h2, h3, KsB.at kv x h4⟩, KbAt.at b (off + 4) r h5⟩
end

/-! ### What is made, case by case -/
namespace Ft

end Ft

theorem Srcs.carry {w w' : World} {g : Nat} {v : Value} {l : List Int} {p : Nat} (h : Srcs w g v l p) (hs : w.heap.size ≤ w'.heap.size) (hg : w'.heap[g]? = w.heap[g]?) (hi : ∀ b off n c, v = .slice (some ⟨b, off, none⟩) n c → l ≠ [] → w'.heap[b]? = w.heap[b]?) : Srcs w' g v l p where
  lt := Nat.lt_of_lt_of_le h.lt hs
  c0 := (World.cell?_of_block (a := ⟨g, 0, none⟩) hg).trans h.c0
  c1 := (World.cell?_of_block (a := ⟨g, 1, none⟩) hg).trans h.c1
  f1 := (World.frozen?_of_block (a := ⟨g, 1, none⟩) hg).trans h.f1
  ints := by
    obtain ⟨a, cap, hv, hl, h0 | ⟨b, off, ha, hlt, hc⟩⟩ := h.ints
    · exact ⟨a, cap, hv, hl, .inl h0⟩
    · refine ⟨a, cap, hv, hl, ?_⟩
      by_cases h0 : l = []
      · exact .inl h0
      · exact .inr ⟨b, off, ha, Nat.lt_of_lt_of_le hlt hs, fun i hi' => (World.cell?_of_block (a := ⟨b, off + i, none⟩) (hi b off _ _ (by rw [hv, ha]) h0)).trans (hc i hi')⟩
  off := h.off
  le := h.le

end Go.Proofs.YtgfjbboeappemaaGreatDoor

namespace Go.Proofs.YtgfjbboeappemaaGreatDoor
open Go.RowKit Go

end Go.Proofs.YtgfjbboeappemaaGreatDoor

namespace Go.Proofs.YtgfjbboeappemaaGreatDoor
open Go.RowKit Go

end Go.Proofs.YtgfjbboeappemaaGreatDoor

namespace Go.Proofs.YtgfjbboeappemaaGreatDoor
open Go.RowKit Go

/-- A matcher. -/
structure Mt where
  name : ByteArray
  not : Bool
  value : ByteArray
deriving DecidableEq

/-- A query. -/
structure Qy where
  src : Int
  til : Int
  mat : List Mt
  fil : Ft
  desc : Bool
  lim : Int
  page : ByteArray

def Mt.val (m : Mt) : Value := .agg #[.string m.name, .bool m.not, .string m.value]

/-- v is a slice of matchers. -/
def MsAt (w : World) (v : Value) (l : List Mt) : Prop :=
  ∃ a cap, v = .slice a l.length cap ∧ l.length ≤ 9223372036854775807 ∧ (l = [] ∨ ∃ b off, a = some ⟨b, off, none⟩ ∧ b < w.heap.size ∧
    ∀ i (h : i < l.length), w.cell? ⟨b, off + i * 3, none⟩ = some (.string l[i].name) ∧ w.cell? ⟨b, off + i * 3 + 1, none⟩ = some (.bool l[i].not) ∧ w.cell? ⟨b, off + i * 3 + 2, none⟩ = some (.string l[i].value))

/-- A query's value. -/
def Qy.val (q : Qy) (mv kv : Value) : Value := .agg #[.int .i64 q.src, .int .i64 q.til, mv, .int .i64 q.fil.op, .string q.fil.name, .string q.fil.text, kv, .bool q.desc, .int .i64 q.lim, .string q.page]

end Go.Proofs.YtgfjbboeappemaaGreatDoor

namespace Go.Proofs.YtgfjbboeappemaaGreatDoor
open Go.RowKit Go

/-- A block of four cells. -/
structure Bx (W : World) (k : Nat) (u0 u1 u2 u3 : Value) : Prop where
  c0 : W.cell? ⟨k, 0, none⟩ = some u0
  c1 : W.cell? ⟨k, 1, none⟩ = some u1
  c2 : W.cell? ⟨k, 2, none⟩ = some u2
  c3 : W.cell? ⟨k, 3, none⟩ = some u3
  f0 : W.frozen? ⟨k, 0, none⟩ = false
  f1 : W.frozen? ⟨k, 1, none⟩ = false
  f2 : W.frozen? ⟨k, 2, none⟩ = false
  f3 : W.frozen? ⟨k, 3, none⟩ = false

theorem Bx.carry {W W' : World} {k : Nat} {u0 u1 u2 u3 : Value} (h : Bx W k u0 u1 u2 u3) (hb : W'.heap[k]? = W.heap[k]?) : Bx W' k u0 u1 u2 u3 :=
  ⟨(World.cell?_of_block (a := ⟨k, 0, none⟩) hb).trans h.c0, (World.cell?_of_block (a := ⟨k, 1, none⟩) hb).trans h.c1, (World.cell?_of_block (a := ⟨k, 2, none⟩) hb).trans h.c2, (World.cell?_of_block (a := ⟨k, 3, none⟩) hb).trans h.c3,
   (World.frozen?_of_block (a := ⟨k, 0, none⟩) hb).trans h.f0, (World.frozen?_of_block (a := ⟨k, 1, none⟩) hb).trans h.f1, (World.frozen?_of_block (a := ⟨k, 2, none⟩) hb).trans h.f2, (World.frozen?_of_block (a := ⟨k, 3, none⟩) hb).trans h.f3⟩

theorem Bx.set0 {W : World} {k : Nat} {u0 u1 u2 u3 : Value} (h : Bx W k u0 u1 u2 u3) (u : Value) : Bx (W.setCell ⟨k, 0, none⟩ u) k u u1 u2 u3 := by
  obtain ⟨c0, c1, c2, c3, f0, f1, f2, f3⟩ := h
  exact ⟨by go_simp, by go_simp, by go_simp, by go_simp, by go_simp, by go_simp, by go_simp, by go_simp⟩
theorem Bx.set1 {W : World} {k : Nat} {u0 u1 u2 u3 : Value} (h : Bx W k u0 u1 u2 u3) (u : Value) : Bx (W.setCell ⟨k, 1, none⟩ u) k u0 u u2 u3 := by
  obtain ⟨c0, c1, c2, c3, f0, f1, f2, f3⟩ := h
  exact ⟨by go_simp, by go_simp, by go_simp, by go_simp, by go_simp, by go_simp, by go_simp, by go_simp⟩
theorem Bx.set2 {W : World} {k : Nat} {u0 u1 u2 u3 : Value} (h : Bx W k u0 u1 u2 u3) (u : Value) : Bx (W.setCell ⟨k, 2, none⟩ u) k u0 u1 u u3 := by
  obtain ⟨c0, c1, c2, c3, f0, f1, f2, f3⟩ := h
  exact ⟨by go_simp, by go_simp, by go_simp, by go_simp, by go_simp, by go_simp, by go_simp, by go_simp⟩
theorem Bx.set3 {W : World} {k : Nat} {u0 u1 u2 u3 : Value} (h : Bx W k u0 u1 u2 u3) (u : Value) : Bx (W.setCell ⟨k, 3, none⟩ u) k u0 u1 u2 u := by
  obtain ⟨c0, c1, c2, c3, f0, f1, f2, f3⟩ := h
  exact ⟨by go_simp, by go_simp, by go_simp, by go_simp, by go_simp, by go_simp, by go_simp, by go_simp⟩

/-- A token that was stored there. -/
def stored (W : World) (k : Nat) (u0 u1 u2 u3 : Value) : World := (((W.setCell ⟨k, 0, none⟩ u0).setCell ⟨k, 1, none⟩ u1).setCell ⟨k, 2, none⟩ u2).setCell ⟨k, 3, none⟩ u3

theorem Bx.all {W : World} {k : Nat} {u0 u1 u2 u3 : Value} (h : Bx W k u0 u1 u2 u3) (v0 v1 v2 v3 : Value) : Bx (stored W k v0 v1 v2 v3) k v0 v1 v2 v3 :=
  (((h.set0 v0).set1 v1).set2 v2).set3 v3

end Go.Proofs.YtgfjbboeappemaaGreatDoor

namespace Go.Proofs.YtgfjbboeappemaaGreatDoor
open Go.RowKit Go

end Go.Proofs.YtgfjbboeappemaaGreatDoor

namespace Go.Proofs.YtgfjbboeappemaaGreatDoor
open Go.RowKit Go

end Go.Proofs.YtgfjbboeappemaaGreatDoor

namespace Go.Proofs.YtgfjbboeappemaaGreatDoor
open Go.RowKit Go

/-- A block of such cells. -/
def CB (W : World) (B : Nat) (t : TypeId) (arr : Array Value) : Prop := W.heap[B]? = some (.cells arr t (0, 0))
theorem CB.lt {W : World} {B : Nat} {t : TypeId} {arr : Array Value} (h : CB W B t arr) : B < W.heap.size := (Array.getElem?_eq_some_iff.1 h).1
theorem CB.cell {W : World} {B : Nat} {t : TypeId} {arr : Array Value} (h : CB W B t arr) (i : Nat) : W.cell? ⟨B, i, none⟩ = arr[i]? := by simp [World.cell?, show W.heap[B]? = _ from h]
theorem CB.new (W : World) (t : TypeId) (arr : Array Value) : CB (W.alloc (.cells arr t)) W.heap.size t arr := World.alloc_heap_new W _
theorem CB.keep {G : Nat → Prop} {W W' : World} {B : Nat} {t : TypeId} {arr : Array Value} (h : CB W B t arr) (hk : Keep G W W') (hn : ¬ G B) : CB W' B t arr := (hk.block B h.lt hn).trans h
namespace Qy
end Qy

/-! ### One matcher more -/

section
variable {g Q B0 : Nat} {v : Value} {l : List Int} {p p1 p2 p3 n : Nat} {mv : Value} {pre : List Mt} {m : Mt} {W0 : World} {listed : Array Bool} {ys : Nat → Value} {w : World}

end

/-- A row of texts that was written out. -/
def Lits (B0 : Nat) (L : List ByteArray) (x : Value) (w : World) : Prop := ∃ b, x = .slice (some ⟨b, 0, none⟩) L.length L.length ∧ B0 ≤ b ∧ b < w.heap.size ∧ ∀ i (h : i < L.length), w.cell? ⟨b, i, none⟩ = some (.string L[i])
/-- One of them. -/
def LitAt (B0 : Nat) (s : ByteArray) (x : Value) (w : World) : Prop := ∃ b i, x = .pointer (some ⟨b, i, none⟩) ∧ B0 ≤ b ∧ b < w.heap.size ∧ w.cell? ⟨b, i, none⟩ = some (.string s)

theorem Lits.keep {B0 : Nat} {L : List ByteArray} {x : Value} {w w' : World} (h : Lits B0 L x w) (hk : Keep (fun k => k < B0) w w') : Lits B0 L x w' := by
  obtain ⟨b, hx, h1, h2, h3⟩ := h
  exact ⟨b, hx, h1, Nat.lt_of_lt_of_le h2 hk.size, fun i hi => (World.cell?_of_block (a := ⟨b, i, none⟩) (hk.block b h2 (by omega))).trans (h3 i hi)⟩
theorem LitAt.keep {B0 : Nat} {s : ByteArray} {x : Value} {w w' : World} (h : LitAt B0 s x w) (hk : Keep (fun k => k < B0) w w') : LitAt B0 s x w' := by
  obtain ⟨b, i, hx, h1, h2, h3⟩ := h
  exact ⟨b, i, hx, h1, Nat.lt_of_lt_of_le h2 hk.size, (World.cell?_of_block (a := ⟨b, i, none⟩) (hk.block b h2 (by omega))).trans h3⟩
theorem Lits.new (w : World) (B0 : Nat) (hB : B0 ≤ w.heap.size) (L : List ByteArray) (t : TypeId) : Lits B0 L (.slice (some ⟨w.heap.size, 0, none⟩) L.length L.length) (w.alloc (.cells (L.map Value.string).toArray t)) := by
  refine ⟨w.heap.size, rfl, hB, by simp, fun i hi => ?_⟩
  rw [World.cell?_alloc_new, List.getElem?_toArray, List.getElem?_map, List.getElem?_eq_getElem hi]
  rfl

end Go.Proofs.YtgfjbboeappemaaGreatDoor

/-
  ENTRIES THAT CAME IN, their labels, record.Value, and whether one is too great (the texts of stage 4, joined).
-/
import Derived.Test.YtkckgjanfiiieaaDoorRows
import Derived.WalkKit
import Derived.WalkSpells
import Derived.WalkLawsBesides
import Derived.Deep.Upon
import Derived.Lib.ConvBytes
import Derived.Lib.Hide
import Derived.Lib.Small
import Derived.Lib.Bytes
import Derived.Sort.Grow
import Derived.WalkSmall
import Derived.Lib.DecodeN
import Derived.Lib.Strings
import Derived.Deep.QuietTactic
import Derived.BigQuiet
import Derived.Lib.OthersKept
import Derived.Lib.Walk
import Derived.Outline
import Derived.Test.YtkckgjanfiiieaaDoorProg
import Derived.Deep.RegionWith
import Derived.Deep.Slices
import Derived.Deep.Strs
import Derived.Lib.SmallJoins
import Derived.ProofKit
namespace Go.Proofs.YtkckgjanfiiieaaDoor.E4
open Go.RowKit Go

/-- Bytes, as cells. -/
def cellsOf (l : List UInt8) : List Value := l.map fun b => Value.int .u8 b.toNat

/-- v is the nil slice, and l is empty; or v holds the bytes l, in a block from B on, of which no cell is frozen. -/
def Bs (B : Nat) (w : World) (v : Value) (l : List UInt8) : Prop :=
  (v = .slice none 0 0 ∧ l = []) ∨
  ∃ g cap, v = .slice (some ⟨g, 0, none⟩) l.length cap ∧ B ≤ g ∧ g < w.heap.size ∧ l.length ≤ cap ∧ cap ≤ maxLen ∧
    (∀ j, j < l.length → w.cell? ⟨g, j, none⟩ = (cellsOf l)[j]?) ∧
    (∀ j, j < cap → (w.cell? ⟨g, j, none⟩).isSome = true ∧ w.frozen? ⟨g, j, none⟩ = false)

theorem Bs.nil (B : Nat) (w : World) : Bs B w (.slice none 0 0) [] := .inl ⟨rfl, rfl⟩

/-- Only the blocks from B on matter. -/
theorem Bs.carry {B : Nat} {w w' : World} {v : Value} {l : List UInt8} (h : Bs B w v l) (hs : w.heap.size ≤ w'.heap.size) (hb : ∀ k, B ≤ k → k < w.heap.size → w'.heap[k]? = w.heap[k]?) : Bs B w' v l := by
  rcases h with h | ⟨g, cap, hv, hB, hg, hl, hm, hc, hf⟩
  · exact .inl h
  · refine .inr ⟨g, cap, hv, hB, Nat.lt_of_lt_of_le hg hs, hl, hm, fun j hj => ?_, fun j hj => ?_⟩
    · rw [World.cell?_of_block (a := ⟨g, j, none⟩) (hb g hB hg)]; exact hc j hj
    · rw [World.cell?_of_block (a := ⟨g, j, none⟩) (hb g hB hg), World.frozen?_of_block (a := ⟨g, j, none⟩) (hb g hB hg)]; exact hf j hj

theorem Bs.alloc {B : Nat} {w : World} {v : Value} {l : List UInt8} (h : Bs B w v l) (o : Obj) : Bs B (w.alloc o) v l :=
  h.carry (by simp) (fun k _ hk => Below.heap_alloc w o k hk)

end Go.Proofs.YtkckgjanfiiieaaDoor.E4

namespace Go.Proofs.YtkckgjanfiiieaaDoor.E4
open Go.RowKit Go

theorem toList_inj (x y : ByteArray) (h : x.toList = y.toList) : x = y := by
  rw [Lib.toList_data, Lib.toList_data] at h
  obtain ⟨a⟩ := x
  obtain ⟨b⟩ := y
  have : a.toList = b.toList := h
  rw [Array.toList_inj.1 this]

/-- A label. -/
structure Lab where
  n : ByteArray
  v : ByteArray

/-- An entry. -/
structure Ent where
  tm : Int
  labs : List Lab
  line : ByteArray

end Go.Proofs.YtkckgjanfiiieaaDoor.E4

namespace Go.Proofs.YtkckgjanfiiieaaDoor.E4
open Go.RowKit Go

/-- Of the old blocks only those of G have turned. -/
structure Keep (G : Nat → Prop) (w w' : World) : Prop where
  os : w'.os = w.os
  tape : w'.tape = w.tape
  output : w'.output = w.output
  size : w.heap.size ≤ w'.heap.size
  drawn : w.drawn ≤ w'.drawn
  block : ∀ k, k < w.heap.size → ¬ G k → w'.heap[k]? = w.heap[k]?

theorem Keep.refl (G : Nat → Prop) (w : World) : Keep G w w := ⟨rfl, rfl, rfl, Nat.le_refl _, Nat.le_refl _, fun _ _ _ => rfl⟩
theorem Keep.trans {G : Nat → Prop} {a b c : World} (h : Keep G a b) (k : Keep G b c) : Keep G a c :=
  ⟨k.os.trans h.os, k.tape.trans h.tape, k.output.trans h.output, Nat.le_trans h.size k.size, Nat.le_trans h.drawn k.drawn, fun i hi hn => (k.block i (Nat.lt_of_lt_of_le hi h.size) hn).trans (h.block i hi hn)⟩
theorem Keep.alloc {G : Nat → Prop} {a w : World} (h : Keep G a w) (o : Obj) : Keep G a (w.alloc o) :=
  h.trans ⟨rfl, rfl, rfl, by simp, Nat.le_refl _, fun k hk _ => Below.heap_alloc _ _ _ hk⟩
theorem Keep.into {G H : Nat → Prop} {w w' : World} (h : Keep G w w') (hk : ∀ k, k < w.heap.size → G k → H k) : Keep H w w' :=
  ⟨h.os, h.tape, h.output, h.size, h.drawn, fun k hlt hn => h.block k hlt (fun hg => hn (hk k hlt hg))⟩
/-- Nothing that was there has turned; draws have gone on. -/
abbrev Lay (w w' : World) : Prop := Keep (fun _ => False) w w'

theorem Lay.keep {G : Nat → Prop} {w w' : World} (h : Lay w w') : Keep G w w' := h.into fun _ _ h => h.elim
theorem Lay.block {w w' : World} (h : Lay w w') {k : Nat} (hk : k < w.heap.size) : w'.heap[k]? = w.heap[k]? := Keep.block h k hk (fun h => h)
theorem Lay.cell {w w' : World} (h : Lay w w') {b o : Nat} (hk : b < w.heap.size) : w'.cell? ⟨b, o, none⟩ = w.cell? ⟨b, o, none⟩ := World.cell?_of_block (a := ⟨b, o, none⟩) (h.block hk)
/-- v is the nil slice, and there are none; or v holds n elements of k cells each, in a block of G, of which no cell is frozen. -/
def Rk (k : Nat) (G : Nat → Prop) (w : World) (v : Value) (n : Nat) (xs : List Value) : Prop :=
  xs.length = n * k ∧ ((v = .slice none 0 0 ∧ n = 0) ∨
  ∃ g cap, v = .slice (some ⟨g, 0, none⟩) n cap ∧ G g ∧ g < w.heap.size ∧ n ≤ cap ∧ cap ≤ maxLen ∧
    (∀ j, j < xs.length → w.cell? ⟨g, j, none⟩ = xs[j]?) ∧
    (∀ j, j < cap * k → (w.cell? ⟨g, j, none⟩).isSome = true ∧ w.frozen? ⟨g, j, none⟩ = false))

/-- The slice lies in block k. -/
def At (v : Value) (k : Nat) : Prop := ∃ n c, v = .slice (some ⟨k, 0, none⟩) n c

theorem Rk.carry {k : Nat} {G : Nat → Prop} {w w' : World} {v : Value} {n : Nat} {xs : List Value} (h : Rk k G w v n xs) (hs : w.heap.size ≤ w'.heap.size) (hb : ∀ k, G k → At v k → k < w.heap.size → w'.heap[k]? = w.heap[k]?) : Rk k G w' v n xs := by
  obtain ⟨h0, h | ⟨g, cap, hv, hB, hg, hl, hm, hc, hf⟩⟩ := h
  · exact ⟨h0, .inl h⟩
  · have e := hb g hB ⟨_, _, hv⟩ hg
    refine ⟨h0, .inr ⟨g, cap, hv, hB, Nat.lt_of_lt_of_le hg hs, hl, hm, fun j hj => ?_, fun j hj => ?_⟩⟩
    · rw [World.cell?_of_block (a := ⟨g, j, none⟩) e]; exact hc j hj
    · rw [World.cell?_of_block (a := ⟨g, j, none⟩) e, World.frozen?_of_block (a := ⟨g, j, none⟩) e]; exact hf j hj

theorem Rk.alloc {k : Nat} {G : Nat → Prop} {w : World} {v : Value} {n : Nat} {xs : List Value} (h : Rk k G w v n xs) (o : Obj) : Rk k G (w.alloc o) v n xs :=
  h.carry (by simp) (fun k _ _ hk => Below.heap_alloc w o k hk)
/-- What turns not the slice's own block leaves the slice. -/
theorem Rk.keep {k : Nat} {G H : Nat → Prop} {w w' : World} {v : Value} {n : Nat} {xs : List Value} (h : Rk k G w v n xs) (hk : Keep H w w') (hd : ∀ k, G k → At v k → k < w.heap.size → ¬ H k) : Rk k G w' v n xs :=
  h.carry hk.size (fun k hg ha hs => hk.block k hs (hd k hg ha hs))
theorem Rk.lay {k : Nat} {G : Nat → Prop} {w w' : World} {v : Value} {n : Nat} {xs : List Value} (h : Rk k G w v n xs) (hk : Lay w w') : Rk k G w' v n xs := h.keep hk (fun _ _ _ _ h => h)
theorem Rk.at {k : Nat} {G : Nat → Prop} {w : World} {v : Value} {n : Nat} {xs : List Value} (h : Rk k G w v n xs) {b : Nat} (hk : At v b) : G b ∧ b < w.heap.size := by
  obtain ⟨m, c, e⟩ := hk
  obtain ⟨_, ⟨h, _⟩ | ⟨g, cap, hv, h1, h2, _⟩⟩ := h
  · rw [h] at e; cases e
  · rw [hv] at e
    obtain rfl : g = b := by
      have : (some (⟨g, 0, none⟩ : Addr)) = some ⟨b, 0, none⟩ := by injection e
      simpa using this
    exact ⟨h1, h2⟩
end Go.Proofs.YtkckgjanfiiieaaDoor.E4

namespace Go.Proofs.YtkckgjanfiiieaaDoor.E4
open Go.RowKit Go

/-- A label, as a value. -/
def Lab.val (x : Lab) : Value := .agg #[.string x.n, .string x.v]

/-- A slice of labels; where there are some, they lie in a block of G. -/
def LabsAt (G : Nat → Prop) (w : World) (v : Value) (ls : List Lab) : Prop :=
  ∃ a cap, v = .slice a ls.length cap ∧ ls.length ≤ 9223372036854775807 ∧ (ls = [] ∨ ∃ b off, a = some ⟨b, off, none⟩ ∧ G b ∧ b < w.heap.size ∧
    ∀ i (h : i < ls.length), w.cell? ⟨b, off + i * 2, none⟩ = some (.string ls[i].n) ∧ w.cell? ⟨b, off + i * 2 + 1, none⟩ = some (.string ls[i].v))

theorem LabsAt.carry {G : Nat → Prop} {w w' : World} {v : Value} {ls : List Lab} (h : LabsAt G w v ls) (hs : w.heap.size ≤ w'.heap.size) (hb : ∀ b, G b → b < w.heap.size → w'.heap[b]? = w.heap[b]?) : LabsAt G w' v ls := by
  obtain ⟨a, cap, hv, hn, h | ⟨b, off, ha, hg, hlt, hc⟩⟩ := h
  · exact ⟨a, cap, hv, hn, .inl h⟩
  · refine ⟨a, cap, hv, hn, .inr ⟨b, off, ha, hg, Nat.lt_of_lt_of_le hlt hs, fun i hi => ?_⟩⟩
    rw [World.cell?_of_block (a := ⟨b, off + i * 2, none⟩) (hb b hg hlt), World.cell?_of_block (a := ⟨b, off + i * 2 + 1, none⟩) (hb b hg hlt)]
    exact hc i hi

theorem LabsAt.lay {G : Nat → Prop} {w w' : World} {v : Value} {ls : List Lab} (h : LabsAt G w v ls) (hl : Lay w w') : LabsAt G w' v ls := h.carry hl.size (fun _ _ hb => hl.block hb)
theorem LabsAt.alloc {G : Nat → Prop} {w : World} {v : Value} {ls : List Lab} (h : LabsAt G w v ls) (o : Obj) : LabsAt G (w.alloc o) v ls := h.lay ((Keep.refl _ _).alloc o)
/-- An entry, as a value, of its labels' slice. -/
def Ent.val (e : Ent) (lv : Value) : Value := .agg #[.int .i64 e.tm, lv, .string e.line]

end Go.Proofs.YtkckgjanfiiieaaDoor.E4

namespace Go.Proofs.YtkckgjanfiiieaaDoor.E4.MW
open Go

/-- Is a rune a word's? -/
def letter (c : Nat) : Bool := if 128 ≤ c then c != 65533 else (decide (97 ≤ c) && decide (c ≤ 122)) || (decide (65 ≤ c) && decide (c ≤ 90)) || (decide (48 ≤ c) && decide (c ≤ 57)) || c == 95

/-- The first rune of a text, and how many bytes it has. -/
def dec (l : List UInt8) : Nat × Nat := Lib.decodeN l.length (l.getD 0 0).toNat (l.getD 1 0).toNat (l.getD 2 0).toNat (l.getD 3 0).toNat

def af : Nat → List UInt8 → Bool
  | 0, _ => true
  | f + 1, l => if l = [] then true else letter (dec l).1 && af f (l.drop (dec l).2)

def all (l : List UInt8) : Bool := af l.length l
/-- Is all of it one word? -/
def is (l : List UInt8) : Bool := all l && !l.isEmpty

/-- A byte of a name. -/
def ch (c : UInt8) : Bool := c == 95 || (decide (48 ≤ c.toNat) && decide (c.toNat ≤ 57)) || (decide (97 ≤ c.toNat) && decide (c.toNat ≤ 122)) || (decide (65 ≤ c.toNat) && decide (c.toNat ≤ 90))
def dig (c : UInt8) : Bool := decide (48 ≤ c.toNat) && decide (c.toNat ≤ 57)
/-- Can it be a label's name? -/
def name (l : List UInt8) : Bool := !l.isEmpty && decide (l.length ≤ 20) && !dig (l.headD 0) && l.all ch

end Go.Proofs.YtkckgjanfiiieaaDoor.E4.MW

namespace Go.Proofs.YtkckgjanfiiieaaDoor.E4
open Go.RowKit Go

theorem ret_bool {a b : Bool} (h : a = b) : Ending.returned (.bool a) = .returned (.bool b) := by rw [h]

end Go.Proofs.YtkckgjanfiiieaaDoor.E4

namespace Go.Proofs.YtkckgjanfiiieaaDoor.E4
open Go.RowKit Go

def noLab : Lab := ⟨⟨#[]⟩, ⟨#[]⟩⟩

end Go.Proofs.YtkckgjanfiiieaaDoor.E4

namespace Go.Proofs.YtkckgjanfiiieaaDoor.E4
open Go.RowKit Go

/-! ### Great, Many -/

def Lab.big (x : Lab) : Bool := decide (200 < x.n.size) || decide (200 < x.v.size)
def Ent.big (e : Ent) : Bool := decide (20 < e.labs.length) || decide (1000 < e.line.size) || e.labs.any Lab.big

set_option maxHeartbeats 4000000 in
set_option maxRecDepth 100000 in
/-- The document's Great. -/
theorem great_any {G : Nat → Prop} {w : World} {e : Ent} {lv : Value} (h : LabsAt G w lv e.labs) :
    Calls Tryd.prog 7 #[e.val lv] w fun x w' => x = .returned (.bool e.big) ∧ Lay w w' := by
  obtain ⟨a, ca, rfl, hl63, ha⟩ := h
  obtain ⟨tm, labs, line⟩ := e
  have HA := Lib.hid ha
  have HL0 : Hid (Lay w (w.alloc (.cells #[.int .i64 tm, .slice a labs.length ca, .string line] 25))) := Lib.hid ((Keep.refl _ _).alloc _)
  have HOK : Hid (Ent.big ⟨tm, labs, line⟩ = (decide (20 < labs.length) || decide (1000 < line.size) || labs.any Lab.big)) := Lib.hid rfl
  unfold Ent.val
  clear ha
  simp only [] at hl63 HA ⊢
  by_cases h20 : 20 < labs.length
  · have d20 : decide (20 < (labs.length : Int)) = true := by simp; omega
    have HR : Hid (Ent.big ⟨tm, labs, line⟩ = true) := Lib.hid (by rw [HOK.out, decide_eq_true h20]; rfl)
    clear h20
    go_enter Tryd.func7, Tryd.ntmps7
    go_wp2_with fail
    go_ret
    exact ⟨by rw [HR.out]; rfl, HL0.out⟩
  · have d20 : decide (20 < (labs.length : Int)) = false := by simp; omega
    by_cases h1000 : 1000 < line.size
    · have d1 : decide (1000 < (line.size : Int)) = true := by simp; omega
      have HR : Hid (Ent.big ⟨tm, labs, line⟩ = true) := Lib.hid (by rw [HOK.out, decide_eq_true h1000]; simp)
      clear h20 h1000
      go_enter Tryd.func7, Tryd.ntmps7
      go_wp2_with fail
      go_ret
      exact ⟨by rw [HR.out]; rfl, HL0.out⟩
    · have d1 : decide (1000 < (line.size : Int)) = false := by simp; omega
      have HO := HOK.out
      rw [decide_eq_false h20, decide_eq_false h1000, Bool.false_or, Bool.false_or] at HO
      have HR := Lib.hid HO
      clear HO HOK h1000
      go_enter Tryd.func7, Tryd.ntmps7
      go_wp2_with fail
      clear d20 d1
      go_loopw [18] (fun vi wr => ∃ k : Nat, vi = .int .i64 k ∧ k ≤ labs.length ∧ Lay w wr ∧ labs.any Lab.big = (labs.drop k).any Lab.big) (fun vi _ => labs.length - (intOf vi).toNat)
      case atStart => exact ⟨0, rfl, Nat.zero_le _, HL0.out, by simp⟩
      case round =>
        obtain ⟨k, rfl, hk, hl, hz⟩ := hrel
        have HZ := Lib.hid hz
        have HL := Lib.hid hl
        clear hz
        by_cases hlt : k < labs.length
        · rcases HA.out with h0 | ⟨bx, ox, rfl, hgx, hbx, hcx⟩
          · exact absurd hlt (by rw [h0]; simp)
          obtain ⟨x0, x1⟩ := hcx k hlt
          have g0 := (hl.cell hbx).trans x0
          have g1 := (hl.cell hbx).trans x1
          have hdx := Lib.hid (List.drop_eq_getElem_cons hlt)
          generalize labs[k] = x at g0 g1 hdx x0 x1
          clear x0 x1 hcx hl
          by_cases hn : 200 < x.n.size
          · have dn : decide (200 < (x.n.size : Int)) = true := by simp; omega
            have HB : Hid (Lab.big x = true) := Lib.hid (by unfold Lab.big; rw [decide_eq_true hn]; rfl)
            clear hn
            go_wp2_with fail
            go_ret
            refine ⟨ret_bool ?_, HL.out.alloc _⟩
            rw [HR.out, HZ.out, hdx.out, List.any_cons, HB.out, Bool.true_or]
          · have dn : decide (200 < (x.n.size : Int)) = false := by simp; omega
            by_cases hv : 200 < x.v.size
            · have dv : decide (200 < (x.v.size : Int)) = true := by simp; omega
              have HB : Hid (Lab.big x = true) := Lib.hid (by unfold Lab.big; rw [decide_eq_true hv]; simp)
              clear hn hv
              go_wp2_with fail
              go_ret
              refine ⟨ret_bool ?_, HL.out.alloc _⟩
              rw [HR.out, HZ.out, hdx.out, List.any_cons, HB.out, Bool.true_or]
            · have dv : decide (200 < (x.v.size : Int)) = false := by simp; omega
              have HB : Hid (Lab.big x = false) := Lib.hid (by unfold Lab.big; rw [decide_eq_false hn, decide_eq_false hv]; rfl)
              clear hn hv
              go_wp2_with fail
              go_roundw
              case rel => exact ⟨k + 1, by go_num, by omega, HL.out.alloc _, by rw [HZ.out, hdx.out, List.any_cons, HB.out, Bool.false_or]⟩
              case measure => simp [intOf]; omega
        · obtain rfl : k = labs.length := by omega
          go_wp2_with fail
          go_ret
          refine ⟨ret_bool ?_, HL.out⟩
          rw [HR.out, HZ.out, List.drop_length]
          rfl

end Go.Proofs.YtkckgjanfiiieaaDoor.E4

namespace Go.Proofs.YtkckgjanfiiieaaDoor.E4
open Go.RowKit Go

/-- An entry's cells. -/
def rawC (x : Value × Ent) : List Value := [.int .i64 x.2.tm, x.1, .string x.2.line]
def flatR : List (Value × Ent) → List Value
  | [] => []
  | x :: r => rawC x ++ flatR r

theorem flatR_length : ∀ R : List (Value × Ent), (flatR R).length = R.length * 3
  | [] => rfl
  | x :: r => by simp only [flatR, List.length_append, flatR_length r, rawC, List.length_cons, List.length_nil]; omega

theorem flatR_get : ∀ (R : List (Value × Ent)) (i : Nat) (h : i < R.length) (c : Nat), c < 3 → (flatR R)[i * 3 + c]? = (rawC R[i])[c]?
  | [], i, h, _, _ => by simp at h
  | x :: r, 0, _, c, hc => by
    simp only [flatR, Nat.zero_mul, Nat.zero_add, List.getElem_cons_zero]
    rw [List.getElem?_append_left (by simp [rawC]; omega)]
  | x :: r, i + 1, h, c, hc => by
    simp only [flatR, List.getElem_cons_succ]
    rw [List.getElem?_append_right (by simp [rawC]; omega), ← flatR_get r i (by simpa using h) c hc]
    congr 1
    simp [rawC]
    omega

theorem list_of {α : Type} (d : α) (p : Nat → α → Prop) : ∀ (n : Nat), (∀ i, i < n → ∃ x, p i x) → ∃ l : List α, l.length = n ∧ ∀ i, i < n → p i (l.getD i d)
  | 0, _ => ⟨[], rfl, fun i h => by omega⟩
  | n + 1, h => by
    obtain ⟨l, hl, hp⟩ := list_of d p n (fun i hi => h i (by omega))
    obtain ⟨x, hx⟩ := h n (by omega)
    refine ⟨l ++ [x], by simp [hl], fun i hi => ?_⟩
    rcases Nat.lt_or_ge i n with hlt | hge
    · have := hp i hlt
      simp only [List.getD, List.getElem?_append_left (hl ▸ hlt)] at this ⊢
      exact this
    · obtain rfl : i = n := by omega
      simp only [List.getD, List.getElem?_append_right (Nat.le_of_eq hl), hl, Nat.sub_self, List.getElem?_cons_zero, Option.getD_some]
      exact hx

/-- The cells of entries, from a place on. -/
def RawAt (w : World) (b off : Nat) (R : List (Value × Ent)) : Prop :=
  ∀ i (h : i < R.length), w.cell? ⟨b, off + i * 3, none⟩ = some (.int .i64 R[i].2.tm) ∧ w.cell? ⟨b, off + i * 3 + 1, none⟩ = some R[i].1 ∧ w.cell? ⟨b, off + i * 3 + 2, none⟩ = some (.string R[i].2.line)

theorem RawAt.cells {w : World} {b off : Nat} {R : List (Value × Ent)} (h : RawAt w b off R) (j : Nat) (u : Value) (hu : (flatR R)[j]? = some u) : w.cell? ⟨b, off + j, none⟩ = some u := by
  have hj : j < (flatR R).length := (List.getElem?_eq_some_iff.1 hu).1
  rw [flatR_length] at hj
  have hi : j / 3 < R.length := by omega
  have hjd : j = j / 3 * 3 + j % 3 := by omega
  have hg := flatR_get R (j / 3) hi (j % 3) (by omega)
  rw [← hjd, hu] at hg
  obtain ⟨h0, h1, h2⟩ := h (j / 3) hi
  have hm : j % 3 = 0 ∨ j % 3 = 1 ∨ j % 3 = 2 := by omega
  rcases hm with hm | hm | hm
  · rw [hm] at hg hjd
    rw [show off + j = off + j / 3 * 3 by omega, h0]
    simpa [rawC] using hg.symm
  · rw [hm] at hg hjd
    rw [show off + j = off + j / 3 * 3 + 1 by omega, h1]
    simpa [rawC] using hg.symm
  · rw [hm] at hg hjd
    rw [show off + j = off + j / 3 * 3 + 2 by omega, h2]
    simpa [rawC] using hg.symm

end Go.Proofs.YtkckgjanfiiieaaDoor.E4

namespace Go.Proofs.YtkckgjanfiiieaaDoor.E4
open Go.RowKit Go

theorem add_lit (b off k : Nat) : (⟨b, off, none⟩ : Addr).add k = ⟨b, off + k, none⟩ := by
  unfold Addr.add
  split
  · rename_i h; subst h; rfl
  · rfl

theorem cells55 : Tryd.prog.cellsOf 46 = 2 := by kernel_rfl
theorem cells24 : Tryd.prog.cellsOf 25 = 3 := by kernel_rfl

variable {H : Type} {enc : TypeId × Value → H}

set_option maxRecDepth 100000 in
/-- One label's cells. -/
theorem lab_at {w : World} {a : Addr} {k fuel : Nat} {spare : Nat → Bool} {held : Bool} {cs : List Value} {x : DataW H × List MemPlace}
    (h : w.cells? 0 (a.add (k * 2)) 2 = some cs) (ht : DataW.trod enc Tryd.prog w 0 spare held fuel 46 cs = some x) :
    (a.add (k * 2)).spot = none ∧ (a.add (k * 2)).block < w.heap.size ∧ ∃ y : Lab, w.cell? (a.add (k * 2)) = some (.string y.n) ∧ w.cell? ((a.add (k * 2)).add 1) = some (.string y.v) := by
  obtain ⟨_, hl, hc⟩ := World.cells?_some h
  obtain ⟨y0, y1, n, _, _, h0, h1⟩ := Go.ChangeShapes.trod_struct2 Tryd.underlying46 ht
  match cs, hl with
  | [c0, c1], _ =>
    have e9 : Tryd.prog.cellsOf 9 = 1 := by kernel_rfl
    simp only [e9, List.drop_zero, List.drop_succ_cons, List.take_succ_cons, List.take_zero] at h0 h1
    obtain ⟨s, hs, _, _⟩ := DataW.trod_string Tryd.underlying9 h0
    obtain ⟨t, htt, _, _⟩ := DataW.trod_string Tryd.underlying9 h1
    simp only [List.cons.injEq, and_true] at hs htt
    subst hs htt
    have g0 := hc 0 (by omega)
    have g1 := hc 1 (by omega)
    have e : (a.add (k * 2)).add 0 = a.add (k * 2) := by simp [Addr.add]
    rw [e] at g0
    simp only [List.getElem?_cons_zero, List.getElem?_cons_succ] at g0 g1
    exact ⟨World.cell?_spot g0, World.block_lt_of_cell? w _ g0, ⟨s, t⟩, g0, g1⟩

/-- A slice of labels that came in. -/
theorem labs_open {w : World} {spare : Nat → Bool} {held : Bool} {fuel : Nat} {lv : Value} {x : DataW H × List MemPlace}
    (h : DataW.trod enc Tryd.prog w 0 spare held fuel 23 [lv] = some x) : ∃ ls, LabsAt (fun _ => True) w lv ls := by
  rcases Go.Deep.open_slice Tryd.underlying23 h with ⟨hcs, _⟩ | ⟨a, len, cap, m, n, D, Pl, hcs, _, hl, hcap, hm, _, hel⟩
  · simp only [List.cons.injEq, and_true] at hcs
    exact ⟨[], none, 0, hcs, by simp, .inl rfl⟩
  · simp only [List.cons.injEq, and_true] at hcs
    subst hcs
    have hlm : len ≤ m := by rw [hm]; split <;> omega
    rw [cells55] at hel
    have h63 : len ≤ 9223372036854775807 := by unfold maxLen at hcap; omega
    by_cases h0 : len = 0
    · subst h0
      exact ⟨[], some a, cap, rfl, by simp, .inl rfl⟩
    obtain ⟨cs0, hc0, ht0⟩ := hel 0 (by omega)
    obtain ⟨hsp, hblt, _⟩ := lab_at hc0 ht0
    have ea : a.add (0 * 2) = a := by simp [Addr.add]
    rw [ea] at hsp hblt
    obtain ⟨b, off, spot⟩ := a
    simp only [] at hsp hblt
    subst hsp
    obtain ⟨ls, hlen, hits⟩ := list_of noLab (fun i y => w.cell? ⟨b, off + i * 2, none⟩ = some (.string y.n) ∧ w.cell? ⟨b, off + i * 2 + 1, none⟩ = some (.string y.v)) len (fun i hi => by
        obtain ⟨cs, hc, ht⟩ := hel i (by omega)
        obtain ⟨_, _, y, g0, g1⟩ := lab_at hc ht
        rw [add_lit] at g0 g1
        rw [add_lit] at g1
        exact ⟨y, g0, g1⟩)
    refine ⟨ls, _, cap, by rw [hlen], by omega, .inr ⟨b, off, rfl, trivial, hblt, fun i hi => ?_⟩⟩
    have := hits i (by omega)
    simp only [List.getD, List.getElem?_eq_getElem hi, Option.getD_some] at this
    exact this

/-- An entry's numbers fit. -/
structure Ent.Wf (e : Ent) : Prop where
  lo : -9223372036854775808 ≤ e.tm
  hi : e.tm ≤ 9223372036854775807

set_option maxRecDepth 100000 in
theorem ent_open {w : World} {spare : Nat → Bool} {held : Bool} {fuel : Nat} {cs : List Value} (hl : cs.length = 3) {x : DataW H × List MemPlace}
    (ht : DataW.trod enc Tryd.prog w 0 spare held fuel 25 cs = some x) : ∃ (e : Ent) (lv : Value), cs = [.int .i64 e.tm, lv, .string e.line] ∧ LabsAt (fun _ => True) w lv e.labs ∧ e.Wf := by
  obtain ⟨y0, y1, y2, n, _, _, h0, h1, h2⟩ := Go.Deep.trod_struct3 Tryd.underlying25 ht
  match cs, hl with
  | [c0, c1, c2], _ =>
    have e3 : Tryd.prog.cellsOf 3 = 1 := by kernel_rfl
    have e22 : Tryd.prog.cellsOf 23 = 1 := by kernel_rfl
    have e9 : Tryd.prog.cellsOf 9 = 1 := by kernel_rfl
    simp only [e3, e22, e9, List.drop_zero, List.drop_succ_cons, List.take_succ_cons, List.take_zero] at h0 h1 h2
    obtain ⟨kd, hk, _, wk⟩ := DataW.trod_int Tryd.underlying3 h0
    obtain ⟨s, hs, _, ws⟩ := DataW.trod_string Tryd.underlying9 h2
    obtain ⟨ls, hls⟩ := labs_open h1
    simp only [List.cons.injEq, and_true] at hk hs
    subst hk hs
    have bk := bounds_i64 wk
    exact ⟨⟨kd, ls, s⟩, c1, rfl, hls, ⟨by show -9223372036854775808 ≤ kd; omega, by show kd ≤ 9223372036854775807; omega⟩⟩

/-- An entry that came in. -/
theorem entV_open {w : World} {spare : Nat → Bool} {held : Bool} {fuel : Nat} {v : Value} (hv : ∃ cs : Array Value, v = .agg cs ∧ cs.size = Tryd.prog.cellsOf 25) {x : DataW H × List MemPlace}
    (ht : DataW.trod enc Tryd.prog w 0 spare held fuel 25 v.cells.toList = some x) : ∃ (e : Ent) (lv : Value), v = e.val lv ∧ LabsAt (fun _ => True) w lv e.labs ∧ e.Wf := by
  obtain ⟨cs, rfl, hs⟩ := hv
  rw [cells24] at hs
  obtain ⟨e, lv, hcs, h1, h2⟩ := ent_open (cs := cs.toList) (by simpa using hs) ht
  refine ⟨e, lv, ?_, h1, h2⟩
  have : cs = #[.int .i64 e.tm, lv, .string e.line] := Array.toList_inj.1 hcs
  rw [this]
  rfl

end Go.Proofs.YtkckgjanfiiieaaDoor.E4

namespace Go.Proofs.YtkckgjanfiiieaaDoor.E4
open Go.RowKit Go

/-- The value of the first label of a name, and whether there is one. -/
def valOf (s : ByteArray) : List Lab → ByteArray × Bool
  | [] => (⟨#[]⟩, false)
  | x :: r => if x.n.toList == s.toList then (x.v, true) else valOf s r

set_option maxHeartbeats 4000000 in
set_option maxRecDepth 100000 in
theorem refValue_any {G : Nat → Prop} {w : World} {e : Ent} {lv : Value} (s : ByteArray) (h : LabsAt G w lv e.labs) :
    Calls Tryd.prog 45 #[e.val lv, .string s] w fun x w' => x = .returned (.tuple #[.string (valOf s e.labs).1, .bool (valOf s e.labs).2]) ∧ Lay w w' := by
  obtain ⟨a, ca, rfl, hl63, ha⟩ := h
  obtain ⟨tm, labs, line⟩ := e
  have HA := Lib.hid ha
  have HL0 : Hid (Lay w (w.alloc (.cells #[.int .i64 tm, .slice a labs.length ca, .string line] 25))) := Lib.hid ((Keep.refl _ _).alloc _)
  unfold Ent.val
  clear ha
  simp only [] at hl63 HA ⊢
  go_enter Tryd.func45, Tryd.ntmps45
  go_wp2_with fail
  go_loopw [11] (fun vi wr => ∃ k : Nat, vi = .int .i64 k ∧ k ≤ labs.length ∧ Lay w wr ∧ valOf s labs = valOf s (labs.drop k)) (fun vi _ => labs.length - (intOf vi).toNat)
  case atStart => exact ⟨0, rfl, Nat.zero_le _, HL0.out, by simp⟩
  case round =>
    obtain ⟨k, rfl, hk, hl, hz⟩ := hrel
    have HZ := Lib.hid hz
    have HL := Lib.hid hl
    clear hz
    by_cases hlt : k < labs.length
    · rcases HA.out with h0 | ⟨bx, ox, rfl, hgx, hbx, hcx⟩
      · exact absurd hlt (by rw [h0]; simp)
      obtain ⟨x0, x1⟩ := hcx k hlt
      have g0 := (hl.cell hbx).trans x0
      have g1 := (hl.cell hbx).trans x1
      have hdx := Lib.hid (List.drop_eq_getElem_cons hlt)
      generalize labs[k] = x at g0 g1 hdx x0 x1
      clear x0 x1 hcx hl
      cases hn : (x.n.toList == s.toList) with
      | true =>
        have HN := Lib.hid hn
        go_wp2_with fail
        go_ret2
        refine ⟨?_, HL.out.alloc _⟩
        rw [HZ.out, hdx.out, valOf, if_pos HN.out]
        rfl
      | false =>
        have HN := Lib.hid hn
        go_wp2_with fail
        go_roundw
        case rel => exact ⟨k + 1, by go_num, by omega, HL.out.alloc _, by rw [HZ.out, hdx.out, valOf, HN.out]; rfl⟩
        case measure => simp [intOf]; omega
    · obtain rfl : k = labs.length := by omega
      go_wp2_with fail
      go_ret2
      refine ⟨?_, HL.out⟩
      rw [HZ.out, List.drop_length]
      rfl

end Go.Proofs.YtkckgjanfiiieaaDoor.E4

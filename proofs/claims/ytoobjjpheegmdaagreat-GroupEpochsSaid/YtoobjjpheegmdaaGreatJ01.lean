/-
  Et.
-/
import Derived.Test.YtoobjjpheegmdaaGreatRows
import Derived.Lib.Small
import Derived.Lib.Bytes
import Derived.Lib.Hide
import Derived.WalkKit
import Derived.WalkSpells
import Derived.WalkLawsBesides
import Derived.Deep.Upon
import Derived.Lib.ConvBytes
import Derived.Sort.Grow
import Derived.WalkSmall
import Derived.Lib.DecodeN
import Derived.Lib.Strings
import Derived.Deep.QuietTactic
import Derived.BigQuiet
import Derived.Lib.OthersKept
import Derived.Lib.Walk
import Derived.Outline
namespace Go.Proofs.YtoobjjpheegmdaaGreat.E4
open Go.RowKit Go
structure LC {α : Type} (c : α → α → Int) : Prop where
  tri : ∀ a b, c a b = -1 ∨ c a b = 0 ∨ c a b = 1
  neg : ∀ a b, c b a = - c a b
  eq : ∀ a b, c a b = 0 → a = b
  refl : ∀ a, c a a = 0
  tr : ∀ a b d, c a b = -1 → c b d = -1 → c a d = -1
def orI (x y : Int) : Int := if x = 0 then y else x
theorem LC.on {α β : Type} {c : β → β → Int} (h : LC c) (f : α → β) (hf : ∀ a b, f a = f b → a = b) : LC fun a b => c (f a) (f b) :=
  ⟨fun _ _ => h.tri _ _, fun _ _ => h.neg _ _, fun a b e => hf a b (h.eq _ _ e), fun _ => h.refl _, fun _ _ _ x y => h.tr _ _ _ x y⟩
theorem LC.or {α β : Type} {c : α → α → Int} {d : β → β → Int} (h : LC c) (k : LC d) : LC fun (a b : α × β) => orI (c a.1 b.1) (d a.2 b.2) where
  tri a b := by
    have h1 := h.tri a.1 b.1
    have h2 := k.tri a.2 b.2
    simp only [orI]; split <;> omega
  neg a b := by
    have h1 := h.neg a.1 b.1
    have h2 := k.neg a.2 b.2
    simp only [orI]; split <;> split <;> omega
  eq a b e := by
    simp only [orI] at e
    split at e
    · rename_i h0
      exact Prod.ext (h.eq _ _ h0) (k.eq _ _ e)
    · omega
  refl a := by simp only [orI, h.refl, k.refl]; rfl
  tr a b e := by
    have h1 := h.tri a.1 b.1
    have h2 := h.tri b.1 e.1
    have h3 := h.tr a.1 b.1 e.1
    have h4 := k.tr a.2 b.2 e.2
    simp only [orI]
    intro x y
    by_cases p : c a.1 b.1 = 0
    · have hp := h.eq _ _ p
      rw [if_pos p] at x
      rw [hp]
      by_cases q : c b.1 e.1 = 0
      · rw [if_pos q] at y ⊢; exact h4 x y
      · rw [if_neg q] at y ⊢; exact y
    · rw [if_neg p] at x
      by_cases q : c b.1 e.1 = 0
      · rw [← h.eq _ _ q, if_neg p]; exact x
      · rw [if_neg q] at y
        have := h3 x y
        rw [if_neg (by omega)]
        exact this
def listC {α : Type} (c : α → α → Int) : List α → List α → Int
  | [], [] => 0
  | [], _ :: _ => -1
  | _ :: _, [] => 1
  | a :: l, b :: m => orI (c a b) (listC c l m)
theorem LC.list {α : Type} {c : α → α → Int} (h : LC c) : LC (listC c) where
  tri a := by
    induction a with
    | nil => intro b; cases b <;> simp [listC]
    | cons x l ih =>
      intro b
      cases b with
      | nil => simp [listC]
      | cons y m =>
        have h1 := h.tri x y
        have h2 := ih m
        simp only [listC, orI]; split <;> omega
  neg a := by
    induction a with
    | nil => intro b; cases b <;> simp [listC]
    | cons x l ih =>
      intro b
      cases b with
      | nil => simp [listC]
      | cons y m =>
        have h1 := h.neg x y
        have h2 := ih m
        simp only [listC, orI]; split <;> split <;> omega
  eq a := by
    induction a with
    | nil => intro b; cases b <;> simp [listC]
    | cons x l ih =>
      intro b
      cases b with
      | nil => simp [listC]
      | cons y m =>
        simp only [listC, orI]
        intro e
        split at e
        · rename_i h0
          rw [h.eq _ _ h0, ih m e]
        · omega
  refl a := by
    induction a with
    | nil => rfl
    | cons x l ih => simp only [listC, orI, h.refl, ih]; rfl
  tr a := by
    induction a with
    | nil => intro b d; cases b <;> cases d <;> simp [listC]
    | cons x l ih =>
      intro b d
      cases b with
      | nil => simp [listC]
      | cons y m =>
        cases d with
        | nil => simp [listC]
        | cons z n =>
          have h1 := h.tri x y
          have h2 := h.tri y z
          have h3 := h.tr x y z
          have h4 := ih m n
          simp only [listC, orI]
          intro p q
          by_cases u : c x y = 0
          · have hu := h.eq _ _ u
            rw [if_pos u] at p
            rw [hu]
            by_cases v : c y z = 0
            · rw [if_pos v] at q ⊢; exact h4 p q
            · rw [if_neg v] at q ⊢; exact q
          · rw [if_neg u] at p
            by_cases v : c y z = 0
            · rw [← h.eq _ _ v, if_neg u]; exact p
            · rw [if_neg v] at q
              have := h3 p q
              rw [if_neg (by omega)]
              exact this
def intC (x y : Int) : Int := Lib.compareInt x y
theorem intC_lt {a b : Int} : intC a b = -1 ↔ a < b := by unfold intC Lib.compareInt; split <;> (try split) <;> omega
theorem intC_lc : LC intC where
  tri a b := by unfold intC Lib.compareInt; split <;> (try split) <;> omega
  neg a b := by unfold intC Lib.compareInt; split <;> (try split) <;> (try split) <;> omega
  eq a b := by unfold intC Lib.compareInt; split <;> (try split) <;> omega
  refl a := by unfold intC Lib.compareInt; split <;> (try split) <;> omega
  tr a b d := by rw [intC_lt, intC_lt, intC_lt]; omega
def byteC (a b : UInt8) : Int := intC a.toNat b.toNat
theorem byteC_lc : LC byteC := intC_lc.on (fun a : UInt8 => (a.toNat : Int)) (fun a b h => UInt8.toNat_inj.1 (by have h' : (a.toNat : Int) = b.toNat := h; omega))
def strC (x y : ByteArray) : Int := listC byteC x.toList y.toList
theorem toList_inj (x y : ByteArray) (h : x.toList = y.toList) : x = y := by
  rw [Lib.toList_data, Lib.toList_data] at h
  obtain ⟨a⟩ := x
  obtain ⟨b⟩ := y
  have : a.toList = b.toList := h
  rw [Array.toList_inj.1 this]
theorem strC_lc : LC strC := byteC_lc.list.on ByteArray.toList toList_inj
theorem bytesLess_listC : ∀ (x y : List UInt8), Op.bytesLess x y = decide (listC byteC x y = -1)
  | [], [] => by simp [Op.bytesLess, listC]
  | _ :: _, [] => by simp [Op.bytesLess, listC]
  | [], _ :: _ => by simp [Op.bytesLess, listC]
  | a :: x, b :: y => by
    rw [Op.bytesLess, bytesLess_listC x y]
    have e : (a < b) = (a.toNat < b.toNat) := by rw [UInt8.lt_iff_toNat_lt]
    have e2 : (a == b) = decide (a.toNat = b.toNat) := by
      rw [Bool.eq_iff_iff]; simp [UInt8.toNat_inj]
    simp only [listC, orI, byteC, intC, Lib.compareInt, e, e2]
    by_cases h1 : a.toNat < b.toNat
    · simp [h1]
    · by_cases h2 : b.toNat < a.toNat
      · have : ¬ a.toNat = b.toNat := by omega
        simp [h1, h2, this]
      · have : a.toNat = b.toNat := by omega
        simp [this]
theorem less_strC (x y : ByteArray) : Op.bytesLess x.toList y.toList = decide (strC x y = -1) := bytesLess_listC _ _
theorem eq_strC (x y : ByteArray) : (x.toList == y.toList) = decide (strC x y = 0) := by
  by_cases h : x.toList = y.toList
  · have := strC_lc.refl x
    rw [toList_inj x y h] at this ⊢
    simp [this]
  · have : ¬ strC x y = 0 := fun e => h (by rw [strC_lc.eq _ _ e])
    simp [h, this]
structure Lab where
  n : ByteArray
  v : ByteArray
def labC (a b : Lab) : Int := orI (strC a.n b.n) (strC a.v b.v)
theorem labC_lc : LC labC := (strC_lc.or strC_lc).on (fun a : Lab => (a.n, a.v)) (fun a b h => by cases a; cases b; simp_all)
structure Ent where
  tm : Int
  labs : List Lab
  line : ByteArray
def entC (a b : Ent) : Int := orI (intC a.tm b.tm) (orI (listC labC a.labs b.labs) (strC a.line b.line))
theorem entC_lc : LC entC := (intC_lc.or (labC_lc.list.or strC_lc)).on (fun a : Ent => (a.tm, a.labs, a.line)) (fun a b h => by cases a; cases b; simp_all)
def firstNZ : List Int → Int
  | [] => 0
  | x :: r => orI x (firstNZ r)
theorem firstNZ2 (x y : Int) : firstNZ [x, y] = orI x y := by
  simp only [firstNZ, orI]; split <;> (try split) <;> omega
theorem firstNZ3 (x y z : Int) : firstNZ [x, y, z] = orI x (orI y z) := by
  simp only [firstNZ, orI]; split <;> (try split) <;> (try split) <;> omega
end Go.Proofs.YtoobjjpheegmdaaGreat.E4
namespace Go.Proofs.YtoobjjpheegmdaaGreat.E4
open Go.RowKit Go
def cellsOf (l : List UInt8) : List Value := l.map fun b => Value.int .u8 b.toNat
theorem heap_size_setCells (b : Nat) : ∀ (vs : List Value) (o : Nat) (w : World), (w.setCells b o vs).heap.size = w.heap.size
  | [], _, _ => rfl
  | v :: r, o, w => by rw [World.setCells, heap_size_setCells b r]; simp
theorem tape_setCells (b : Nat) : ∀ (vs : List Value) (o : Nat) (w : World), (w.setCells b o vs).tape = w.tape
  | [], _, _ => rfl
  | v :: r, o, w => by rw [World.setCells, tape_setCells b r]; rfl
end Go.Proofs.YtoobjjpheegmdaaGreat.E4
namespace Go.Proofs.YtoobjjpheegmdaaGreat.E4
open Go.RowKit Go
structure Keep (G : Nat → Prop) (w w' : World) : Prop where
  os : w'.os = w.os
  tape : w'.tape = w.tape
  output : w'.output = w.output
  size : w.heap.size ≤ w'.heap.size
  drawn : w.drawn ≤ w'.drawn
  block : ∀ k, k < w.heap.size → ¬ G k → w'.heap[k]? = w.heap[k]?
theorem Keep.refl (G : Nat → Prop) (w : World) : Keep G w w := ⟨rfl, rfl, rfl, Nat.le_refl _, Nat.le_refl _, fun _ _ _ => rfl⟩
theorem Keep.trans {G : Nat → Prop} {a b c : World} (h : Keep G a b) (k : Keep G b c) : Keep G a c :=
  ⟨k.os.trans h.os, k.tape.trans h.tape, k.output.trans h.output, Nat.le_trans h.size k.size, Nat.le_trans h.drawn k.drawn, fun i hi hn => (k.block i (Nat.lt_of_lt_of_le hi h.size) hn).trans (h.block i hi hn)⟩
theorem Keep.alloc {G : Nat → Prop} {a w : World} (h : Keep G a w) (o : Obj) : Keep G a (w.alloc o) :=
  h.trans ⟨rfl, rfl, rfl, by simp, Nat.le_refl _, fun k hk _ => Below.heap_alloc _ _ _ hk⟩
theorem Keep.drewN {G : Nat → Prop} {a w : World} (h : Keep G a w) (n : Nat) : Keep G a (w.drewN n) := ⟨h.os, h.tape, h.output, h.size, Nat.le_trans h.drawn (Nat.le_add_right _ _), h.block⟩
theorem Keep.drew {G : Nat → Prop} {a w : World} (h : Keep G a w) : Keep G a w.drew := h.drewN 1
theorem Keep.into {G H : Nat → Prop} {w w' : World} (h : Keep G w w') (hk : ∀ k, k < w.heap.size → G k → H k) : Keep H w w' :=
  ⟨h.os, h.tape, h.output, h.size, h.drawn, fun k hlt hn => h.block k hlt (fun hg => hn (hk k hlt hg))⟩
abbrev Lay (w w' : World) : Prop := Keep (fun _ => False) w w'
theorem Lay.keep {G : Nat → Prop} {w w' : World} (h : Lay w w') : Keep G w w' := h.into fun _ _ h => h.elim
theorem Lay.block {w w' : World} (h : Lay w w') {k : Nat} (hk : k < w.heap.size) : w'.heap[k]? = w.heap[k]? := Keep.block h k hk (fun h => h)
theorem Lay.cell {w w' : World} (h : Lay w w') {b o : Nat} (hk : b < w.heap.size) : w'.cell? ⟨b, o, none⟩ = w.cell? ⟨b, o, none⟩ := World.cell?_of_block (a := ⟨b, o, none⟩) (h.block hk)
theorem Lay.grown {w w' : World} (h : Lay w w') : ∃ q os, w' = Sort.grow (w.drewN q) os := by
  refine ⟨w'.drawn - w.drawn, w'.heap.extract w.heap.size w'.heap.size, ?_⟩
  have hh : w'.heap = w.heap ++ w'.heap.extract w.heap.size w'.heap.size := by
    apply Array.ext_getElem?
    intro i
    have hs := h.size
    by_cases hi : i < w.heap.size
    · rw [h.block hi, Array.getElem?_append_left hi]
    · rw [Array.getElem?_append_right (by omega), Array.getElem?_extract]
      by_cases h2 : i < w'.heap.size
      · rw [if_pos (by omega)]
        congr 1
        omega
      · rw [if_neg (by omega), Array.getElem?_eq_none (by omega)]
  have hd : w.drawn + (w'.drawn - w.drawn) = w'.drawn := by have := h.drawn; omega
  obtain ⟨heap, tape, drawn, os, output⟩ := w'
  have h1 := h.os
  have h2 := h.tape
  have h3 := h.output
  simp only [] at h1 h2 h3 hh hd ⊢
  subst h1 h2 h3
  show _ = ({ heap := w.heap ++ heap.extract w.heap.size heap.size, tape := w.tape, drawn := w.drawn + (drawn - w.drawn), os := w.os, output := w.output } : World)
  rw [← hh, hd]
theorem Lay.of_grown {w : World} (q : Nat) (os : Array Obj) : Lay w (Sort.grow (w.drewN q) os) :=
  ⟨rfl, rfl, rfl, by simp, Nat.le_add_right _ _, fun k hk _ => by
    show (w.heap ++ os)[k]? = _
    rw [Array.getElem?_append_left hk]⟩
def Rk (k : Nat) (G : Nat → Prop) (w : World) (v : Value) (n : Nat) (xs : List Value) : Prop :=
  xs.length = n * k ∧ ((v = .slice none 0 0 ∧ n = 0) ∨
  ∃ g cap, v = .slice (some ⟨g, 0, none⟩) n cap ∧ G g ∧ g < w.heap.size ∧ n ≤ cap ∧ cap ≤ maxLen ∧
    (∀ j, j < xs.length → w.cell? ⟨g, j, none⟩ = xs[j]?) ∧
    (∀ j, j < cap * k → (w.cell? ⟨g, j, none⟩).isSome = true ∧ w.frozen? ⟨g, j, none⟩ = false))
def At (v : Value) (k : Nat) : Prop := ∃ n c, v = .slice (some ⟨k, 0, none⟩) n c
theorem Rk.nil (k : Nat) (G : Nat → Prop) (w : World) : Rk k G w (.slice none 0 0) 0 [] := ⟨by simp, .inl ⟨rfl, rfl⟩⟩
theorem Rk.carry {k : Nat} {G : Nat → Prop} {w w' : World} {v : Value} {n : Nat} {xs : List Value} (h : Rk k G w v n xs) (hs : w.heap.size ≤ w'.heap.size) (hb : ∀ k, G k → At v k → k < w.heap.size → w'.heap[k]? = w.heap[k]?) : Rk k G w' v n xs := by
  obtain ⟨h0, h | ⟨g, cap, hv, hB, hg, hl, hm, hc, hf⟩⟩ := h
  · exact ⟨h0, .inl h⟩
  · have e := hb g hB ⟨_, _, hv⟩ hg
    refine ⟨h0, .inr ⟨g, cap, hv, hB, Nat.lt_of_lt_of_le hg hs, hl, hm, fun j hj => ?_, fun j hj => ?_⟩⟩
    · rw [World.cell?_of_block (a := ⟨g, j, none⟩) e]; exact hc j hj
    · rw [World.cell?_of_block (a := ⟨g, j, none⟩) e, World.frozen?_of_block (a := ⟨g, j, none⟩) e]; exact hf j hj
theorem Rk.alloc {k : Nat} {G : Nat → Prop} {w : World} {v : Value} {n : Nat} {xs : List Value} (h : Rk k G w v n xs) (o : Obj) : Rk k G (w.alloc o) v n xs :=
  h.carry (by simp) (fun k _ _ hk => Below.heap_alloc w o k hk)
theorem Rk.drew {k : Nat} {G : Nat → Prop} {w : World} {v : Value} {n : Nat} {xs : List Value} (h : Rk k G w v n xs) : Rk k G w.drew v n xs :=
  h.carry (Nat.le_refl _) (fun _ _ _ _ => rfl)
theorem Rk.mono {k : Nat} {G G' : Nat → Prop} {w : World} {v : Value} {n : Nat} {xs : List Value} (h : Rk k G w v n xs) (hG : ∀ k, G k → At v k → G' k) : Rk k G' w v n xs := by
  obtain ⟨h0, h | ⟨g, cap, hv, h1, hr⟩⟩ := h
  · exact ⟨h0, .inl h⟩
  · exact ⟨h0, .inr ⟨g, cap, hv, hG g h1 ⟨_, _, hv⟩, hr⟩⟩
theorem Rk.keep {k : Nat} {G H : Nat → Prop} {w w' : World} {v : Value} {n : Nat} {xs : List Value} (h : Rk k G w v n xs) (hk : Keep H w w') (hd : ∀ k, G k → At v k → k < w.heap.size → ¬ H k) : Rk k G w' v n xs :=
  h.carry hk.size (fun k hg ha hs => hk.block k hs (hd k hg ha hs))
theorem Rk.lay {k : Nat} {G : Nat → Prop} {w w' : World} {v : Value} {n : Nat} {xs : List Value} (h : Rk k G w v n xs) (hk : Lay w w') : Rk k G w' v n xs := h.keep hk (fun _ _ _ _ h => h)
theorem Rk.at {k : Nat} {G : Nat → Prop} {w : World} {v : Value} {n : Nat} {xs : List Value} (h : Rk k G w v n xs) {b : Nat} (hk : At v b) : G b ∧ b < w.heap.size := by
  obtain ⟨m, c, e⟩ := hk
  obtain ⟨_, ⟨h, _⟩ | ⟨g, cap, hv, h1, h2, _⟩⟩ := h
  · rw [h] at e; cases e
  · rw [hv] at e
    obtain rfl : g = b := by
      have : (some (⟨g, 0, none⟩ : Addr)) = some ⟨b, 0, none⟩ := by injection e
      simpa using this
    exact ⟨h1, h2⟩
theorem Rk.shape {k : Nat} {G : Nat → Prop} {w : World} {v : Value} {n : Nat} {xs : List Value} (h : Rk k G w v n xs) : ∃ a c, v = .slice a n c := by
  obtain ⟨_, ⟨rfl, rfl⟩ | ⟨g, cap, hv, _⟩⟩ := h
  · exact ⟨none, 0, rfl⟩
  · exact ⟨_, _, hv⟩
theorem keep_setCells (G : Nat → Prop) (b : Nat) (vs : List Value) (o : Nat) (w : World) (h : G b) : Keep G w (w.setCells b o vs) :=
  ⟨World.os_setCells w b o vs, tape_setCells b vs o w, World.output_setCells w b o vs, Nat.le_of_eq (heap_size_setCells b vs o w).symm, by
    have : ∀ (vs : List Value) (o : Nat) (w : World), (w.setCells b o vs).drawn = w.drawn := by
      intro vs
      induction vs with
      | nil => intro o w; rfl
      | cons v r ih => intro o w; rw [World.setCells, ih]; rfl
    rw [this]; exact Nat.le_refl _, fun _ hk hn =>
    World.heap_setCells_other w b o vs hk (fun e => hn (e ▸ h))⟩
structure Elem (P : Program) (t e : TypeId) (i : TypeInfo) (z : Value) (k bytes : Nat) : Prop where
  under : P.underlying t = some (.slice e)
  info : P.info? e = some i
  zero : i.zero = some z
  size : i.size = k
  bytes : i.bytes = bytes
  cells : z.cells.size = k
theorem add_lit0 (g j : Nat) : (⟨g, 0, none⟩ : Addr).add j = ⟨g, j, none⟩ := by unfold Addr.add; split <;> simp_all
theorem run_append_rk {P : Program} {t e : TypeId} {i : TypeInfo} {z : Value} {k bytes : Nat} (E : Elem P t e i z k bytes) {G : Nat → Prop} {w : World} {v : Value} {n : Nat} {xs : List Value} (h : Rk k G w v n xs) (hG : ∀ k, w.heap.size ≤ k → G k) (tx ty : TypeId) (x : Value) (m : Nat) (ys : List Value) (hs : Src P k tx x m ys w)
    (hb : (n + m) * bytes ≤ 140737488355328) (hl : n + m ≤ 140737488355328) :
    ∃ v' w', (Builtin.append_ #[t, tx] ty #[v, x]).run P w = .ok v' w' ∧ Rk k (fun k => G k ∧ (At v k ∨ w.heap.size ≤ k)) w' v' (n + m) (xs ++ ys) ∧ Keep (At v) w w' := by
  have ht := E.under
  have hi := E.info
  have hz := E.zero
  have hsz := E.size
  have hys := hs.newsLen
  have hml : n + m ≤ maxLen := by unfold maxLen; omega
  have hmul : (n + m) * k = n * k + m * k := Nat.add_mul _ _ _
  obtain ⟨hxs, h⟩ := h
  have hlen : (xs ++ ys).length = (n + m) * k := by rw [List.length_append, hxs, hys, hmul]
  rw [← hsz] at hs
  have grow : ∀ (base : Option Addr) (sc : Nat), v = .slice base n sc → sc < n + m →
      (Builtin.firstCells i.size n (.slice base n sc)).run P w.drew = .ok xs.toArray w.drew →
      ∃ v' w', (Builtin.append_ #[t, tx] ty #[v, x]).run P w = .ok v' w' ∧ Rk k (fun k => G k ∧ (At v k ∨ w.heap.size ≤ k)) w' v' (n + m) (xs ++ ys) ∧ Keep (At v) w w' := by
    rintro base sc rfl hg hold
    have hrun := run_append_grow_src (P := P) w t tx ty e i _ ht hi hz base n sc xs hold x m ys hs hg (by omega) (growslice_fits hg (by rw [E.bytes]; omega))
    have hge := grownCap_ge w (n + m) sc e
    have hcl := grownCap_le_maxLen w (n + m) sc e hml
    obtain ⟨q, hq⟩ : ∃ q, grownCap w (n + m) sc e = n + m + q := ⟨_, (Nat.add_sub_cancel' hge).symm⟩
    rw [hq] at hrun hcl
    rw [Nat.add_sub_cancel_left] at hrun
    have hzs : (Builtin.zeroCells z.cells q).size = q * k := by rw [size_zeroCells, E.cells]
    have hcap : (n + m + q) * k = (n + m) * k + q * k := Nat.add_mul _ _ _
    refine ⟨_, _, hrun, ⟨hlen, .inr ⟨w.heap.size, _, rfl, ⟨hG _ (Nat.le_refl _), .inr (Nat.le_refl _)⟩, by simp, by omega, hcl, fun j hj => ?_, fun j hj => ⟨?_, ?_⟩⟩⟩,
      ⟨rfl, rfl, rfl, by simp, Nat.le_succ _, fun k hk _ => Below.heap_alloc w.drew _ k (by simpa using hk)⟩⟩
    · have e1 : (w.drew.alloc (.cells ((xs ++ ys).toArray ++ Builtin.zeroCells z.cells q) e)).cell? ⟨w.heap.size, j, none⟩ = _ := World.cell?_alloc_new w.drew _ _ j
      rw [e1, Array.getElem?_append_left (by simp only [List.size_toArray]; exact hj), List.getElem?_toArray]
    · have e1 : (w.drew.alloc (.cells ((xs ++ ys).toArray ++ Builtin.zeroCells z.cells q) e)).cell? ⟨w.heap.size, j, none⟩ = _ := World.cell?_alloc_new w.drew _ _ j
      rw [e1]
      rw [Array.getElem?_eq_getElem (by rw [Array.size_append, hzs]; simp only [List.size_toArray, hlen]; omega)]
      rfl
    · exact World.frozen?_alloc_new w.drew _ _ j
  rcases h with ⟨rfl, rfl⟩ | ⟨g, cap, rfl, hBg, hg, hlc, hm, hc, hf⟩
  · obtain rfl : xs = [] := List.eq_nil_of_length_eq_zero (by simpa using hxs)
    by_cases hm0 : m = 0
    · subst hm0
      obtain rfl : ys = [] := List.eq_nil_of_length_eq_zero (by simpa using hys)
      exact ⟨_, _, run_append_nothing (P := P) w t tx ty e i ht hi none 0 0 (Nat.le_refl _) x (by simpa using hs), ⟨by simp, .inl ⟨rfl, rfl⟩⟩, Keep.refl _ _⟩
    · exact grow none 0 rfl (by omega) (run_firstCells_none w.drew i.size 0 0 0)
  · by_cases hfit : n + m ≤ cap
    · have hck : (n + m) * k ≤ cap * k := Nat.mul_le_mul_right _ hfit
      have hj1 : ∀ j, j < ys.length → 0 + n * i.size + j < cap * k := fun j hj => by rw [hsz]; omega
      have hrun := run_append_room_src (P := P) w t tx ty e i ht hi g 0 n cap x m ys hs hfit (fun j hj => (hf _ (hj1 j hj)).1) (fun j hj => (hf _ (hj1 j hj)).2)
      have eoff : 0 + n * i.size = xs.length := by rw [hsz, hxs]; omega
      rw [eoff] at hrun
      refine ⟨_, _, hrun, ⟨hlen, .inr ⟨g, cap, rfl, ⟨hBg, .inl ⟨_, _, rfl⟩⟩, by rw [heap_size_setCells]; exact hg, hfit, hm, fun j hj => ?_, fun j hj => ⟨?_, ?_⟩⟩⟩, keep_setCells _ _ _ _ _ ⟨_, _, rfl⟩⟩
      · rw [List.length_append] at hj
        by_cases hjl : j < xs.length
        · rw [World.cell?_setCells_out g _ _ _ _ (fun _ _ => .inl hjl), hc j hjl, List.getElem?_append_left hjl]
        · have ht' : j - xs.length < ys.length := by omega
          have hin := World.cell?_setCells_in g ys xs.length w (fun j hj => (hf _ (by omega)).1) (j - xs.length) ht'
          rw [show xs.length + (j - xs.length) = j by omega] at hin
          rw [hin, List.getElem?_append_right (by omega), List.getElem?_eq_getElem ht']
      · by_cases hin : xs.length ≤ j ∧ j < xs.length + ys.length
        · have ht' : j - xs.length < ys.length := by omega
          have hin := World.cell?_setCells_in g ys xs.length w (fun j hj => (hf _ (by omega)).1) (j - xs.length) ht'
          rw [show xs.length + (j - xs.length) = j by omega] at hin
          rw [hin]; rfl
        · rw [World.cell?_setCells_out g _ _ _ _ (fun _ _ => by show j < xs.length ∨ xs.length + ys.length ≤ j; omega)]
          exact (hf j hj).1
      · rw [World.frozen?_setCells]
        exact (hf j hj).2
    · exact grow _ cap rfl (by omega) (run_firstCells_some w.drew i.size n ⟨g, 0, none⟩ n cap xs (by rw [hsz, hxs]) (fun j u hu => by
        have hj : j < xs.length := (List.getElem?_eq_some_iff.1 hu).1
        rw [add_lit0]
        show w.drew.cell? ⟨g, j, none⟩ = some u
        rw [World.cell?_drew, hc j hj, hu]))
theorem Rk.src {P : Program} {t e : TypeId} (ht : P.underlying t = some (.slice e)) {k : Nat} {G : Nat → Prop} {w : World} {v : Value} {n : Nat} {xs : List Value} (h : Rk k G w v n xs) (h1 : ∀ u ∈ xs, u.oneCell' = true) : Src P k t v n xs w := by
  obtain ⟨h0, ⟨rfl, rfl⟩ | ⟨g, cap, rfl, hBg, hg, hlc, hm, hc, hf⟩⟩ := h
  · obtain rfl : xs = [] := List.eq_nil_of_length_eq_zero (by simpa using h0)
    exact Src.ofNil w ht 0
  · refine Src.ofSlice w ht _ _ _ _ h0 (fun j u hu => ?_) h1
    have hj : j < xs.length := (List.getElem?_eq_some_iff.1 hu).1
    rw [add_lit0, hc j hj, hu]
theorem rk_new (k : Nat) (w : World) (n : Nat) (xs : List Value) (e : TypeId) (h0 : xs.length = n * k) (hl : n ≤ 1000) : Rk k (fun k => k = w.heap.size) (w.alloc (.cells xs.toArray e)) (.slice (some ⟨w.heap.size, 0, none⟩) n n) n xs := by
  refine ⟨h0, .inr ⟨w.heap.size, n, rfl, rfl, by simp, Nat.le_refl _, by unfold maxLen; omega, fun j hj => ?_, fun j hj => ⟨?_, ?_⟩⟩⟩
  · have e1 : (w.alloc (.cells xs.toArray e)).cell? ⟨w.heap.size, j, none⟩ = _ := World.cell?_alloc_new w _ _ j
    rw [e1, List.getElem?_toArray]
  · have e1 : (w.alloc (.cells xs.toArray e)).cell? ⟨w.heap.size, j, none⟩ = _ := World.cell?_alloc_new w _ _ j
    rw [e1, Array.getElem?_eq_getElem (by simp only [List.size_toArray]; omega)]
    rfl
  · exact World.frozen?_alloc_new w _ _ j
theorem wpList_append_rk {P : Program} {t e : TypeId} {i : TypeInfo} {z : Value} {k bytes : Nat} (E : Elem P t e i z k bytes) (w : World) {ops : Array Oper} {rest : List Oper} {o : Oper} {a : Act} {Q : Exit → Act → World → Prop} (hgd : o.guard = none) (s x : Operand) (tx : TypeId)
    (ho : o.op = .call { callee := .builtin .append, args := #[s, x], argTypes := #[t, tx] })
    {G : Nat → Prop} {v : Value} {n : Nat} {xs : List Value} (hv : a.eval s = v) (h : Rk k G w v n xs) (hG : ∀ k, w.heap.size ≤ k → G k)
    (xv : Value) (m : Nat) (ys : List Value) (hx : a.eval x = xv) (hs : Src P k tx xv m ys w) (hb : (n + m) * bytes ≤ 140737488355328) (hl : n + m ≤ 140737488355328)
    (hK : ∀ v' w', Rk k (fun k => G k ∧ (At v k ∨ w.heap.size ≤ k)) w' v' (n + m) (xs ++ ys) → Keep (At v) w w' → wpList P ops Q rest (a.put o.dst v') w') : wpList P ops Q (o :: rest) a w := by
  refine wpList_plain hgd fun K hK' => ?_
  obtain ⟨v', w', hrun, h1, h2⟩ := run_append_rk E h hG tx o.type xv m ys hs hb hl
  unfold Oper.wp
  simp [execOp, ho, resolve, invoke, builtin, hv, hx, hrun, Result.andThen]
  exact hK' _ _ (hK v' w' h1 h2)
end Go.Proofs.YtoobjjpheegmdaaGreat.E4
namespace Go.Proofs.YtoobjjpheegmdaaGreat.E4
open Go.RowKit Go
def Lab.val (x : Lab) : Value := .agg #[.string x.n, .string x.v]
def LabsAt (G : Nat → Prop) (w : World) (v : Value) (ls : List Lab) : Prop :=
  ∃ a cap, v = .slice a ls.length cap ∧ ls.length ≤ 9223372036854775807 ∧ (ls = [] ∨ ∃ b off, a = some ⟨b, off, none⟩ ∧ G b ∧ b < w.heap.size ∧
    ∀ i (h : i < ls.length), w.cell? ⟨b, off + i * 2, none⟩ = some (.string ls[i].n) ∧ w.cell? ⟨b, off + i * 2 + 1, none⟩ = some (.string ls[i].v))
theorem LabsAt.carry {G : Nat → Prop} {w w' : World} {v : Value} {ls : List Lab} (h : LabsAt G w v ls) (hs : w.heap.size ≤ w'.heap.size) (hb : ∀ b, G b → b < w.heap.size → w'.heap[b]? = w.heap[b]?) : LabsAt G w' v ls := by
  obtain ⟨a, cap, hv, hn, h | ⟨b, off, ha, hg, hlt, hc⟩⟩ := h
  · exact ⟨a, cap, hv, hn, .inl h⟩
  · refine ⟨a, cap, hv, hn, .inr ⟨b, off, ha, hg, Nat.lt_of_lt_of_le hlt hs, fun i hi => ?_⟩⟩
    rw [World.cell?_of_block (a := ⟨b, off + i * 2, none⟩) (hb b hg hlt), World.cell?_of_block (a := ⟨b, off + i * 2 + 1, none⟩) (hb b hg hlt)]
    exact hc i hi
theorem LabsAt.mono {G H : Nat → Prop} {w : World} {v : Value} {ls : List Lab} (h : LabsAt G w v ls) (hG : ∀ b, G b → b < w.heap.size → H b) : LabsAt H w v ls := by
  obtain ⟨a, cap, hv, hn, h | ⟨b, off, ha, hg, hlt, hc⟩⟩ := h
  · exact ⟨a, cap, hv, hn, .inl h⟩
  · exact ⟨a, cap, hv, hn, .inr ⟨b, off, ha, hG b hg hlt, hlt, hc⟩⟩
theorem LabsAt.lay {G : Nat → Prop} {w w' : World} {v : Value} {ls : List Lab} (h : LabsAt G w v ls) (hl : Lay w w') : LabsAt G w' v ls := h.carry hl.size (fun _ _ hb => hl.block hb)
theorem LabsAt.keep {G H : Nat → Prop} {w w' : World} {v : Value} {ls : List Lab} (h : LabsAt G w v ls) (hk : Keep H w w') (hd : ∀ b, G b → b < w.heap.size → ¬ H b) : LabsAt G w' v ls := h.carry hk.size (fun b hg hb => hk.block b hb (hd b hg hb))
theorem LabsAt.alloc {G : Nat → Prop} {w : World} {v : Value} {ls : List Lab} (h : LabsAt G w v ls) (o : Obj) : LabsAt G (w.alloc o) v ls := h.lay ((Keep.refl _ _).alloc o)
theorem LabsAt.nil (G : Nat → Prop) (w : World) : LabsAt G w (.slice none 0 0) [] := ⟨none, 0, rfl, by simp, .inl rfl⟩
def Ent.val (e : Ent) (lv : Value) : Value := .agg #[.int .i64 e.tm, lv, .string e.line]
def EntsAt (G L : Nat → Prop) (w : World) (v : Value) (es : List Ent) : Prop :=
  ∃ a cap, v = .slice a es.length cap ∧ es.length ≤ 9223372036854775807 ∧ (es = [] ∨ ∃ b off, a = some ⟨b, off, none⟩ ∧ G b ∧ b < w.heap.size ∧
    ∀ i (h : i < es.length), ∃ lv, w.cell? ⟨b, off + i * 3, none⟩ = some (.int .i64 es[i].tm) ∧ w.cell? ⟨b, off + i * 3 + 1, none⟩ = some lv ∧ w.cell? ⟨b, off + i * 3 + 2, none⟩ = some (.string es[i].line) ∧ LabsAt L w lv es[i].labs)
theorem EntsAt.carry {G L : Nat → Prop} {w w' : World} {v : Value} {es : List Ent} (h : EntsAt G L w v es) (hs : w.heap.size ≤ w'.heap.size) (hb : ∀ b, G b ∨ L b → b < w.heap.size → w'.heap[b]? = w.heap[b]?) : EntsAt G L w' v es := by
  obtain ⟨a, cap, hv, hn, h | ⟨b, off, ha, hg, hlt, hc⟩⟩ := h
  · exact ⟨a, cap, hv, hn, .inl h⟩
  · refine ⟨a, cap, hv, hn, .inr ⟨b, off, ha, hg, Nat.lt_of_lt_of_le hlt hs, fun i hi => ?_⟩⟩
    obtain ⟨lv, h0, h1, h2, h3⟩ := hc i hi
    have e := hb b (.inl hg) hlt
    refine ⟨lv, ?_, ?_, ?_, h3.carry hs (fun b hl => hb b (.inr hl))⟩
    · rw [World.cell?_of_block (a := ⟨b, off + i * 3, none⟩) e]; exact h0
    · rw [World.cell?_of_block (a := ⟨b, off + i * 3 + 1, none⟩) e]; exact h1
    · rw [World.cell?_of_block (a := ⟨b, off + i * 3 + 2, none⟩) e]; exact h2
theorem EntsAt.lay {G L : Nat → Prop} {w w' : World} {v : Value} {es : List Ent} (h : EntsAt G L w v es) (hl : Lay w w') : EntsAt G L w' v es := h.carry hl.size (fun _ _ hb => hl.block hb)
theorem EntsAt.keep {G L H : Nat → Prop} {w w' : World} {v : Value} {es : List Ent} (h : EntsAt G L w v es) (hk : Keep H w w') (hd : ∀ b, G b ∨ L b → b < w.heap.size → ¬ H b) : EntsAt G L w' v es := h.carry hk.size (fun b hg hb => hk.block b hb (hd b hg hb))
theorem EntsAt.mono {G H L M : Nat → Prop} {w : World} {v : Value} {es : List Ent} (h : EntsAt G L w v es) (hG : ∀ b, G b → b < w.heap.size → H b) (hL : ∀ b, L b → b < w.heap.size → M b) : EntsAt H M w v es := by
  obtain ⟨a, cap, hv, hn, h | ⟨b, off, ha, hg, hlt, hc⟩⟩ := h
  · exact ⟨a, cap, hv, hn, .inl h⟩
  · refine ⟨a, cap, hv, hn, .inr ⟨b, off, ha, hG b hg hlt, hlt, fun i hi => ?_⟩⟩
    obtain ⟨lv, h0, h1, h2, h3⟩ := hc i hi
    exact ⟨lv, h0, h1, h2, h3.mono hL⟩
end Go.Proofs.YtoobjjpheegmdaaGreat.E4
namespace Go.Proofs.YtoobjjpheegmdaaGreat.E4
open Go.RowKit Go
theorem ret_bool {a b : Bool} (h : a = b) : Ending.returned (.bool a) = .returned (.bool b) := by rw [h]
end Go.Proofs.YtoobjjpheegmdaaGreat.E4
namespace Go.Proofs.YtoobjjpheegmdaaGreat.E4
open Go.RowKit Go
def valOf (s : ByteArray) : List Lab → ByteArray × Bool
  | [] => (⟨#[]⟩, false)
  | x :: r => if x.n.toList == s.toList then (x.v, true) else valOf s r
end Go.Proofs.YtoobjjpheegmdaaGreat.E4

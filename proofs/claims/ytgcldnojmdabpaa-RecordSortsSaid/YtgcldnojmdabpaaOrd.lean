/-
  ENTRIES AS DATA, AND THEIR ORDER: no program in it. A comparison that answers -1, 0, 1 ('LC'): of pairs, of lists, of texts, of labels, of entries.
-/
import Derived.Test.YtgcldnojmdabpaaRows
import Derived.Lib.Small
import Derived.Lib.Bytes
import Derived.Lib.Hide
namespace Go.Proofs.Ytgcldnojmdabpaa
open Go.RowKit Go

/-- A comparison. -/
structure LC {α : Type} (c : α → α → Int) : Prop where
  tri : ∀ a b, c a b = -1 ∨ c a b = 0 ∨ c a b = 1
  neg : ∀ a b, c b a = - c a b
  eq : ∀ a b, c a b = 0 → a = b
  refl : ∀ a, c a a = 0
  tr : ∀ a b d, c a b = -1 → c b d = -1 → c a d = -1

/-- The first one, unless it is 0. -/
def orI (x y : Int) : Int := if x = 0 then y else x

theorem LC.on {α β : Type} {c : β → β → Int} (h : LC c) (f : α → β) (hf : ∀ a b, f a = f b → a = b) : LC fun a b => c (f a) (f b) :=
  ⟨fun _ _ => h.tri _ _, fun _ _ => h.neg _ _, fun a b e => hf a b (h.eq _ _ e), fun _ => h.refl _, fun _ _ _ x y => h.tr _ _ _ x y⟩

theorem LC.or {α β : Type} {c : α → α → Int} {d : β → β → Int} (h : LC c) (k : LC d) : LC fun (a b : α × β) => orI (c a.1 b.1) (d a.2 b.2) where
  tri a b := by
    have h1 := h.tri a.1 b.1
    have h2 := k.tri a.2 b.2
    simp only [orI]; split <;> omega
  neg a b := by
    have h1 := h.neg a.1 b.1
    have h2 := k.neg a.2 b.2
    simp only [orI]; split <;> split <;> omega
  eq a b e := by
    simp only [orI] at e
    split at e
    · rename_i h0
      exact Prod.ext (h.eq _ _ h0) (k.eq _ _ e)
    · omega
  refl a := by simp only [orI, h.refl, k.refl]; rfl
  tr a b e := by
    have h1 := h.tri a.1 b.1
    have h2 := h.tri b.1 e.1
    have h3 := h.tr a.1 b.1 e.1
    have h4 := k.tr a.2 b.2 e.2
    simp only [orI]
    intro x y
    by_cases p : c a.1 b.1 = 0
    · have hp := h.eq _ _ p
      rw [if_pos p] at x
      rw [hp]
      by_cases q : c b.1 e.1 = 0
      · rw [if_pos q] at y ⊢; exact h4 x y
      · rw [if_neg q] at y ⊢; exact y
    · rw [if_neg p] at x
      by_cases q : c b.1 e.1 = 0
      · rw [← h.eq _ _ q, if_neg p]; exact x
      · rw [if_neg q] at y
        have := h3 x y
        rw [if_neg (by omega)]
        exact this

/-- Lists, one element after the other; where there are no more, that one comes first. -/
def listC {α : Type} (c : α → α → Int) : List α → List α → Int
  | [], [] => 0
  | [], _ :: _ => -1
  | _ :: _, [] => 1
  | a :: l, b :: m => orI (c a b) (listC c l m)

theorem LC.list {α : Type} {c : α → α → Int} (h : LC c) : LC (listC c) where
  tri a := by
    induction a with
    | nil => intro b; cases b <;> simp [listC]
    | cons x l ih =>
      intro b
      cases b with
      | nil => simp [listC]
      | cons y m =>
        have h1 := h.tri x y
        have h2 := ih m
        simp only [listC, orI]; split <;> omega
  neg a := by
    induction a with
    | nil => intro b; cases b <;> simp [listC]
    | cons x l ih =>
      intro b
      cases b with
      | nil => simp [listC]
      | cons y m =>
        have h1 := h.neg x y
        have h2 := ih m
        simp only [listC, orI]; split <;> split <;> omega
  eq a := by
    induction a with
    | nil => intro b; cases b <;> simp [listC]
    | cons x l ih =>
      intro b
      cases b with
      | nil => simp [listC]
      | cons y m =>
        simp only [listC, orI]
        intro e
        split at e
        · rename_i h0
          rw [h.eq _ _ h0, ih m e]
        · omega
  refl a := by
    induction a with
    | nil => rfl
    | cons x l ih => simp only [listC, orI, h.refl, ih]; rfl
  tr a := by
    induction a with
    | nil => intro b d; cases b <;> cases d <;> simp [listC]
    | cons x l ih =>
      intro b d
      cases b with
      | nil => simp [listC]
      | cons y m =>
        cases d with
        | nil => simp [listC]
        | cons z n =>
          have h1 := h.tri x y
          have h2 := h.tri y z
          have h3 := h.tr x y z
          have h4 := ih m n
          simp only [listC, orI]
          intro p q
          by_cases u : c x y = 0
          · have hu := h.eq _ _ u
            rw [if_pos u] at p
            rw [hu]
            by_cases v : c y z = 0
            · rw [if_pos v] at q ⊢; exact h4 p q
            · rw [if_neg v] at q ⊢; exact q
          · rw [if_neg u] at p
            by_cases v : c y z = 0
            · rw [← h.eq _ _ v, if_neg u]; exact p
            · rw [if_neg v] at q
              have := h3 p q
              rw [if_neg (by omega)]
              exact this

/-- Numbers. -/
def intC (x y : Int) : Int := Lib.compareInt x y

theorem intC_lt {a b : Int} : intC a b = -1 ↔ a < b := by unfold intC Lib.compareInt; split <;> (try split) <;> omega
theorem intC_lc : LC intC where
  tri a b := by unfold intC Lib.compareInt; split <;> (try split) <;> omega
  neg a b := by unfold intC Lib.compareInt; split <;> (try split) <;> (try split) <;> omega
  eq a b := by unfold intC Lib.compareInt; split <;> (try split) <;> omega
  refl a := by unfold intC Lib.compareInt; split <;> (try split) <;> omega
  tr a b d := by rw [intC_lt, intC_lt, intC_lt]; omega

/-- Bytes. -/
def byteC (a b : UInt8) : Int := intC a.toNat b.toNat
theorem byteC_lc : LC byteC := intC_lc.on (fun a : UInt8 => (a.toNat : Int)) (fun a b h => UInt8.toNat_inj.1 (by have h' : (a.toNat : Int) = b.toNat := h; omega))

/-- Texts, byte by byte. -/
def strC (x y : ByteArray) : Int := listC byteC x.toList y.toList

theorem toList_inj (x y : ByteArray) (h : x.toList = y.toList) : x = y := by
  rw [Lib.toList_data, Lib.toList_data] at h
  obtain ⟨a⟩ := x
  obtain ⟨b⟩ := y
  have : a.toList = b.toList := h
  rw [Array.toList_inj.1 this]

theorem strC_lc : LC strC := byteC_lc.list.on ByteArray.toList toList_inj

theorem bytesLess_listC : ∀ (x y : List UInt8), Op.bytesLess x y = decide (listC byteC x y = -1)
  | [], [] => by simp [Op.bytesLess, listC]
  | _ :: _, [] => by simp [Op.bytesLess, listC]
  | [], _ :: _ => by simp [Op.bytesLess, listC]
  | a :: x, b :: y => by
    rw [Op.bytesLess, bytesLess_listC x y]
    have e : (a < b) = (a.toNat < b.toNat) := by rw [UInt8.lt_iff_toNat_lt]
    have e2 : (a == b) = decide (a.toNat = b.toNat) := by
      rw [Bool.eq_iff_iff]; simp [UInt8.toNat_inj]
    simp only [listC, orI, byteC, intC, Lib.compareInt, e, e2]
    by_cases h1 : a.toNat < b.toNat
    · simp [h1]
    · by_cases h2 : b.toNat < a.toNat
      · have : ¬ a.toNat = b.toNat := by omega
        simp [h1, h2, this]
      · have : a.toNat = b.toNat := by omega
        simp [this]

theorem less_strC (x y : ByteArray) : Op.bytesLess x.toList y.toList = decide (strC x y = -1) := bytesLess_listC _ _

theorem eq_strC (x y : ByteArray) : (x.toList == y.toList) = decide (strC x y = 0) := by
  by_cases h : x.toList = y.toList
  · have := strC_lc.refl x
    rw [toList_inj x y h] at this ⊢
    simp [this]
  · have : ¬ strC x y = 0 := fun e => h (by rw [strC_lc.eq _ _ e])
    simp [h, this]

/-- A label. -/
structure Lab where
  n : ByteArray
  v : ByteArray

def labC (a b : Lab) : Int := orI (strC a.n b.n) (strC a.v b.v)
theorem labC_lc : LC labC := (strC_lc.or strC_lc).on (fun a : Lab => (a.n, a.v)) (fun a b h => by cases a; cases b; simp_all)

/-- An entry. -/
structure Ent where
  tm : Int
  labs : List Lab
  line : ByteArray

def entC (a b : Ent) : Int := orI (intC a.tm b.tm) (orI (listC labC a.labs b.labs) (strC a.line b.line))
theorem entC_lc : LC entC := (intC_lc.or (labC_lc.list.or strC_lc)).on (fun a : Ent => (a.tm, a.labs, a.line)) (fun a b h => by cases a; cases b; simp_all)

/-- The first that isn't 0. -/
def firstNZ : List Int → Int
  | [] => 0
  | x :: r => orI x (firstNZ r)

theorem firstNZ2 (x y : Int) : firstNZ [x, y] = orI x y := by
  simp only [firstNZ, orI]; split <;> (try split) <;> omega
theorem firstNZ3 (x y z : Int) : firstNZ [x, y, z] = orI x (orI y z) := by
  simp only [firstNZ, orI]; split <;> (try split) <;> (try split) <;> omega

end Go.Proofs.Ytgcldnojmdabpaa

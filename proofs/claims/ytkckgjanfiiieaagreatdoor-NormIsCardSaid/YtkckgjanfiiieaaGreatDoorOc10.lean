/-
  COMPARISONS: texts, numbers, the first one that says something; cmp.Compare, cmp.Or. (After stage 4's.)
-/
import Derived.Test.YtkckgjanfiiieaaGreatDoorWdA
import Derived.Test.YtkckgjanfiiieaaGreatDoorShelf
import Derived.Lib.Small
import Derived.Lib.Bytes
import Derived.Lib.Hide
import Derived.Orders
import Derived.WalkKit
import Derived.Laws.Cover1
namespace Go.Proofs.YtkckgjanfiiieaaGreatDoor
open Go.RowKit Go

/-- A comparison. -/
structure LC {α : Type} (c : α → α → Int) : Prop where
  tri : ∀ a b, c a b = -1 ∨ c a b = 0 ∨ c a b = 1
  neg : ∀ a b, c b a = - c a b
  eq : ∀ a b, c a b = 0 → a = b
  refl : ∀ a, c a a = 0
  tr : ∀ a b d, c a b = -1 → c b d = -1 → c a d = -1

/-- The first one, unless it is 0. -/
def orI (x y : Int) : Int := if x = 0 then y else x

theorem LC.on {α β : Type} {c : β → β → Int} (h : LC c) (f : α → β) (hf : ∀ a b, f a = f b → a = b) : LC fun a b => c (f a) (f b) :=
  ⟨fun _ _ => h.tri _ _, fun _ _ => h.neg _ _, fun a b e => hf a b (h.eq _ _ e), fun _ => h.refl _, fun _ _ _ x y => h.tr _ _ _ x y⟩

theorem LC.or {α β : Type} {c : α → α → Int} {d : β → β → Int} (h : LC c) (k : LC d) : LC fun (a b : α × β) => orI (c a.1 b.1) (d a.2 b.2) where
  tri a b := by
    have h1 := h.tri a.1 b.1
    have h2 := k.tri a.2 b.2
    simp only [orI]; split <;> omega
  neg a b := by
    have h1 := h.neg a.1 b.1
    have h2 := k.neg a.2 b.2
    simp only [orI]; split <;> split <;> omega
  eq a b e := by
    simp only [orI] at e
    split at e
    · rename_i h0
      exact Prod.ext (h.eq _ _ h0) (k.eq _ _ e)
    · omega
  refl a := by simp only [orI, h.refl, k.refl]; rfl
  tr a b e := by
    have h1 := h.tri a.1 b.1
    have h2 := h.tri b.1 e.1
    have h3 := h.tr a.1 b.1 e.1
    have h4 := k.tr a.2 b.2 e.2
    simp only [orI]
    intro x y
    by_cases p : c a.1 b.1 = 0
    · have hp := h.eq _ _ p
      rw [if_pos p] at x
      rw [hp]
      by_cases q : c b.1 e.1 = 0
      · rw [if_pos q] at y ⊢; exact h4 x y
      · rw [if_neg q] at y ⊢; exact y
    · rw [if_neg p] at x
      by_cases q : c b.1 e.1 = 0
      · rw [← h.eq _ _ q, if_neg p]; exact x
      · rw [if_neg q] at y
        have := h3 x y
        rw [if_neg (by omega)]
        exact this

/-- Lists, one element after the other; where there are no more, that one comes first. -/
def listC {α : Type} (c : α → α → Int) : List α → List α → Int
  | [], [] => 0
  | [], _ :: _ => -1
  | _ :: _, [] => 1
  | a :: l, b :: m => orI (c a b) (listC c l m)

theorem LC.list {α : Type} {c : α → α → Int} (h : LC c) : LC (listC c) where
  tri a := by
    induction a with
    | nil => intro b; cases b <;> simp [listC]
    | cons x l ih =>
      intro b
      cases b with
      | nil => simp [listC]
      | cons y m =>
        have h1 := h.tri x y
        have h2 := ih m
        simp only [listC, orI]; split <;> omega
  neg a := by
    induction a with
    | nil => intro b; cases b <;> simp [listC]
    | cons x l ih =>
      intro b
      cases b with
      | nil => simp [listC]
      | cons y m =>
        have h1 := h.neg x y
        have h2 := ih m
        simp only [listC, orI]; split <;> split <;> omega
  eq a := by
    induction a with
    | nil => intro b; cases b <;> simp [listC]
    | cons x l ih =>
      intro b
      cases b with
      | nil => simp [listC]
      | cons y m =>
        simp only [listC, orI]
        intro e
        split at e
        · rename_i h0
          rw [h.eq _ _ h0, ih m e]
        · omega
  refl a := by
    induction a with
    | nil => rfl
    | cons x l ih => simp only [listC, orI, h.refl, ih]; rfl
  tr a := by
    induction a with
    | nil => intro b d; cases b <;> cases d <;> simp [listC]
    | cons x l ih =>
      intro b d
      cases b with
      | nil => simp [listC]
      | cons y m =>
        cases d with
        | nil => simp [listC]
        | cons z n =>
          have h1 := h.tri x y
          have h2 := h.tri y z
          have h3 := h.tr x y z
          have h4 := ih m n
          simp only [listC, orI]
          intro p q
          by_cases u : c x y = 0
          · have hu := h.eq _ _ u
            rw [if_pos u] at p
            rw [hu]
            by_cases v : c y z = 0
            · rw [if_pos v] at q ⊢; exact h4 p q
            · rw [if_neg v] at q ⊢; exact q
          · rw [if_neg u] at p
            by_cases v : c y z = 0
            · rw [← h.eq _ _ v, if_neg u]; exact p
            · rw [if_neg v] at q
              have := h3 p q
              rw [if_neg (by omega)]
              exact this

/-- Numbers. -/
def intC (x y : Int) : Int := Lib.compareInt x y

theorem intC_lt {a b : Int} : intC a b = -1 ↔ a < b := by unfold intC Lib.compareInt; split <;> (try split) <;> omega
theorem intC_lc : LC intC where
  tri a b := by unfold intC Lib.compareInt; split <;> (try split) <;> omega
  neg a b := by unfold intC Lib.compareInt; split <;> (try split) <;> (try split) <;> omega
  eq a b := by unfold intC Lib.compareInt; split <;> (try split) <;> omega
  refl a := by unfold intC Lib.compareInt; split <;> (try split) <;> omega
  tr a b d := by rw [intC_lt, intC_lt, intC_lt]; omega

/-- Bytes. -/
def byteC (a b : UInt8) : Int := intC a.toNat b.toNat
theorem byteC_lc : LC byteC := intC_lc.on (fun a : UInt8 => (a.toNat : Int)) (fun a b h => UInt8.toNat_inj.1 (by have h' : (a.toNat : Int) = b.toNat := h; omega))

/-- Texts, byte by byte. -/
def strC (x y : ByteArray) : Int := listC byteC x.toList y.toList

theorem toList_inj4 (x y : ByteArray) (h : x.toList = y.toList) : x = y := by
  rw [Lib.toList_data, Lib.toList_data] at h
  obtain ⟨a⟩ := x
  obtain ⟨b⟩ := y
  have : a.toList = b.toList := h
  rw [Array.toList_inj.1 this]

theorem strC_lc : LC strC := byteC_lc.list.on ByteArray.toList toList_inj4

theorem bytesLess_listC : ∀ (x y : List UInt8), Op.bytesLess x y = decide (listC byteC x y = -1)
  | [], [] => by simp [Op.bytesLess, listC]
  | _ :: _, [] => by simp [Op.bytesLess, listC]
  | [], _ :: _ => by simp [Op.bytesLess, listC]
  | a :: x, b :: y => by
    rw [Op.bytesLess, bytesLess_listC x y]
    have e : (a < b) = (a.toNat < b.toNat) := by rw [UInt8.lt_iff_toNat_lt]
    have e2 : (a == b) = decide (a.toNat = b.toNat) := by
      rw [Bool.eq_iff_iff]; simp [UInt8.toNat_inj]
    simp only [listC, orI, byteC, intC, Lib.compareInt, e, e2]
    by_cases h1 : a.toNat < b.toNat
    · simp [h1]
    · by_cases h2 : b.toNat < a.toNat
      · have : ¬ a.toNat = b.toNat := by omega
        simp [h1, h2, this]
      · have : a.toNat = b.toNat := by omega
        simp [this]

theorem less_strC (x y : ByteArray) : Op.bytesLess x.toList y.toList = decide (strC x y = -1) := bytesLess_listC _ _

theorem eq_strC (x y : ByteArray) : (x.toList == y.toList) = decide (strC x y = 0) := by
  by_cases h : x.toList = y.toList
  · have := strC_lc.refl x
    rw [toList_inj4 x y h] at this ⊢
    simp [this]
  · have : ¬ strC x y = 0 := fun e => h (by rw [strC_lc.eq _ _ e])
    simp [h, this]

/-- A label. -/
structure Lab where
  n : ByteArray
  v : ByteArray

/-- An entry. -/
structure Ent where
  tm : Int
  labs : List Lab
  line : ByteArray

/-- The first that isn't 0. -/
def firstNZ : List Int → Int
  | [] => 0
  | x :: r => orI x (firstNZ r)

theorem firstNZ3 (x y z : Int) : firstNZ [x, y, z] = orI x (orI y z) := by
  simp only [firstNZ, orI]; split <;> (try split) <;> (try split) <;> omega

set_option maxHeartbeats 400000 in
theorem isNaN_str (x : ByteArray) (w : World) : Calls Tryz.prog 43 #[.string x] w fun e w' => e = .returned (.bool false) ∧ w' = w := by
  go_enter Tryz.func43, Tryz.ntmps43
  go_wp2
  go_ret
  exact ⟨by simp, rfl⟩

set_option maxHeartbeats 1000000 in
theorem cmp_str (x y : ByteArray) (w : World) : Calls Tryz.prog 33 #[.string x, .string y] w fun e w' => e = .returned (.int .i64 (strC x y)) ∧ w' = w := by
  have hl := less_strC x y
  have he := eq_strC x y
  have ht := strC_lc.tri x y
  generalize strC x y = c at hl he ht ⊢
  rcases ht with rfl | rfl | rfl
  all_goals
    simp only [Int.reduceNeg, Int.reduceEq, decide_true, decide_false] at hl he
    go_enter Tryz.func33, Tryz.ntmps33
    go_wp2_with (go_at_call 43; refine (isNaN_str _ _).mono ?_; rintro e w' ⟨rfl, rfl⟩)
    go_ret
    exact ⟨rfl, rfl⟩

theorem firstNZ_drop (xs : List Int) (k : Nat) (hk : k < xs.length) : firstNZ (xs.drop k) = orI (xs.getD k 0) (firstNZ (xs.drop (k + 1))) := by
  rw [List.drop_eq_getElem_cons hk]
  simp [firstNZ, List.getD, hk]

set_option maxHeartbeats 2000000 in
theorem or_any (g o c : Nat) (xs : List Int) (hx : xs.length ≤ 1000) (w : World) (h : ∀ i, i < xs.length → w.cell? ⟨g, o + i, none⟩ = some (.int .i64 (xs.getD i 0))) :
    Calls Tryz.prog 32 #[.slice (some ⟨g, o, none⟩) xs.length c] w fun e w' => e = .returned (.int .i64 (firstNZ xs)) ∧ w' = w := by
  have HH := Lib.hid h
  clear h
  go_enter Tryz.func32, Tryz.ntmps32
  go_wp2_with fail
  go_loopw [8] (fun vi wr => ∃ k : Nat, vi = .int .i64 k ∧ k ≤ xs.length ∧ wr = w ∧ firstNZ xs = firstNZ (xs.drop k)) (fun vi _ => xs.length - (intOf vi).toNat)
  case atStart => exact ⟨0, rfl, Nat.zero_le _, rfl, by simp⟩
  case round =>
    obtain ⟨k, rfl, hk, rfl, hz⟩ := hrel
    have HZ := Lib.hid hz
    clear hz
    by_cases hlt : k < xs.length
    · have hc := HH.out k hlt
      have hd := Lib.hid (firstNZ_drop xs k hlt)
      generalize xs.getD k 0 = x at hc hd
      by_cases h0 : x = 0
      · subst h0
        go_wp2_with fail
        go_roundw
        case rel => exact ⟨k + 1, by go_num, by omega, by trivial, by rw [HZ.out, hd.out]; simp [orI]⟩
        case measure => simp [intOf]; omega
      · have H0 := Lib.hid h0
        have e0 : (x == 0) = false := by simpa using h0
        clear h0
        go_wp2_with fail
        go_ret
        exact ⟨by rw [HZ.out, hd.out]; simp [orI, H0.out], rfl⟩
    · obtain rfl : k = xs.length := by omega
      go_wp2_with fail
      go_ret
      exact ⟨by rw [HZ.out]; simp [firstNZ], rfl⟩

theorem cmp_int (x y : Int) (w : World) : Calls Tryz.prog 34 #[.int .i64 x, .int .i64 y] w fun e w' => e = .returned (.int .i64 (intC x y)) ∧ w' = w := Tryz.cmp_Compare_int x y w

end Go.Proofs.YtkckgjanfiiieaaGreatDoor

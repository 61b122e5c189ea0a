/-
  FILTERS MADE OF NUMBERS: no program in it.
-/
import Derived.Test.YtjghomppmphkoaaGreatDoorTree0
namespace Go.Proofs.YtjghomppmphkoaaGreatDoor
open Go MW
namespace Ft

/-- The next number of l, from 0 on, below n; how many are used up. -/
def next (l : List Int) (n : Nat) (p : Nat) : Nat × Nat :=
  if h : p < l.length then ((l[p] % 18446744073709551616).toNat % n, p + 1) else (0, p)

theorem next_lt {l : List Int} {n p : Nat} (h : 0 < n) : (next l n p).1 < n := by
  unfold next
  split
  · exact Nat.mod_lt _ h
  · exact h

def texts : List ByteArray := [⟨#[103, 101, 116]⟩, ⟨#[101, 114, 114]⟩, ⟨#[97]⟩, ⟨#[98]⟩, ⟨#[111, 107, 32, 50, 48, 48]⟩, ⟨#[120, 45, 121]⟩, ⟨#[32, 97, 32]⟩, ⟨#[]⟩, ⟨#[195, 169]⟩, ⟨#[107, 61, 103, 101, 116]⟩, ⟨#[97, 34, 98]⟩, ⟨#[105, 100, 95, 55]⟩]
def names : List ByteArray := [⟨#[107]⟩, ⟨#[97]⟩, ⟨#[105, 100]⟩]
def textOf (c : Nat) : ByteArray := texts.getD c ⟨#[]⟩
def nameOf (c : Nat) : ByteArray := names.getD c ⟨#[]⟩

/-- So many kids, one behind the other. -/
def several (make : Nat → Ft × Nat) : Nat → Nat → List Ft × Nat
  | 0, p => ([], p)
  | k + 1, p => let x := make p; let r := several make k x.2; (x.1 :: r.1, r.2)

/-- A filter of numbers, at most so deep. -/
def make (l : List Int) : Nat → Nat → Ft × Nat
  | 0, p =>
    let c := next l 5 p
    if c.1 ≤ 1 then let t := next l 12 c.2; (mk 3 ⟨#[]⟩ (textOf t.1) [], t.2)
    else if c.1 = 2 then let t := next l 12 c.2; (mk 4 ⟨#[]⟩ (textOf t.1) [], t.2)
    else if c.1 = 3 then let n := next l 3 c.2; let t := next l 12 n.2; (mk 5 (nameOf n.1) (textOf t.1) [], t.2)
    else let o := next l 2 c.2; (mk (1 + o.1) ⟨#[]⟩ ⟨#[]⟩ [], o.2)
  | d + 1, p =>
    let c := next l 8 p
    if c.1 ≤ 1 then let t := next l 12 c.2; (mk 3 ⟨#[]⟩ (textOf t.1) [], t.2)
    else if c.1 = 2 then let t := next l 12 c.2; (mk 4 ⟨#[]⟩ (textOf t.1) [], t.2)
    else if c.1 = 3 then let n := next l 3 c.2; let t := next l 12 n.2; (mk 5 (nameOf n.1) (textOf t.1) [], t.2)
    else if c.1 = 4 then let o := next l 2 c.2; (mk (1 + o.1) ⟨#[]⟩ ⟨#[]⟩ [], o.2)
    else if c.1 = 5 then let x := make l d c.2; (mk 6 ⟨#[]⟩ ⟨#[]⟩ [x.1], x.2)
    else let o := next l 2 c.2; let k := next l 2 o.2; let r := several (make l d) (2 + k.1) k.2; (mk (7 + o.1) ⟨#[]⟩ ⟨#[]⟩ r.1, r.2)

theorem several_length (m : Nat → Ft × Nat) : ∀ (k p : Nat), (several m k p).1.length = k
  | 0, _ => rfl
  | k + 1, p => by simp only [several, List.length_cons, several_length m k]

theorem several_all {m : Nat → Ft × Nat} {P : Ft → Prop} (h : ∀ p, P (m p).1) : ∀ (k p : Nat), ∀ x ∈ (several m k p).1, P x
  | 0, _, x, hx => by simp [several] at hx
  | k + 1, p, x, hx => by
    simp only [several, List.mem_cons] at hx
    rcases hx with rfl | hx
    · exact h p
    · exact several_all h k _ x hx

/-- Where a filter has one made so: all of it can be, from depth e on. -/
def fits (e : Nat) (f : Ft) : Prop := ∀ r ∈ rows e f, rowOK r = true

theorem fits_kids {e : Nat} {o : Int} {n t : ByteArray} {k : List Ft} (h : ∀ x ∈ k, fits (e + 1) x) (hr : rowOK ⟨o, n, t, k.length, e⟩ = true) : fits e (mk o n t k) := by
  intro r hm
  rw [rows, List.mem_cons] at hm
  rcases hm with rfl | hm
  · exact hr
  · have : ∀ (d : Nat) (l : List Ft), (∀ x ∈ l, fits d x) → ∀ r ∈ rowsOf d l, rowOK r = true := by
      intro d l
      induction l with
      | nil => intro _ r hr; simp [rowsOf] at hr
      | cons x l ih =>
        intro h r hr
        rw [rowsOf, List.mem_append] at hr
        rcases hr with hr | hr
        · exact h x (by simp) r hr
        · exact ih (fun y hy => h y (by simp [hy])) r hr
    exact this (e + 1) k h r hm

theorem name_fits : ∀ c, c < 3 → MW.name (nameOf c).data.toList = true := by decide

theorem leaf_fits {e : Nat} (he : e ≤ 18) (o : Int) (n t : ByteArray) (h : rowOK ⟨o, n, t, 0, 0⟩ = true) : fits e (mk o n t []) := by
  refine fits_kids (fun x hx => by simp at hx) ?_
  unfold rowOK at h ⊢
  simp only [Bool.and_eq_true, List.length_nil] at h ⊢
  exact ⟨⟨⟨⟨h.1.1.1.1, by simpa using he⟩, h.1.1.2⟩, h.1.2⟩, h.2⟩

theorem make_fits (l : List Int) : ∀ (d p e : Nat), e + d ≤ 18 → fits e (make l d p).1 := by
  have word : ∀ (e : Nat), e ≤ 18 → ∀ t, fits e (mk 3 ⟨#[]⟩ t []) := fun e he t => leaf_fits he _ _ _ (by simp [rowOK, kidsOK])
  have has : ∀ (e : Nat), e ≤ 18 → ∀ t, fits e (mk 4 ⟨#[]⟩ t []) := fun e he t => leaf_fits he _ _ _ (by simp [rowOK, kidsOK])
  have field : ∀ (e : Nat), e ≤ 18 → ∀ c, c < 3 → ∀ t, fits e (mk 5 (nameOf c) t []) := fun e he c hc t => leaf_fits he _ _ _ (by simp [rowOK, kidsOK, name_fits c hc])
  have bools : ∀ (e : Nat), e ≤ 18 → ∀ o : Nat, o < 2 → fits e (mk (1 + o) ⟨#[]⟩ ⟨#[]⟩ []) := fun e he o ho => by
    have h : o = 0 ∨ o = 1 := by omega
    rcases h with rfl | rfl
    · exact leaf_fits he _ _ _ (by simp [rowOK, kidsOK])
    · exact leaf_fits he _ _ _ (by simp [rowOK, kidsOK])
  intro d
  induction d with
  | zero =>
    intro p e he
    simp only [make]
    split
    · exact word e (by omega) _
    split
    · exact has e (by omega) _
    split
    · exact field e (by omega) _ (next_lt (by decide)) _
    · exact bools e (by omega) _ (next_lt (by decide))
  | succ d ih =>
    intro p e he
    simp only [make]
    split
    · exact word e (by omega) _
    split
    · exact has e (by omega) _
    split
    · exact field e (by omega) _ (next_lt (by decide)) _
    split
    · exact bools e (by omega) _ (next_lt (by decide))
    split
    · refine fits_kids (fun x hx => ?_) ?_
      · rw [List.mem_singleton] at hx
        subst hx
        exact ih _ _ (by omega)
      · simp [rowOK, kidsOK]; omega
    · refine fits_kids (several_all (P := fits (e + 1)) (fun p => ih p (e + 1) (by omega)) _ _) ?_
      rw [several_length]
      have h2 := next_lt (l := l) (n := 2) (p := (next l 8 p).2) (by decide)
      generalize (next l 2 (next l 8 p).2).1 = o at h2
      have ho : o = 0 ∨ o = 1 := by omega
      rcases ho with rfl | rfl
      · simp [rowOK, kidsOK]; omega
      · simp [rowOK, kidsOK]; omega

/-- What is made of numbers can be. -/
theorem make_good (l : List Int) (d p : Nat) (hd : d ≤ 18) : good (make l d p).1 = true := List.all_eq_true.2 (make_fits l d p 0 (by omega))

end Ft
end Go.Proofs.YtjghomppmphkoaaGreatDoor

/-
  magpielaw04.RecordBack: what a walk asks of bytes. No walk.
-/
import Derived.Test.YtgcldnojmdabpaaGetE
namespace Go.Proofs.Ytgcldnojmdabpaa
open Go.RowKit Go

def bytesF : List Ent → List UInt8
  | [] => []
  | x :: r => x.bytes ++ bytesF r

theorem bytesF_append : ∀ l m : List Ent, bytesF (l ++ m) = bytesF l ++ bytesF m
  | [], _ => rfl
  | x :: l, m => by simp [bytesF, bytesF_append l m]

theorem labsF_small : ∀ ls : List Lab, (∀ x ∈ ls, x.n.size ≤ 200 ∧ x.v.size ≤ 200) → (labsF ls).length ≤ 420 * ls.length
  | [], _ => by simp [labsF]
  | x :: r, h => by
    have h1 := labsF_small r (fun y hy => h y (by simp [hy]))
    have h2 := h x (by simp)
    have h3 := textB_len x.n (by omega)
    have h4 := textB_len x.v (by omega)
    simp only [labsF, labB, List.length_append, List.length_cons]
    omega

theorem small_len {x : Ent} (ht : -9223372036854775808 ≤ x.tm ∧ x.tm ≤ 9223372036854775807) (hb : x.big = false) : x.bytes.length ≤ 10000 := by
  obtain ⟨_, h1, h2, h3⟩ := mod_of ht hb
  have h4 := labsF_small x.labs h3
  have h5 := textB_len x.line (by omega)
  have h6 := Lib.uvarint_length64 (Lib.zigzag_lt ht.1 ht.2)
  have h7 := Lib.uvarint_length64 (x := x.labs.length) (by omega)
  unfold Ent.bytes labsB
  simp only [List.length_append]
  omega

theorem bytesF_len : ∀ l : List Ent, (∀ x ∈ l, x.bytes.length ≤ 10000) → (bytesF l).length ≤ 10000 * l.length
  | [], _ => by simp [bytesF]
  | x :: r, h => by
    have h1 := bytesF_len r (fun y hy => h y (by simp [hy]))
    have h2 := h x (by simp)
    simp only [bytesF, List.length_append, List.length_cons]
    omega

theorem ok_small {x : Ent} (h : x.ok = true) : x.labs.length ≤ 4 ∧ (∀ y ∈ x.labs, y.n.size ≤ 20 ∧ y.v.size ≤ 20) ∧ x.line.size ≤ 200 := by
  unfold Ent.ok labsOK lineOK at h
  simp only [Bool.and_eq_true, decide_eq_true_eq] at h
  obtain ⟨⟨_, h4, hall⟩, hl, _⟩ := h
  refine ⟨h4, fun y hy => ?_, hl⟩
  obtain ⟨i, hi, rfl⟩ := List.getElem_of_mem hy
  have h5 := List.all_eq_true.1 hall i (List.mem_range.2 hi)
  unfold labOK MW.name at h5
  have e : x.labs.getD i noLab = x.labs[i] := by simp [List.getD, hi]
  rw [e] at h5
  simp only [Bool.and_eq_true, decide_eq_true_eq] at h5
  rw [dlen] at h5
  exact ⟨h5.1.1.1.1.2, h5.1.2⟩

theorem not_at_nil (k : Nat) : ¬ At (.slice none 0 0) k := fun ⟨_, _, e⟩ => by cases e
theorem lay_nil {w w' : World} (h : Keep (At (.slice none 0 0)) w w') : Lay w w' := h.into fun k _ hat => (not_at_nil k hat).elim

theorem lay_keepB {w0 W w' : World} {sv : Value} (h : Lay w0 W) (k : Keep (At sv) W w') (ha : ∀ b, At sv b → w0.heap.size ≤ b) : Lay w0 w' :=
  ⟨k.os.trans h.os, k.tape.trans h.tape, k.output.trans h.output, Nat.le_trans h.size k.size, Nat.le_trans h.drawn k.drawn, fun b hb _ =>
    (k.block b (Nat.lt_of_lt_of_le hb h.size) (fun hv => by have := ha b hv; omega)).trans (h.block hb)⟩

theorem below_lay {B : Nat} {w W W' : World} (h : Below B w W) (l : Lay W W') (hB : B ≤ W.heap.size) : Below B w W' := h.trans (l.below.mono hB)

theorem same_self (y : Ent) : decide (entC y y = 0) = true := decide_eq_true (entC_lc.refl y)

end Go.Proofs.Ytgcldnojmdabpaa

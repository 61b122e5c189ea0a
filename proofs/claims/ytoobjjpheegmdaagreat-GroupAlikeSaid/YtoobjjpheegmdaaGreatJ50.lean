/-
  Ki16.
-/
import Derived.Test.YtoobjjpheegmdaaGreatJ41
namespace Go.Proofs.YtoobjjpheegmdaaGreat.E4
open Go.RowKit Go
structure Kin (l : List Int) (m : Nat) (P : List Rep) : Prop where
  len : P.length = l.length
  k : ∀ j (_ : j < P.length) (_ : j < l.length), (P[j].k : Int) = l[j]
  ep : ∀ x ∈ P, x.ep ≤ m
theorem Kin.of {l : List Int} {P : List Rep} (h : Fresh l P) : Kin l 1 P := ⟨h.1, fun j h1 h2 => (h.2 j h1 h2).1, fun x hx => by
  obtain ⟨j, hj, rfl⟩ := List.mem_iff_getElem.1 hx
  have := (h.2 j hj (by rw [← h.1]; exact hj)).2.1
  omega⟩
theorem Kin.mono {l : List Int} {m n : Nat} {P : List Rep} (h : Kin l m P) (hm : m ≤ n) : Kin l n P := ⟨h.len, h.k, fun x hx => Nat.le_trans (h.ep x hx) hm⟩
theorem Kin.set {l : List Int} {m : Nat} {P : List Rep} (h : Kin l m P) {i : Nat} {r : Rep} (hi : i < P.length) (hk : r.k = P[i].k) (he : r.ep ≤ m) : Kin l m (P.set i r) := by
  refine ⟨by rw [List.length_set]; exact h.len, fun j hj hj2 => ?_, fun x hx => ?_⟩
  · rw [List.length_set] at hj
    by_cases e : i = j
    · subst e
      rw [List.getElem_set_self, hk]
      exact h.k _ hj hj2
    · rw [List.getElem_set_ne e]
      exact h.k j hj hj2
  · rcases List.mem_or_eq_of_mem_set hx with hx | rfl
    · exact h.ep x hx
    · exact he
theorem Kin.crash {l : List Int} {m : Nat} {P : List Rep} (h : Kin l m P) (i : Int) : Kin l m (crashP P i).1 := by
  unfold crashP
  cases hr : repAt P i with
  | none => exact h
  | some r =>
    obtain ⟨j, hj, rfl, rfl⟩ := repAt_some hr
    show Kin l m (if P[j].eb.isSome = true then (P.set (j : Int).toNat ⟨P[j].k, P[j].ep, none⟩, (0 : Int)) else (P, 10)).1
    split
    · rw [Int.toNat_natCast]
      exact h.set hj rfl (show P[j].ep ≤ m from h.ep P[j] (List.getElem_mem hj))
    · exact h
theorem Kin.restart {l : List Int} {m : Nat} {P : List Rep} (h : Kin l m P) (i : Int) (gb : Nat) : Kin l (m + 1) (restartP P i gb) := by
  unfold restartP
  cases hr : repAt P i with
  | none => exact h.mono (Nat.le_succ m)
  | some r =>
    obtain ⟨j, hj, rfl, rfl⟩ := repAt_some hr
    show Kin l (m + 1) (if P[j].eb.isSome = true then P else P.set (j : Int).toNat ⟨P[j].k, P[j].ep + 1, some gb⟩)
    split
    · exact h.mono (Nat.le_succ m)
    · rw [Int.toNat_natCast]
      exact (h.mono (Nat.le_succ m)).set hj rfl (by have := h.ep P[j] (List.getElem_mem hj); show P[j].ep + 1 ≤ _; omega)
end Go.Proofs.YtoobjjpheegmdaaGreat.E4

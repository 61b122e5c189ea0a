/-
  A QUERY OF NUMBERS: no program in it.
  MATCHERS IN A ROW.
-/
import Derived.Test.YtmodiemmcdocdaaGreatDoorQFlA
import Derived.Test.YtmodiemmcdocdaaGreatDoorQMakeC6
namespace Go.Proofs.YtmodiemmcdocdaaGreatDoor
open Go.RowKit Go
namespace Qy

end Qy

end Go.Proofs.YtmodiemmcdocdaaGreatDoor

namespace Go.Proofs.YtmodiemmcdocdaaGreatDoor
open Go.RowKit Go

theorem info43 : (Tryz.prog.info? 74).map (fun i => (i.zero, i.size, i.bytes)) = some (some (.agg #[.string ⟨#[]⟩, .bool false, .string ⟨#[]⟩]), 3, 40) := by kernel_rfl

theorem elem43 : ∃ i z, Elem Tryz.prog 23 74 i z 3 40 := by
  obtain ⟨i, hi, hz, hs, hb⟩ := info_parts info43
  exact ⟨i, _, Tryz.underlying23, hi, hz, hs, hb, by kernel_rfl⟩

def matC (m : Mt) : List Value := [.string m.name, .bool m.not, .string m.value]
def flatM : List Mt → List Value
  | [] => []
  | m :: r => matC m ++ flatM r

theorem flatM_length : ∀ l : List Mt, (flatM l).length = l.length * 3
  | [] => rfl
  | m :: r => by rw [flatM, List.length_append, flatM_length r, List.length_cons]; simp only [matC, List.length_cons, List.length_nil]; omega

theorem flatM_append : ∀ l k : List Mt, flatM (l ++ k) = flatM l ++ flatM k
  | [], k => rfl
  | m :: r, k => by rw [List.cons_append, flatM, flatM, flatM_append r k, List.append_assoc]

theorem flatM_one : ∀ (l : List Mt), ∀ u ∈ flatM l, u.oneCell' = true
  | [], u, h => by simp [flatM] at h
  | m :: r, u, h => by
    rw [flatM, List.mem_append] at h
    rcases h with h | h
    · simp only [matC, List.mem_cons, List.not_mem_nil, or_false] at h
      rcases h with rfl | rfl | rfl <;> rfl
    · exact flatM_one r u h

theorem flatM_get : ∀ (l : List Mt) (i : Nat) (h : i < l.length) (c : Nat), c < 3 → (flatM l)[i * 3 + c]? = (matC l[i])[c]?
  | [], i, h, _, _ => by simp at h
  | m :: r, 0, _, c, hc => by
    rw [flatM, List.getElem?_append_left (by simp only [matC, List.length_cons, List.length_nil]; omega)]
    simp
  | m :: r, i + 1, h, c, hc => by
    rw [flatM, List.getElem?_append_right (by simp only [matC, List.length_cons, List.length_nil]; omega)]
    simp only [matC, List.length_cons, List.length_nil]
    rw [show (i + 1) * 3 + c - (0 + 1 + 1 + 1) = i * 3 + c by omega, flatM_get r i (by simpa using h) c hc]
    simp [matC]

/-- A row of matchers lies so. -/
theorem MsAt.of_rk {G : Nat → Prop} {w : World} {v : Value} {l : List Mt} (h : Rk 3 G w v l.length (flatM l)) (hl : l.length ≤ 100000) : MsAt w v l := by
  obtain ⟨_, ⟨rfl, h0⟩ | ⟨g, cap, rfl, _, hlt, _, _, hc, _⟩⟩ := h
  · obtain rfl := List.eq_nil_of_length_eq_zero h0
    exact ⟨none, 0, rfl, by simp, .inl rfl⟩
  · refine ⟨_, _, rfl, by omega, .inr ⟨g, 0, rfl, hlt, fun i hi => ?_⟩⟩
    have get : ∀ c, c < 3 → w.cell? ⟨g, i * 3 + c, none⟩ = (matC l[i])[c]? := fun c hc' => by
      rw [← flatM_get l i hi c hc']
      exact hc _ (by rw [flatM_length]; omega)
    rw [Nat.zero_add]
    exact ⟨get 0 (by omega), get 1 (by omega), get 2 (by omega)⟩

end Go.Proofs.YtmodiemmcdocdaaGreatDoor

/-
  A QUERY OF NUMBERS: no program in it.
  MATCHERS IN A ROW.
-/
import Derived.Test.YtidjodplimkmgaaFlA
import Derived.Test.YtidjodplimkmgaaTrA
namespace Go.Proofs.Ytidjodplimkmgaa
open Go.RowKit Go
namespace Qy

def keys : List ByteArray := [⟨#[97, 112, 112]⟩, ⟨#[101, 110, 118]⟩, ⟨#[122, 111, 110, 101]⟩]
def vals : List ByteArray := [⟨#[97]⟩, ⟨#[98]⟩, ⟨#[]⟩, ⟨#[120, 32, 121]⟩]

/-- A matcher of numbers. -/
def mat1 (l : List Int) (p : Nat) : Mt × Nat :=
  let a := Ft.next l 3 p
  let b := Ft.next l 3 a.2
  let c := Ft.next l 4 b.2
  (⟨keys.getD a.1 ⟨#[]⟩, decide (b.1 = 1), vals.getD c.1 ⟨#[]⟩⟩, c.2)

/-- So many matchers. -/
def mats (l : List Int) : Nat → Nat → List Mt × Nat
  | 0, p => ([], p)
  | k + 1, p => let x := mat1 l p; let r := mats l k x.2; (x.1 :: r.1, r.2)

/-- A query of numbers. -/
def query (l : List Int) : Qy :=
  let a := Ft.next l 20 0
  let b := Ft.next l 2 a.2
  let c := Ft.next l 8 b.2
  let d := Ft.next l 20 c.2
  let k := Ft.next l 3 d.2
  let m := mats l k.1 k.2
  let f := Ft.make l 3 m.2
  let z := Ft.next l 4 f.2
  ⟨(a.1 : Int) - 5, (a.1 : Int) - 5 + (d.1 : Int), m.1, if z.1 = 0 then .mk 1 ⟨#[]⟩ ⟨#[]⟩ [] else f.1, decide (b.1 = 1), 1 + (c.1 : Int), ⟨#[]⟩⟩

theorem mats_length (l : List Int) : ∀ (k p : Nat), (mats l k p).1.length = k
  | 0, _ => rfl
  | k + 1, p => by rw [mats, List.length_cons, mats_length l k]

end Qy

end Go.Proofs.Ytidjodplimkmgaa

namespace Go.Proofs.Ytidjodplimkmgaa
open Go.RowKit Go

theorem info43 : (Try.prog.info? 51).map (fun i => (i.zero, i.size, i.bytes)) = some (some (.agg #[.string ⟨#[]⟩, .bool false, .string ⟨#[]⟩]), 3, 40) := by kernel_rfl

theorem elem43 : ∃ i z, Elem Try.prog 26 51 i z 3 40 := by
  obtain ⟨i, hi, hz, hs, hb⟩ := info_parts info43
  exact ⟨i, _, Try.underlying26, hi, hz, hs, hb, by kernel_rfl⟩

def matC (m : Mt) : List Value := [.string m.name, .bool m.not, .string m.value]
def flatM : List Mt → List Value
  | [] => []
  | m :: r => matC m ++ flatM r

theorem flatM_length : ∀ l : List Mt, (flatM l).length = l.length * 3
  | [] => rfl
  | m :: r => by rw [flatM, List.length_append, flatM_length r, List.length_cons]; simp only [matC, List.length_cons, List.length_nil]; omega

theorem flatM_append : ∀ l k : List Mt, flatM (l ++ k) = flatM l ++ flatM k
  | [], k => rfl
  | m :: r, k => by rw [List.cons_append, flatM, flatM, flatM_append r k, List.append_assoc]

theorem flatM_one : ∀ (l : List Mt), ∀ u ∈ flatM l, u.oneCell' = true
  | [], u, h => by simp [flatM] at h
  | m :: r, u, h => by
    rw [flatM, List.mem_append] at h
    rcases h with h | h
    · simp only [matC, List.mem_cons, List.not_mem_nil, or_false] at h
      rcases h with rfl | rfl | rfl <;> rfl
    · exact flatM_one r u h

theorem flatM_get : ∀ (l : List Mt) (i : Nat) (h : i < l.length) (c : Nat), c < 3 → (flatM l)[i * 3 + c]? = (matC l[i])[c]?
  | [], i, h, _, _ => by simp at h
  | m :: r, 0, _, c, hc => by
    rw [flatM, List.getElem?_append_left (by simp only [matC, List.length_cons, List.length_nil]; omega)]
    simp
  | m :: r, i + 1, h, c, hc => by
    rw [flatM, List.getElem?_append_right (by simp only [matC, List.length_cons, List.length_nil]; omega)]
    simp only [matC, List.length_cons, List.length_nil]
    rw [show (i + 1) * 3 + c - (0 + 1 + 1 + 1) = i * 3 + c by omega, flatM_get r i (by simpa using h) c hc]
    simp [matC]

/-- A row of matchers lies so. -/
theorem MsAt.of_rk {G : Nat → Prop} {w : World} {v : Value} {l : List Mt} (h : Rk 3 G w v l.length (flatM l)) (hl : l.length ≤ 100000) : MsAt w v l := by
  obtain ⟨_, ⟨rfl, h0⟩ | ⟨g, cap, rfl, _, hlt, _, _, hc, _⟩⟩ := h
  · obtain rfl := List.eq_nil_of_length_eq_zero h0
    exact ⟨none, 0, rfl, by simp, .inl rfl⟩
  · refine ⟨_, _, rfl, by omega, .inr ⟨g, 0, rfl, hlt, fun i hi => ?_⟩⟩
    have get : ∀ c, c < 3 → w.cell? ⟨g, i * 3 + c, none⟩ = (matC l[i])[c]? := fun c hc' => by
      rw [← flatM_get l i hi c hc']
      exact hc _ (by rw [flatM_length]; omega)
    rw [Nat.zero_add]
    exact ⟨get 0 (by omega), get 1 (by omega), get 2 (by omega)⟩

/-- Matchers as what is appended. -/
theorem MsAt.src {w : World} {v : Value} {l : List Mt} (h : MsAt w v l) : Src Try.prog 3 26 v l.length (flatM l) w := by
  obtain ⟨a, cap, rfl, _, rfl | ⟨b, off, rfl, hlt, hc⟩⟩ := h
  · cases a with
    | none => exact Src.ofNil _ Try.underlying26 cap
    | some a => exact Src.ofSlice _ Try.underlying26 a 0 cap [] rfl (fun j u h => by simp at h) (fun u h => by cases h)
  · refine Src.ofSlice _ Try.underlying26 ⟨b, off, none⟩ l.length cap _ (flatM_length l) (fun j u hu => ?_) (flatM_one l)
    have hj := (List.getElem?_eq_some_iff.1 hu).1
    rw [flatM_length] at hj
    have hi : j / 3 < l.length := by omega
    have e : j = j / 3 * 3 + j % 3 := by omega
    have hm : j % 3 < 3 := Nat.mod_lt _ (by decide)
    rw [e, flatM_get l (j / 3) hi (j % 3) hm] at hu
    obtain ⟨x0, x1, x2⟩ := hc (j / 3) hi
    rw [show (⟨b, off, none⟩ : Addr).add j = ⟨b, off + j, none⟩ by unfold Addr.add; simp, e, ← Nat.add_assoc]
    generalize j / 3 = i at hi hu x0 x1 x2 ⊢
    generalize j % 3 = c at hu hm ⊢
    rcases (show c = 0 ∨ c = 1 ∨ c = 2 by omega) with rfl | rfl | rfl
    · rw [← hu]; simpa [matC] using x0
    · rw [← hu]; simpa [matC] using x1
    · rw [← hu]; simpa [matC] using x2

end Go.Proofs.Ytidjodplimkmgaa

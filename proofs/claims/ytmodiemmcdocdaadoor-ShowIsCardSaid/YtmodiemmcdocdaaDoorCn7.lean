/-
  HOW MANY NODES A PARSED FILTER HAS: no more than there are tokens. No program in it.
-/
import Derived.Test.YtmodiemmcdocdaaDoorPxB
namespace Go.Proofs.YtmodiemmcdocdaaDoor.PX
open Go LX

theorem tk_lt {ts : List Tok} {i : Nat} (h : (tk ts i).kind ≠ 0) : i < ts.length := by
  rcases Nat.lt_or_ge i ts.length with hl | hl
  · exact hl
  · exact absurd (by unfold tk; simp [List.getD, List.getElem?_eq_none hl]) h
theorem token_lt {ts : List Tok} {k i j : Nat} {t : Tok} (h : token ts k i = .ok (t, j)) (hk : k ≠ 0) : j = i + 1 ∧ i < ts.length := by
  unfold token at h
  split at h
  · rename_i h1
    cases h
    exact ⟨rfl, tk_lt (by rw [h1]; exact hk)⟩
  · cases h
theorem want_lt {ts : List Tok} {s : List UInt8} {i j : Nat} {u : Unit} (h : want ts s i = .ok (u, j)) : j = i + 1 ∧ i < ts.length := by
  unfold want at h
  split at h
  · rename_i h1
    cases h
    exact ⟨rfl, tk_lt (isT_kind h1)⟩
  · cases h

/-- What is read has no more nodes than tokens. -/
def Few (ts : List Tok) (one : Nat → PR Ft) : Prop := ∀ i x j, one i = .ok (x, j) → x.count + i ≤ j ∧ j ≤ ts.length

theorem one_count (op : Int) (n t : ByteArray) : (Ft.mk op n t []).count = 1 := by simp [Ft.count, Ft.counts]

theorem leaf_few (ts : List Tok) : Few ts (leaf ts) := by
  intro i x j h
  unfold leaf at h
  split at h
  · rename_i h1
    cases h
    rw [one_count]
    have := tk_lt (isT_kind h1)
    omega
  · split at h
    · rename_i h1
      cases h
      rw [one_count]
      have := tk_lt (isT_kind h1)
      omega
    · split at h
      · split at h
        · cases h
        · rename_i t q h2
          cases h
          have := token_lt h2 (by decide)
          rw [one_count]
          omega
      · split at h
        · split at h
          · cases h
          · rename_i t q h2
            cases h
            have := token_lt h2 (by decide)
            rw [one_count]
            omega
        · rcases h1 : want ts wField i with e | ⟨u, a⟩ <;> rw [h1] at h <;> dsimp only at h
          · cases h
          rcases h2 : token ts 1 a with e | ⟨n, b⟩ <;> rw [h2] at h <;> dsimp only at h
          · cases h
          rcases h3 : want ts wEq b with e | ⟨v, c⟩ <;> rw [h3] at h <;> dsimp only at h
          · cases h
          rcases h4 : token ts 4 c with e | ⟨t, q⟩ <;> rw [h4] at h <;> dsimp only at h
          · cases h
          cases h
          have a1 := want_lt h1
          have a2 := token_lt h2 (by decide)
          have a3 := want_lt h3
          have a4 := token_lt h4 (by decide)
          rw [one_count]
          omega

theorem rest_few {ts : List Tok} {w : List UInt8} {one : Nat → PR Ft} (ho : Few ts one) : ∀ (f i : Nat) (l : List Ft) (k : Nat), i ≤ ts.length → rest ts w one f i = .ok (l, k) → Ft.counts l + l.length + i ≤ k ∧ k ≤ ts.length
  | 0, i, l, k, hi, h => by
    cases h
    simp [Ft.counts]
    omega
  | f + 1, i, l, k, hi, h => by
    rw [rest] at h
    split at h
    · rcases h1 : one (i + 1) with e | ⟨x, j⟩ <;> rw [h1] at h <;> dsimp only at h
      · cases h
      rcases h2 : rest ts w one f j with e | ⟨m, q⟩ <;> rw [h2] at h <;> dsimp only at h
      · cases h
      cases h
      have a1 := ho _ _ _ h1
      have a2 := rest_few ho f j m _ a1.2 h2
      rw [Ft.counts, List.length_cons]
      omega
    · cases h
      simp [Ft.counts]
      omega

theorem row_few {ts : List Tok} {w : List UInt8} {op : Int} {one : Nat → PR Ft} (ho : Few ts one) : Few ts (row ts w op one) := by
  intro i x j h
  unfold row at h
  rcases h1 : one i with e | ⟨y, a⟩ <;> rw [h1] at h <;> dsimp only at h
  · cases h
  rcases h2 : rest ts w one ts.length a with e | ⟨l, k⟩ <;> rw [h2] at h <;> dsimp only at h
  · cases h
  cases h
  have a1 := ho _ _ _ h1
  have a2 := rest_few ho _ _ _ _ a1.2 h2
  cases l with
  | nil =>
    have e : Ft.counts [] + ([] : List Ft).length = 0 := by simp [Ft.counts]
    show y.count + i ≤ _ ∧ _
    simp only [e] at a2
    omega
  | cons z r =>
    have e : join op (y :: z :: r) = .mk op ⟨#[]⟩ ⟨#[]⟩ (y :: z :: r) := rfl
    rw [e, Ft.count, Ft.counts]
    rw [List.length_cons] at a2
    omega

theorem atom_few (ts : List Tok) : ∀ d, Few ts (atom ts d)
  | 0 => by
    intro i x j h
    unfold atom at h
    split at h
    · cases h
    · split at h
      · cases h
      · exact leaf_few ts i x j h
  | d + 1 => by
    intro i x j h
    unfold atom at h
    split at h
    · dsimp only at h
      rcases h1 : atom ts d (i + 1) with e | ⟨y, a⟩ <;> rw [h1] at h <;> dsimp only at h
      · cases h
      cases h
      have a1 := atom_few ts d _ _ _ h1
      rw [Ft.count, Ft.counts, Ft.counts]
      omega
    · split at h
      · dsimp only at h
        rcases h1 : orF ts (atom ts d) (i + 1) with e | ⟨y, a⟩ <;> rw [h1] at h <;> dsimp only at h
        · cases h
        rcases h2 : want ts wShut a with e | ⟨u, b⟩ <;> rw [h2] at h <;> dsimp only at h
        · cases h
        cases h
        have a1 := row_few (row_few (atom_few ts d)) _ _ _ h1
        have a2 := want_lt h2
        omega
      · exact leaf_few ts i x j h

theorem query_few {ts : List Tok} {q : Qy} (h : query ts = .ok q) (hl : ts.length ≤ 1100) : q.fil.count ≤ 100000 := by
  unfold query at h
  rcases h1 : want ts wFrom 0 with e | ⟨_, i1⟩ <;> rw [h1] at h <;> dsimp only at h
  · cases h
  rcases h2 : number ts (-1099511627776) 1099511627776 i1 with e | ⟨f, i2⟩ <;> rw [h2] at h <;> dsimp only at h
  · cases h
  rcases h3 : want ts wTo i2 with e | ⟨_, i3⟩ <;> rw [h3] at h <;> dsimp only at h
  · cases h
  rcases h4 : number ts (-1099511627776) 1099511627776 i3 with e | ⟨t, i4⟩ <;> rw [h4] at h <;> dsimp only at h
  · cases h
  split at h
  · cases h
  rcases h5 : wheres ts ts.length 0 i4 with e | ⟨ms, i5⟩ <;> rw [h5] at h <;> dsimp only at h
  · cases h
  rcases h6 : (if isT (tk ts i5) wFind = true then orF ts (atom ts 8) (i5 + 1) else .ok (.mk 1 ⟨#[]⟩ ⟨#[]⟩ [], i5) : PR Ft) with e | ⟨x, i6⟩ <;> rw [h6] at h <;> dsimp only at h
  · cases h
  have hx : x.count ≤ 100000 := by
    split at h6
    · have a := row_few (row_few (atom_few ts 8)) _ _ _ h6
      omega
    · cases h6
      rw [one_count]
      omega
  rcases h8 : want ts wLimit (if isT (tk ts i6) wDesc = true then (true, i6 + 1) else (false, i6)).2 with e | ⟨_, i8⟩ <;> rw [h8] at h <;> dsimp only at h
  · cases h
  rcases h9 : number ts 1 50 i8 with e | ⟨n, i9⟩ <;> rw [h9] at h <;> dsimp only at h
  · cases h
  split at h
  · cases h
  · split at h
    · cases h
      exact hx
    · cases h
end Go.Proofs.YtmodiemmcdocdaaDoor.PX

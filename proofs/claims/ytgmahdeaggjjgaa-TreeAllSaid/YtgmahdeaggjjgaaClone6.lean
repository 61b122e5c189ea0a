/-
  slices.Clone OF FILTERS.
-/
import Derived.Test.YtgmahdeaggjjgaaNodes6
import Derived.Test.YtgmahdeaggjjgaaMakeC6
import Derived.Test.YtgmahdeaggjjgaaOwnFilter6
import Derived.Lib.LazyBuf
namespace Go.Proofs.Ytgmahdeaggjjgaa
open Go.RowKit Go

/-- Kids that lie in a row, as pairs. -/
theorem KAt.pairs {w : World} {b : Nat} : ∀ {off : Nat} {k : List Ft}, KAt w b off k → ∃ R : List (Value × Ft), R.map (·.2) = k ∧ (∀ j, j < (flatK R).length → w.cell? ⟨b, off + j, none⟩ = (flatK R)[j]?) ∧ ∀ p ∈ R, KsAt w p.1 p.2
  | _, [], _ => ⟨[], rfl, fun j h => by simp [flatK] at h, fun p h => by simp at h⟩
  | off, x :: r, h => by
    rw [KAt] at h
    obtain ⟨⟨kv, h0, h1, h2, h3, h4⟩, h5⟩ := h
    obtain ⟨R, hR, hc, hk⟩ := KAt.pairs h5
    refine ⟨(kv, x) :: R, by rw [List.map_cons, hR], fun j hj => ?_, fun p hp => ?_⟩
    · by_cases h4' : j < 4
      · rcases (show j = 0 ∨ j = 1 ∨ j = 2 ∨ j = 3 by omega) with rfl | rfl | rfl | rfl
        · exact h0
        · exact h1
        · exact h2
        · exact h3
      · have hl : (flatK ((kv, x) :: R)).length = 4 + (flatK R).length := by simp only [flatK, List.length_append, List.length_cons, List.length_nil]
        have := hc (j - 4) (by omega)
        rw [show off + 4 + (j - 4) = off + j by omega] at this
        rw [this]
        simp only [flatK]
        rw [List.getElem?_append_right (by simp; omega)]
        simp
    · rcases List.mem_cons.1 hp with rfl | hp
      · exact h4
      · exact hk p hp

theorem flatK_one {w : World} : ∀ (R : List (Value × Ft)), (∀ p ∈ R, KsAt w p.1 p.2) → ∀ u ∈ flatK R, u.oneCell' = true
  | [], _, u, h => by simp [flatK] at h
  | p :: r, hk, u, h => by
    rw [flatK, List.mem_append] at h
    rcases h with h | h
    · simp only [List.mem_cons, List.not_mem_nil, or_false] at h
      rcases h with rfl | rfl | rfl | rfl
      · rfl
      · rfl
      · rfl
      · obtain ⟨a, c, e⟩ := (hk p (by simp)).shape
        rw [e]; rfl
    · exact flatK_one r (fun q hq => hk q (by simp [hq])) u h

/-- A slice of kids as what is appended. -/
theorem kids_src {w : World} {b off cap : Nat} {R : List (Value × Ft)} (hc : ∀ j, j < (flatK R).length → w.cell? ⟨b, off + j, none⟩ = (flatK R)[j]?) (hk : ∀ p ∈ R, KsAt w p.1 p.2) : Src Try.prog 4 24 (.slice (some ⟨b, off, none⟩) R.length cap) R.length (flatK R) w := by
  refine Src.ofSlice _ Try.underlying24 ⟨b, off, none⟩ R.length cap _ (flatK_length R) (fun j u hu => ?_) (flatK_one R hk)
  have hj := (List.getElem?_eq_some_iff.1 hu).1
  rw [show (⟨b, off, none⟩ : Addr).add j = ⟨b, off + j, none⟩ by unfold Addr.add; split <;> simp_all, hc j hj, hu]

/-- What Clone leaves: the pairs lie in a row of the call's own. -/
def CloneP (ks : List Ft) (w0 w : World) (e : Ending) (w' : World) : Prop :=
  ∃ (a : Option Addr) (c : Nat) (R : List (Value × Ft)), e = .returned (.slice a R.length c) ∧ R.map (·.2) = ks ∧ (∀ p ∈ R, KsAt w0 p.1 p.2) ∧ Lay w w' ∧
    (ks = [] ∨ Rk 4 (fun b => w.heap.size ≤ b) w' (.slice a R.length c) R.length (flatK R))

set_option maxHeartbeats 4000000 in
set_option maxRecDepth 100000 in
theorem sliceClone_any (ks : List Ft) (a : Option Addr) (ca : Nat) (w0 w : World) (hl0 : Lay w0 w) (hl : ks.length ≤ 100000) (ha : KidsAt w0 a ks) :
    Calls Try.prog 37 #[.slice a ks.length ca] w (CloneP ks w0 w) := by
  obtain ⟨i26, z26, E26⟩ := elem26
  have hnil := fun (a : Option Addr) (n c : Nat) (W : World) => Go.run_eql_slice_nil (P := Try.prog) W 24 26 a n c Try.underlying24
  cases a with
  | none =>
    have h0 : ks = [] := by
      rcases ha with h | ⟨b, off, h, _⟩
      · exact h
      · cases h
    subst h0
    go_enter Try.func37, Try.ntmps37
    go_wp2_with fail
    go_ret
    exact ⟨none, 0, [], rfl, rfl, fun p h => by simp at h, Keep.refl _ _, .inl rfl⟩
  | some p =>
    by_cases h0 : ks = []
    · subst h0
      go_enter Try.func37, Try.ntmps37
      go_wp2_with fail
      go_ret
      exact ⟨some ⟨w.heap.size, 0, none⟩, 0, [], rfl, rfl, fun p h => by simp at h, (Keep.refl _ _).alloc _, .inl rfl⟩
    · obtain ⟨b, off, hp, hb, hk⟩ := ha.resolve_left h0
      cases hp
      obtain ⟨R, hR, hc, hkp⟩ := KAt.pairs hk
      subst hR
      rw [List.length_map] at hl ⊢
      have hal : Lay w (w.alloc (.cells #[] 26)) := (Keep.refl _ _).alloc _
      have hrk0 : Rk 4 (fun k => k = w.heap.size) (w.alloc (.cells #[] 26)) (.slice (some ⟨w.heap.size, 0, none⟩) 0 0) 0 [] := rk_new 4 w 0 [] 26 rfl (by omega)
      have hsrc : Src Try.prog 4 24 (.slice (some ⟨b, off, none⟩) R.length ca) R.length (flatK R) (w.alloc (.cells #[] 26)) :=
        have hal0 : Lay w0 (w.alloc (.cells #[] 26)) := hl0.trans hal
        kids_src (fun j hj => (hal0.cell hb).trans (hc j hj)) (fun p hp => KsAt.below hal0.below _ _ (hkp p hp))
      have HRK := Lib.hid (hrk0.mono (G' := fun b => w.heap.size ≤ b) fun k h _ => by omega)
      have HSRC := Lib.hid hsrc
      have HAL := Lib.hid hal
      have HKP := Lib.hid hkp
      clear hk ha hc hrk0 hsrc hal hkp
      go_enter Try.func37, Try.ntmps37
      go_wp2_with (at_builtin; refine wpList_append_rk E26 _ rfl _ _ 24 rfl (G := fun b => w.heap.size ≤ b) rfl HRK.out ?c1 (.slice (some ⟨b, off, none⟩) R.length ca) R.length (flatK R) rfl HSRC.out ?c2 ?c3 ?_)
      case c1 =>
        intro k hk
        simp at hk
        omega
      case c2 => omega
      case c3 => omega
      intro v' w2 hrk2 hk2
      obtain ⟨a', c', rfl⟩ := hrk2.shape
      have HR2 := Lib.hid (hrk2.mono (G' := fun b => w.heap.size ≤ b) fun k h _ => h.1)
      have HL2 := Lib.hid (lay_keepB HAL.out hk2 fun b hb => (HRK.out.at hb).1)
      clear hrk2 hk2
      go_wp2_with fail
      go_ret
      exact ⟨a', c', R, rfl, rfl, HKP.out, HL2.out, .inr HR2.out⟩

end Go.Proofs.Ytgmahdeaggjjgaa

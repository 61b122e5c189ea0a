/-
  append WHERE THERE IS NO ROOM, or nothing to put: nothing that was there turns.
-/
import Derived.Test.YtgcldnojmdabpaaRaw
namespace Go.Proofs.Ytgcldnojmdabpaa
open Go.RowKit Go

theorem run_append_full {P : Program} {t e : TypeId} {i : TypeInfo} {z : Value} {k bytes : Nat} (E : Elem P t e i z k bytes) {G : Nat → Prop} {w : World} {base : Option Addr} {sc n : Nat} {xs : List Value} (h : Rk k G w (.slice base n sc) n xs) (hG : ∀ k, w.heap.size ≤ k → G k) (tx ty : TypeId) (x : Value) (m : Nat) (ys : List Value) (hs : Src P k tx x m ys w)
    (hb : (n + m) * bytes ≤ 140737488355328) (hl : n + m ≤ 140737488355328) (hno : m = 0 ∨ sc < n + m) :
    ∃ v' w', (Builtin.append_ #[t, tx] ty #[.slice base n sc, x]).run P w = .ok v' w' ∧ Rk k G w' v' (n + m) (xs ++ ys) ∧ Lay w w' := by
  have ht := E.under
  have hi := E.info
  have hz := E.zero
  have hsz := E.size
  have hys := hs.newsLen
  have hml : n + m ≤ maxLen := by unfold maxLen; omega
  have hmul : (n + m) * k = n * k + m * k := Nat.add_mul _ _ _
  have h' := h
  obtain ⟨hxs, h⟩ := h
  have hlen : (xs ++ ys).length = (n + m) * k := by rw [List.length_append, hxs, hys, hmul]
  rw [← hsz] at hs
  by_cases hm0 : m = 0
  · subst hm0
    obtain rfl : ys = [] := List.eq_nil_of_length_eq_zero (by simpa using hys)
    have hle : n ≤ sc := by
      rcases h with ⟨h1, h2⟩ | ⟨g, cap, h1, _, _, h2, _⟩
      · omega
      · simp only [Value.slice.injEq] at h1
        omega
    exact ⟨_, _, run_append_nothing (P := P) w t tx ty e i ht hi base n sc hle x (by simpa using hs), by simpa using h', Keep.refl _ _⟩
  · have hfit : sc < n + m := by omega
    have hold : (Builtin.firstCells i.size n (.slice base n sc)).run P w.drew = .ok xs.toArray w.drew := by
      rcases h with ⟨h1, h2⟩ | ⟨g, cap, h1, hBg, hg, hlc, hm, hc, hf⟩
      · simp only [Value.slice.injEq] at h1
        obtain ⟨rfl, rfl, rfl⟩ := h1
        obtain rfl : xs = [] := List.eq_nil_of_length_eq_zero (by simpa using hxs)
        exact run_firstCells_none w.drew i.size 0 0 0
      · simp only [Value.slice.injEq, true_and] at h1
        obtain ⟨rfl, rfl⟩ := h1
        exact run_firstCells_some w.drew i.size n ⟨g, 0, none⟩ n sc xs (by rw [hsz, hxs]) (fun j u hu => by
          have hj : j < xs.length := (List.getElem?_eq_some_iff.1 hu).1
          rw [add_lit0]
          show w.drew.cell? ⟨g, j, none⟩ = some u
          rw [World.cell?_drew, hc j hj, hu])
    have hrun := run_append_grow_src (P := P) w t tx ty e i _ ht hi hz base n sc xs hold x m ys hs hfit (by omega) (growslice_fits hfit (by rw [E.bytes]; omega))
    have hge := grownCap_ge w (n + m) sc e
    have hcl := grownCap_le_maxLen w (n + m) sc e hml
    obtain ⟨q, hq⟩ : ∃ q, grownCap w (n + m) sc e = n + m + q := ⟨_, (Nat.add_sub_cancel' hge).symm⟩
    rw [hq] at hrun hcl
    rw [Nat.add_sub_cancel_left] at hrun
    have hzs : (Builtin.zeroCells z.cells q).size = q * k := by rw [size_zeroCells, E.cells]
    have hcap : (n + m + q) * k = (n + m) * k + q * k := Nat.add_mul _ _ _
    refine ⟨_, _, hrun, ⟨hlen, .inr ⟨w.heap.size, _, rfl, hG _ (Nat.le_refl _), by simp, by omega, hcl, fun j hj => ?_, fun j hj => ⟨?_, ?_⟩⟩⟩,
      ⟨rfl, rfl, rfl, by simp, Nat.le_succ _, fun k hk _ => Below.heap_alloc w.drew _ k (by simpa using hk)⟩⟩
    · have e1 : (w.drew.alloc (.cells ((xs ++ ys).toArray ++ Builtin.zeroCells z.cells q) e)).cell? ⟨w.heap.size, j, none⟩ = _ := World.cell?_alloc_new w.drew _ _ j
      rw [e1, Array.getElem?_append_left (by simp only [List.size_toArray]; exact hj), List.getElem?_toArray]
    · have e1 : (w.drew.alloc (.cells ((xs ++ ys).toArray ++ Builtin.zeroCells z.cells q) e)).cell? ⟨w.heap.size, j, none⟩ = _ := World.cell?_alloc_new w.drew _ _ j
      rw [e1]
      rw [Array.getElem?_eq_getElem (by rw [Array.size_append, hzs]; simp only [List.size_toArray, hlen]; omega)]
      rfl
    · exact World.frozen?_alloc_new w.drew _ _ j

/-- The first ones, with no room behind them. -/
theorem Rk.cut {k : Nat} {G : Nat → Prop} {w : World} {g n cap : Nat} {xs : List Value} (h : Rk k G w (.slice (some ⟨g, 0, none⟩) n cap) n xs) (q : Nat) (hq : q ≤ n) : Rk k G w (.slice (some ⟨g, 0, none⟩) q q) q (xs.take (q * k)) := by
  obtain ⟨hx, ⟨h1, _⟩ | ⟨g', cap', h1, hg, hlt, hl, hm, hc, hf⟩⟩ := h
  · cases h1
  · simp only [Value.slice.injEq, Option.some.injEq, Addr.mk.injEq, true_and, and_true] at h1
    obtain ⟨rfl, rfl⟩ := h1
    have h2 : q * k ≤ n * k := Nat.mul_le_mul_right _ hq
    have h3 : q * k ≤ cap * k := Nat.mul_le_mul_right _ (by omega)
    refine ⟨by rw [List.length_take]; omega, .inr ⟨g, q, rfl, hg, hlt, Nat.le_refl _, by omega, fun j hj => ?_, fun j hj => hf j (by omega)⟩⟩
    rw [List.length_take] at hj
    rw [hc j (by omega), List.getElem?_take_of_lt (by omega)]

theorem flatR_take (R : List (Value × Ent)) : ∀ q, (flatR R).take (q * 3) = flatR (R.take q) := by
  induction R with
  | nil => intro q; simp [flatR]
  | cons x r ih =>
    intro q
    cases q with
    | zero => rfl
    | succ q =>
      obtain ⟨v, e⟩ := x
      rw [show (q + 1) * 3 = q * 3 + 1 + 1 + 1 by omega]
      simp only [flatR, rawC, List.take_succ_cons, List.cons_append, List.nil_append]
      rw [ih q]

theorem RawAt.drop {w : World} {g off : Nat} {R : List (Value × Ent)} (h : RawAt w g off R) (q : Nat) : RawAt w g (off + q * 3) (R.drop q) := fun i hi => by
  rw [List.length_drop] at hi
  have := h (q + i) (by omega)
  rw [List.getElem_drop, show off + q * 3 + i * 3 = off + (q + i) * 3 by omega]
  exact this

end Go.Proofs.Ytgcldnojmdabpaa

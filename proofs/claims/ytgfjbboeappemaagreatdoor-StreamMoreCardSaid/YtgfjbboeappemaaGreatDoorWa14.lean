/-
  REGIONS THAT DRAW THEIR ORDER, WITH ONE CALL THAT WRITES AND A STORE OF WHAT IT HANDS BACK: what holds in between.
-/
import Derived.Test.YtgfjbboeappemaaGreatDoorBb14
namespace Go.Proofs.YtgfjbboeappemaaGreatDoor.E4
open Go.RowKit Go

/-- A chunk's entries. -/
def entsC (x : Value × List (Value × Ent)) : List Ent := x.2.map Prod.snd
theorem entsC_len (x : Value × List (Value × Ent)) : (entsC x).length = x.2.length := List.length_map ..
/-- All entries of chunks. -/
def flatC (CH : List (Value × List (Value × Ent))) : List Ent := CH.flatMap entsC
theorem flatC_append (A B : List (Value × List (Value × Ent))) : flatC (A ++ B) = flatC A ++ flatC B := List.flatMap_append ..
theorem flatC_cons (x : Value × List (Value × Ent)) (B : List (Value × List (Value × Ent))) : flatC (x :: B) = entsC x ++ flatC B := List.flatMap_cons ..
theorem mem_flatC {CH : List (Value × List (Value × Ent))} {e : Ent} : e ∈ flatC CH ↔ ∃ x ∈ CH, e ∈ entsC x := List.mem_flatMap

structure FlowAt (G L : Nat → Prop) (w : World) (lv cv : Value) (ls : List Lab) (CH : List (Value × List (Value × Ent))) : Prop where
  l : LabsAt L w lv ls
  c : Rk 1 G w cv CH.length (CH.map Prod.fst)
  e : ∀ x ∈ CH, Rk 3 G w x.1 x.2.length (flatR x.2)
  r : ∀ x ∈ CH, RawL L w x.2
  d : CH.Pairwise fun x y => ∀ k, At x.1 k → ¬ At y.1 k
  o : ∀ x ∈ CH, ∀ k, At x.1 k → ¬ At cv k
  n : ∀ x ∈ CH, x.2 ≠ []
  s : Strict entC (flatC CH)
  m : ∀ e ∈ flatC CH, e.labs = ls

theorem FlowAt.carry {G L : Nat → Prop} {w w' : World} {lv cv : Value} {ls : List Lab} {CH : List (Value × List (Value × Ent))} (h : FlowAt G L w lv cv ls CH) (hs : w.heap.size ≤ w'.heap.size) (hb : ∀ k, (G k ∨ L k) → k < w.heap.size → w'.heap[k]? = w.heap[k]?) : FlowAt G L w' lv cv ls CH :=
  ⟨h.l.carry hs fun b hb' hlt => hb b (.inr hb') hlt, h.c.carry hs fun b hg _ hlt => hb b (.inl hg) hlt, fun x hx => (h.e x hx).carry hs fun b hg _ hlt => hb b (.inl hg) hlt, fun x hx y hy => (h.r x hx y hy).carry hs fun b hb' hlt => hb b (.inr hb') hlt, h.d, h.o, h.n, h.s, h.m⟩
theorem FlowAt.lay {G L : Nat → Prop} {w w' : World} {lv cv : Value} {ls : List Lab} {CH : List (Value × List (Value × Ent))} (h : FlowAt G L w lv cv ls CH) (hl : Lay w w') : FlowAt G L w' lv cv ls CH := h.carry hl.size fun _ _ hlt => Lay.block hl hlt
theorem FlowAt.below {G L : Nat → Prop} {w w' : World} {lv cv : Value} {ls : List Lab} {CH : List (Value × List (Value × Ent))} (h : FlowAt G L w lv cv ls CH) (hl : Below w.heap.size w w') : FlowAt G L w' lv cv ls CH := h.carry hl.size fun _ _ hlt => hl.block _ hlt
theorem FlowAt.mono {G L G' L' : Nat → Prop} {w : World} {lv cv : Value} {ls : List Lab} {CH : List (Value × List (Value × Ent))} (h : FlowAt G L w lv cv ls CH) (hG : ∀ k, G k → k < w.heap.size → G' k) (hL : ∀ k, L k → k < w.heap.size → L' k) : FlowAt G' L' w lv cv ls CH :=
  ⟨h.l.mono hL, h.c.mono fun k hk ha => hG k hk (h.c.at ha).2, fun x hx => (h.e x hx).mono fun k hk ha => hG k hk ((h.e x hx).at ha).2, fun x hx => (h.r x hx).mono hL, h.d, h.o, h.n, h.s, h.m⟩

/-- A row whose length is known not to be nought: where it lies. -/
theorem Rk.some {k : Nat} {G : Nat → Prop} {w : World} {v : Value} {n : Nat} {xs : List Value} (h : Rk k G w v n xs) (hn : 0 < n) : ∃ g c, v = .slice (Option.some ⟨g, 0, Option.none⟩) n c ∧ G g ∧ g < w.heap.size ∧ n ≤ c ∧ c ≤ maxLen ∧ ∀ j, j < n * k → w.cell? ⟨g, j, Option.none⟩ = xs[j]? := by
  obtain ⟨hl, ⟨_, h0⟩ | ⟨g, c, hv, hg, hlt, h1, h2, h3, _⟩⟩ := h
  · omega
  · exact ⟨g, c, hv, hg, hlt, h1, h2, fun j hj => h3 j (by omega)⟩

theorem FlowAt.ents {G L : Nat → Prop} {w : World} {lv cv : Value} {ls : List Lab} {CH : List (Value × List (Value × Ent))} (h : FlowAt G L w lv cv ls CH) {x : Value × List (Value × Ent)} (hx : x ∈ CH) : EntsAt G L w x.1 (entsC x) := (h.e x hx).ents (h.r x hx)

/-- The cells of an entry of a row. -/
theorem row_cells {G : Nat → Prop} {w : World} {R : List (Value × Ent)} {v : Value} {g c : Nat} (h : Rk 3 G w v R.length (flatR R)) (hv : v = .slice (Option.some ⟨g, 0, Option.none⟩) R.length c) (i : Nat) (hi : i < R.length) :
    w.cell? ⟨g, i * 3, Option.none⟩ = Option.some (.int .i64 R[i].2.tm) ∧ w.cell? ⟨g, i * 3 + 1, Option.none⟩ = Option.some R[i].1 ∧ w.cell? ⟨g, i * 3 + 2, Option.none⟩ = Option.some (.string R[i].2.line) := by
  obtain ⟨g', c', hv', _, _, _, _, hc⟩ := h.some (by omega)
  rw [hv] at hv'
  simp only [Value.slice.injEq, Option.some.injEq, Addr.mk.injEq, and_true, true_and] at hv'
  obtain ⟨rfl, rfl⟩ := hv'
  refine ⟨?_, ?_, ?_⟩
  · rw [hc _ (by omega), show i * 3 = i * 3 + 0 from rfl, flatR_get _ i hi 0 (by omega)]; rfl
  · rw [hc _ (by omega), flatR_get _ i hi 1 (by omega)]; rfl
  · rw [hc _ (by omega), flatR_get _ i hi 2 (by omega)]; rfl

/-- The last entry of a chunk, with its labels as they lie. -/
def lastR (x : Value × List (Value × Ent)) : Value × Ent := x.2.getLastD (.slice none 0 0, ⟨0, [], ⟨#[]⟩⟩)
def lastE (x : Value × List (Value × Ent)) : Ent := (lastR x).2
theorem lastR_mem {x : Value × List (Value × Ent)} (h : x.2 ≠ []) : lastR x ∈ x.2 := by
  unfold lastR
  rw [List.getLastD_eq_getLast?, List.getLast?_eq_some_getLast h]
  exact List.getLast_mem h
theorem lastE_mem {x : Value × List (Value × Ent)} (h : x.2 ≠ []) : lastE x ∈ entsC x := List.mem_map.2 ⟨_, lastR_mem h, rfl⟩
theorem lastR_get {x : Value × List (Value × Ent)} (h : x.2 ≠ []) (hl : x.2.length - 1 < x.2.length) : x.2[x.2.length - 1] = lastR x := by
  unfold lastR
  rw [List.getLastD_eq_getLast?, List.getLast?_eq_some_getLast h, Option.getD_some, List.getLast_eq_getElem]

end Go.Proofs.YtgfjbboeappemaaGreatDoor.E4

namespace Go.Proofs.YtgfjbboeappemaaGreatDoor.E4
open Go.RowKit Go

/-- Operation c calls, operation s stores: what holds behind those that are done. -/
structure LW (c s : Nat) (W0 : World) (H : Nat → Prop) (Out : Value → World → Prop) (Pre : World → Prop) (Post : Value → World → Prop) (listed : Array Bool) (ys : Nat → Value) (W : World) : Prop where
  a : listed.getD c false = false → Lay W0 W
  k : Keep H W0 W
  b : listed.getD c false = true → Out (ys c) W
  p : listed.getD s false = false → Pre W
  q : listed.getD s false = true → Post (ys c) W

/-- What holds as long as nothing that was there turns. -/
def StayL (P : World → Prop) : Prop := ∀ W W', Lay W W' → P W → P W'

theorem LW.start {c s : Nat} {W0 : World} {H : Nat → Prop} {Out : Value → World → Prop} {Pre : World → Prop} {Post : Value → World → Prop} {ys : Nat → Value} {n : Nat} (hP : Pre W0) (hc : (Array.replicate n false).getD c false = false) (hs : (Array.replicate n false).getD s false = false) : LW c s W0 H Out Pre Post (Array.replicate n false) ys W0 :=
  ⟨fun _ => Keep.refl _ _, Keep.refl _ _, fun h => (by rw [hc] at h; cases h), fun _ => hP, fun h => by rw [hs] at h; cases h⟩

theorem LW.other {c s : Nat} {W0 : World} {H : Nat → Prop} {Out : Value → World → Prop} {Pre : World → Prop} {Post : Value → World → Prop} {listed : Array Bool} {ys : Nat → Value} {W W' : World} (h : LW c s W0 H Out Pre Post listed ys W) (hO : ∀ v, StayL (Out v)) (hP : StayL Pre) (hQ : ∀ v, StayL (Post v)) (hl : Lay W W') {i : Nat} (hic : i ≠ c) (his : i ≠ s) (u : Value) :
    LW c s W0 H Out Pre Post (listed.setIfInBounds i true) (H3.upd ys i u) W' := by
  have ec : (listed.setIfInBounds i true).getD c false = listed.getD c false := getD_set_ne false hic
  have es : (listed.setIfInBounds i true).getD s false = listed.getD s false := getD_set_ne false his
  have uc : H3.upd ys i u c = ys c := H3.upd_other ys u (Ne.symm hic)
  refine ⟨fun q => Keep.trans (h.a (ec ▸ q)) hl, Keep.trans h.k (hl.into fun _ _ h => h.elim), fun q => ?_, fun q => hP _ _ hl (h.p (es ▸ q)), fun q => ?_⟩
  · rw [uc]; exact hO _ _ _ hl (h.b (ec ▸ q))
  · rw [uc]; exact hQ _ _ _ hl (h.q (es ▸ q))

theorem LW.call {c s : Nat} {W0 : World} {H : Nat → Prop} {Out : Value → World → Prop} {Pre : World → Prop} {Post : Value → World → Prop} {listed : Array Bool} {ys : Nat → Value} {W W' : World} (_h : LW c s W0 H Out Pre Post listed ys W) (hcs : c ≠ s) (hc : c < listed.size) (h2 : listed.getD s false = false) {v : Value} (hk : Keep H W0 W') (ho : Out v W') (hp : Pre W') :
    LW c s W0 H Out Pre Post (listed.setIfInBounds c true) (H3.upd ys c v) W' := by
  have ec : (listed.setIfInBounds c true).getD c false = true := by simp [Array.getD, hc]
  have es : (listed.setIfInBounds c true).getD s false = false := (getD_set_ne false hcs).trans h2
  exact ⟨fun q => (by rw [ec] at q; cases q), hk, fun _ => (by rw [H3.upd_same]; exact ho), fun _ => hp, fun q => (by rw [es] at q; cases q)⟩

theorem LW.store {c s : Nat} {W0 : World} {H : Nat → Prop} {Out : Value → World → Prop} {Pre : World → Prop} {Post : Value → World → Prop} {listed : Array Bool} {ys : Nat → Value} {W W' : World} (_h : LW c s W0 H Out Pre Post listed ys W) (hcs : c ≠ s) (hs : s < listed.size) (h2 : listed.getD c false = true) {u : Value} (hk : Keep H W0 W') (ho : Out (ys c) W') (hq : Post (ys c) W') :
    LW c s W0 H Out Pre Post (listed.setIfInBounds s true) (H3.upd ys s u) W' := by
  have es : (listed.setIfInBounds s true).getD s false = true := by simp [Array.getD, hs]
  have ec : (listed.setIfInBounds s true).getD c false = true := (getD_set_ne false (Ne.symm hcs)).trans h2
  exact ⟨fun q => (by rw [ec] at q; cases q), hk, fun _ => (by rw [H3.upd_other _ _ hcs]; exact ho), fun q => (by rw [es] at q; cases q), fun _ => (by rw [H3.upd_other _ _ hcs]; exact hq)⟩

end Go.Proofs.YtgfjbboeappemaaGreatDoor.E4

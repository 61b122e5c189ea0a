/-
  REGIONS THAT DRAW THEIR ORDER, WITH ONE CALL THAT WRITES AND A STORE OF WHAT IT HANDS BACK: what holds in between.
-/
import Derived.Test.YtdjddlebjbngfaaGreatDoorBb14
namespace Go.Proofs.YtdjddlebjbngfaaGreatDoor.E4
open Go.RowKit Go

/-- Operation c calls, operation s stores: what holds behind those that are done. -/
structure LW (c s : Nat) (W0 : World) (H : Nat → Prop) (Out : Value → World → Prop) (Pre : World → Prop) (Post : Value → World → Prop) (listed : Array Bool) (ys : Nat → Value) (W : World) : Prop where
  a : listed.getD c false = false → Lay W0 W
  k : Keep H W0 W
  b : listed.getD c false = true → Out (ys c) W
  p : listed.getD s false = false → Pre W
  q : listed.getD s false = true → Post (ys c) W

/-- What holds as long as nothing that was there turns. -/
def StayL (P : World → Prop) : Prop := ∀ W W', Lay W W' → P W → P W'

theorem LW.start {c s : Nat} {W0 : World} {H : Nat → Prop} {Out : Value → World → Prop} {Pre : World → Prop} {Post : Value → World → Prop} {ys : Nat → Value} {n : Nat} (hP : Pre W0) (hc : (Array.replicate n false).getD c false = false) (hs : (Array.replicate n false).getD s false = false) : LW c s W0 H Out Pre Post (Array.replicate n false) ys W0 :=
  ⟨fun _ => Keep.refl _ _, Keep.refl _ _, fun h => (by rw [hc] at h; cases h), fun _ => hP, fun h => by rw [hs] at h; cases h⟩

theorem LW.other {c s : Nat} {W0 : World} {H : Nat → Prop} {Out : Value → World → Prop} {Pre : World → Prop} {Post : Value → World → Prop} {listed : Array Bool} {ys : Nat → Value} {W W' : World} (h : LW c s W0 H Out Pre Post listed ys W) (hO : ∀ v, StayL (Out v)) (hP : StayL Pre) (hQ : ∀ v, StayL (Post v)) (hl : Lay W W') {i : Nat} (hic : i ≠ c) (his : i ≠ s) (u : Value) :
    LW c s W0 H Out Pre Post (listed.setIfInBounds i true) (H3.upd ys i u) W' := by
  have ec : (listed.setIfInBounds i true).getD c false = listed.getD c false := getD_set_ne false hic
  have es : (listed.setIfInBounds i true).getD s false = listed.getD s false := getD_set_ne false his
  have uc : H3.upd ys i u c = ys c := H3.upd_other ys u (Ne.symm hic)
  refine ⟨fun q => Keep.trans (h.a (ec ▸ q)) hl, Keep.trans h.k (hl.into fun _ _ h => h.elim), fun q => ?_, fun q => hP _ _ hl (h.p (es ▸ q)), fun q => ?_⟩
  · rw [uc]; exact hO _ _ _ hl (h.b (ec ▸ q))
  · rw [uc]; exact hQ _ _ _ hl (h.q (es ▸ q))

theorem LW.call {c s : Nat} {W0 : World} {H : Nat → Prop} {Out : Value → World → Prop} {Pre : World → Prop} {Post : Value → World → Prop} {listed : Array Bool} {ys : Nat → Value} {W W' : World} (_h : LW c s W0 H Out Pre Post listed ys W) (hcs : c ≠ s) (hc : c < listed.size) (h2 : listed.getD s false = false) {v : Value} (hk : Keep H W0 W') (ho : Out v W') (hp : Pre W') :
    LW c s W0 H Out Pre Post (listed.setIfInBounds c true) (H3.upd ys c v) W' := by
  have ec : (listed.setIfInBounds c true).getD c false = true := by simp [Array.getD, hc]
  have es : (listed.setIfInBounds c true).getD s false = false := (getD_set_ne false hcs).trans h2
  exact ⟨fun q => (by rw [ec] at q; cases q), hk, fun _ => (by rw [H3.upd_same]; exact ho), fun _ => hp, fun q => (by rw [es] at q; cases q)⟩

theorem LW.store {c s : Nat} {W0 : World} {H : Nat → Prop} {Out : Value → World → Prop} {Pre : World → Prop} {Post : Value → World → Prop} {listed : Array Bool} {ys : Nat → Value} {W W' : World} (_h : LW c s W0 H Out Pre Post listed ys W) (hcs : c ≠ s) (hs : s < listed.size) (h2 : listed.getD c false = true) {u : Value} (hk : Keep H W0 W') (ho : Out (ys c) W') (hq : Post (ys c) W') :
    LW c s W0 H Out Pre Post (listed.setIfInBounds s true) (H3.upd ys s u) W' := by
  have es : (listed.setIfInBounds s true).getD s false = true := by simp [Array.getD, hs]
  have ec : (listed.setIfInBounds s true).getD c false = true := (getD_set_ne false (Ne.symm hcs)).trans h2
  exact ⟨fun q => (by rw [ec] at q; cases q), hk, fun _ => (by rw [H3.upd_other _ _ hcs]; exact ho), fun q => (by rw [es] at q; cases q), fun _ => (by rw [H3.upd_other _ _ hcs]; exact hq)⟩

end Go.Proofs.YtdjddlebjbngfaaGreatDoor.E4

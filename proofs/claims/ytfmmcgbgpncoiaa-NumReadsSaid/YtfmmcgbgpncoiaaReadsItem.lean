/-
  magpielaw01.NumReads: what holds in a round.
-/
import Derived.Test.YtfmmcgbgpncoiaaSame
import Derived.Test.YtfmmcgbgpncoiaaBackWalk
namespace Go.Proofs.Ytfmmcgbgpncoiaa
open Go.RowKit Go

theorem Rd.same {w : World} {g : Nat} {l k : List UInt8} {bad b : Bool} (h : Rd w g l bad) (h2 : Rd w g k b) : l = k ∧ bad = b := by
  obtain ⟨s, rfl, hs⟩ := h.str
  obtain ⟨t, rfl, ht⟩ := h2.str
  have e1 := hs.symm.trans ht
  have e2 := h.isBad.symm.trans h2.isBad
  simp only [Option.some.injEq, Value.string.injEq, Value.bool.injEq] at e1 e2
  exact ⟨by rw [e1], e2⟩

theorem Syn.below {w w' : World} {g m : Nat} {S : ByteArray} {l : List UInt8} {bad : Bool} {pos : Nat} (h : Syn w g m S l bad pos) (hb : Below w.heap.size w w') : Syn w' g m S l bad pos :=
  ⟨h.rd.below hb h.rd.lt, h.rf.below hb h.rf.lt, h.left⟩

def BadV (g m : Nat) (S : ByteArray) (v : Value) (w : World) : Prop := ∃ l bad pos, Syn w g m S l bad pos ∧ v = .bool bad
def EndV (g m : Nat) (S : ByteArray) (v : Value) (w : World) : Prop := ∃ l bad pos, Syn w g m S l bad pos ∧ v = .bool (!bad && l.isEmpty)

/-- What the operations of a round leave. -/
def VR (g m : Nat) (S : ByteArray) (kd : Int) (n : Nat) : Nat → Value → World → Prop
  | 7, v, w => BadV g m S v w
  | 11, v, w => BadV g m S v w
  | 16, v, w => EndV g m S v w
  | 18, v, w => EndV g m S v w
  | 0, v, _ | 6, v, _ | 15, v, _ => v = .pointer (some ⟨g, 0, none⟩)
  | 1, v, _ | 8, v, _ | 9, v, _ | 17, v, _ => v = .pointer (some ⟨m, 0, none⟩)
  | 10, v, _ => v = .pointer (some ⟨m, 2, none⟩)
  | 2, v, _ => v = .agg #[.int .i64 kd, .int .u64 n]
  | 3, v, _ => v = .bool true
  | _, v, _ => v = .bool false

def RR : Nat → World → World → Prop
  | 3, _, _ => True
  | _, w, w' => Below w.heap.size w w'

theorem RR_else {i : Nat} {w w' : World} (h3 : i ≠ 3) (h : RR i w w') : Below w.heap.size w w' := by
  unfold RR at h
  split at h
  · exact absurd rfl h3
  · exact h

theorem VR_pure {g m : Nat} {S : ByteArray} {kd : Int} {n j : Nat} {v : Value} {w w' : World} (h : VR g m S kd n j v w) (h1 : j ≠ 7) (h2 : j ≠ 11) (h3 : j ≠ 16) (h4 : j ≠ 18) : VR g m S kd n j v w' := by
  unfold VR at h ⊢
  split at h <;> first | exact h | (exfalso; first | exact h1 rfl | exact h2 rfl | exact h3 rfl | exact h4 rfl)

theorem BadV.below {g m : Nat} {S : ByteArray} {v : Value} {w w' : World} (h : BadV g m S v w) (hb : Below w.heap.size w w') : BadV g m S v w' := by
  obtain ⟨l, bad, pos, hs, e⟩ := h
  exact ⟨l, bad, pos, hs.below hb, e⟩
theorem EndV.below {g m : Nat} {S : ByteArray} {v : Value} {w w' : World} (h : EndV g m S v w) (hb : Below w.heap.size w w') : EndV g m S v w' := by
  obtain ⟨l, bad, pos, hs, e⟩ := h
  exact ⟨l, bad, pos, hs.below hb, e⟩

theorem VR_below {g m : Nat} {S : ByteArray} {kd : Int} {n j : Nat} {v : Value} {w w' : World} (h : VR g m S kd n j v w) (hb : Below w.heap.size w w') : VR g m S kd n j v w' := by
  by_cases h1 : j = 7
  · subst h1
    exact BadV.below (show BadV g m S v w from h) hb
  by_cases h2 : j = 11
  · subst h2
    exact BadV.below (show BadV g m S v w from h) hb
  by_cases h3 : j = 16
  · subst h3
    exact EndV.below (show EndV g m S v w from h) hb
  by_cases h4 : j = 18
  · subst h4
    exact EndV.below (show EndV g m S v w from h) hb
  exact VR_pure h h1 h2 h3 h4

theorem Chg2.below {g m B : Nat} {w w' : World} (h : Chg2 g m w w') (hg : B ≤ g) (hm : B ≤ m) (hB : B ≤ w.heap.size) : Below B w w' := ⟨h.os, h.tape, h.output, h.size, fun k hk => h.block k (by omega) (by omega) (by omega)⟩

/-- What holds all through a round. -/
structure RI (w : World) (g m a : Nat) (S : ByteArray) (kd : Int) (n : Nat) (W : World) : Prop where
  syn : ∃ l bad pos, Syn W g m S l bad pos
  c0 : W.cell? ⟨a, 0, none⟩ = some (.int .i64 kd)
  c1 : W.cell? ⟨a, 1, none⟩ = some (.int .u64 n)
  bel : Below w.heap.size w W
  hg : w.heap.size ≤ g
  hm : w.heap.size ≤ m
  hag : a ≠ g
  ham : a ≠ m

theorem RI.below {w : World} {g m a : Nat} {S : ByteArray} {kd : Int} {n : Nat} {W W' : World} (h : RI w g m a S kd n W) (hb : Below W.heap.size W W') : RI w g m a S kd n W' := by
  obtain ⟨⟨l, bad, pos, hs⟩, h0, h1, h2, h3, h4, h5, h6⟩ := h
  have hlt : a < W.heap.size := World.block_lt_of_cell? W ⟨a, 0, none⟩ h0
  exact ⟨⟨l, bad, pos, hs.below hb⟩, (hb.cell (p := ⟨a, 0, none⟩) hlt).trans h0, (hb.cell (p := ⟨a, 1, none⟩) hlt).trans h1, h2.trans (hb.mono h2.size), h3, h4, h5, h6⟩

theorem RI.same {w : World} {g m a : Nat} {S : ByteArray} {kd : Int} {n : Nat} {W W' : World} (h : RI w g m a S kd n W) (hsy : ∃ l bad pos, Syn W' g m S l bad pos) (hc : Chg2 g m W W') : RI w g m a S kd n W' := by
  obtain ⟨_, h0, h1, h2, h3, h4, h5, h6⟩ := h
  have hlt : a < W.heap.size := World.block_lt_of_cell? W ⟨a, 0, none⟩ h0
  have hc2 : ∀ o, W'.cell? ⟨a, o, none⟩ = W.cell? ⟨a, o, none⟩ := fun o => World.cell?_of_block (a := ⟨a, o, none⟩) (hc.block a hlt h5 h6)
  exact ⟨hsy, (hc2 0).trans h0, (hc2 1).trans h1, h2.trans (hc.below h3 h4 h2.size), h3, h4, h5, h6⟩

/-- An ask. -/
structure Ak where
  kind : Int
  n : Nat

/-- The asks of a slice that came in. -/
structure AsksAt (w : World) (b off : Nat) (its : List Ak) : Prop where
  lt : b < w.heap.size
  kind : ∀ i, i < its.length → w.cell? ⟨b, off + i * 2, none⟩ = some (.int .i64 (its.getD i ⟨0, 0⟩).kind)
  num : ∀ i, i < its.length → w.cell? ⟨b, off + i * 2 + 1, none⟩ = some (.int .u64 (its.getD i ⟨0, 0⟩).n)

theorem nil20 (w : World) : Calls Try.prog 20 #[.pointer none, .int .u64 5] w fun e w' => e = .returned (.int .u64 0) ∧ w = w' := uint_nil 5 w
theorem nil22 (w : World) : Calls Try.prog 22 #[.pointer none, .int .i64 5] w fun e w' => e = .returned (.string ⟨#[]⟩) ∧ w = w' := text_nil 5 (by decide) w

theorem syn_new {wB : World} {g : Nat} {S : ByteArray} (h : Rd wB g S.data.toList false) : Syn (wB.alloc (.cells #[.string S, .int .i64 0, .bool false] 40)) g wB.heap.size S S.data.toList false 0 := by
  refine ⟨h.alloc _, ⟨by go_simp, by go_simp, by go_simp, by go_simp, by go_simp, by go_simp⟩, fun _ => ⟨by rw [List.drop_zero], Nat.zero_le _⟩⟩

end Go.Proofs.Ytfmmcgbgpncoiaa

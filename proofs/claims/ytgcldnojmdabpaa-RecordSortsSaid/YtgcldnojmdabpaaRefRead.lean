/-
  THE DOCUMENT'S OWN READER (magpieref01.Reader), told by its cells; its Uint.
-/
import Derived.Test.YtgcldnojmdabpaaRef
import Derived.Test.YtgcldnojmdabpaaFlow
import Derived.Deep.QuietTactic
import Derived.BigQuiet
namespace Go.Proofs.Ytgcldnojmdabpaa
open Go.RowKit Go

/-- Block g is the document's reader of S, at 'at'. -/
structure Rf (w : World) (g : Nat) (S : ByteArray) (pos : Nat) (bad : Bool) : Prop where
  str : w.cell? ⟨g, 0, none⟩ = some (.string S)
  posn : w.cell? ⟨g, 1, none⟩ = some (.int .i64 pos)
  isBad : w.cell? ⟨g, 2, none⟩ = some (.bool bad)
  f0 : w.frozen? ⟨g, 0, none⟩ = false
  f1 : w.frozen? ⟨g, 1, none⟩ = false
  f2 : w.frozen? ⟨g, 2, none⟩ = false

theorem Rf.carry {w w' : World} {g : Nat} {S : ByteArray} {pos : Nat} {bad : Bool} (h : Rf w g S pos bad) (hb : w'.heap[g]? = w.heap[g]?) : Rf w' g S pos bad := by
  have hc : ∀ o, w'.cell? ⟨g, o, none⟩ = w.cell? ⟨g, o, none⟩ := fun o => World.cell?_of_block (a := ⟨g, o, none⟩) hb
  have hf : ∀ o, w'.frozen? ⟨g, o, none⟩ = w.frozen? ⟨g, o, none⟩ := fun o => World.frozen?_of_block (a := ⟨g, o, none⟩) hb
  exact ⟨by rw [hc]; exact h.str, by rw [hc]; exact h.posn, by rw [hc]; exact h.isBad, by rw [hf]; exact h.f0, by rw [hf]; exact h.f1, by rw [hf]; exact h.f2⟩
theorem Rf.lt {w : World} {g : Nat} {S : ByteArray} {pos : Nat} {bad : Bool} (h : Rf w g S pos bad) : g < w.heap.size := World.block_lt_of_cell? w ⟨g, 0, none⟩ h.str
theorem Rf.chg {w w' : World} {g k : Nat} {S : ByteArray} {pos : Nat} {bad : Bool} (h : Rf w g S pos bad) (hk : Chg k w w') (hne : g ≠ k) : Rf w' g S pos bad := h.carry (hk.block g h.lt hne)
theorem Rf.below {w w' : World} {g B : Nat} {S : ByteArray} {pos : Nat} {bad : Bool} (h : Rf w g S pos bad) (hk : Below B w w') (hne : g < B) : Rf w' g S pos bad := h.carry (hk.block g hne)
theorem Rd.chg {w w' : World} {g k : Nat} {l : List UInt8} {bad : Bool} (h : Rd w g l bad) (hk : Chg k w w') (hne : g ≠ k) : Rd w' g l bad := h.carry (hk.block g h.lt hne)
theorem Below.chg {g : Nat} {w w' : World} (h : Below w.heap.size w w') : Chg g w w' := ⟨h.os, h.tape, h.output, h.size, fun k hk _ => h.block k hk⟩
theorem Chg.drewN {g : Nat} {a w : World} (h : Chg g a w) (n : Nat) : Chg g a (w.drewN n) := ⟨h.os, h.tape, h.output, h.size, h.block⟩
theorem Rf.drewN {w : World} {g : Nat} {S : ByteArray} {pos : Nat} {bad : Bool} (h : Rf w g S pos bad) (n : Nat) : Rf (w.drewN n) g S pos bad := h.carry rfl

theorem Chg.setCell (g o : Nat) (w : World) (v : Value) : Chg g w (w.setCell ⟨g, o, none⟩ v) := (Only.setCell g o w v).chg
theorem Rf.setBad {w : World} {g : Nat} {S : ByteArray} {pos : Nat} {bad : Bool} (h : Rf w g S pos bad) (b : Bool) : Rf (w.setCell ⟨g, 2, none⟩ (.bool b)) g S pos b := by
  obtain ⟨h0, h1, h2, h3, h4, h5⟩ := h
  exact ⟨by go_simp, by go_simp, by go_simp, by simpa using h3, by simpa using h4, by simpa using h5⟩
theorem Rf.setPos {w : World} {g : Nat} {S : ByteArray} {pos : Nat} {bad : Bool} (h : Rf w g S pos bad) (p : Nat) : Rf (w.setCell ⟨g, 1, none⟩ (.int .i64 p)) g S p bad := by
  obtain ⟨h0, h1, h2, h3, h4, h5⟩ := h
  exact ⟨by go_simp, by go_simp, by go_simp, by simpa using h3, by simpa using h4, by simpa using h5⟩

set_option maxHeartbeats 2000000 in
set_option maxRecDepth 100000 in
theorem rf_loop (g : Nat) (S : ByteArray) (pos t : Nat) (most : Nat) (hS : S.size ≤ 2000) (ht : pos + t ≤ S.size) (w : World) (h : Rf w g S pos false)
    (hc : ∀ j (h : j < t), 128 ≤ (S[pos + j]'(by omega)).toNat) (hend : pos + t = S.size ∨ 10 ≤ t) :
    Calls Try.prog 63 #[.pointer (some ⟨g, 0, none⟩), .int .u64 most] w fun e w' => e = .returned (.int .u64 0) ∧ (∃ pos', Rf w' g S pos' true) ∧ Chg g w w' := by
  have HC := Lib.hid hc
  have HE := Lib.hid hend
  have hb := h.isBad
  have H := Lib.hid h
  clear hc hend h
  go_enter Try.func63, Try.ntmps63
  go_wp2_with fail
  go_loopw [5, 6, 7] (fun vk _ _ wr => ∃ k : Nat, vk = .int .i64 k ∧ 1 ≤ k ∧ k ≤ 11 ∧ k ≤ t + 1 ∧ Rf wr g S pos false ∧ Chg g w wr) (fun vk _ _ _ => 12 - (intOf vk).toNat)
  case atStart => exact ⟨1, rfl, by omega, by omega, by omega, H.out, Chg.refl _ _⟩
  case round =>
    obtain ⟨k, rfl, hk1, hk11, hkt, hrf, hch⟩ := hrel
    have hs0 := hrf.str
    have hs1 := hrf.posn
    by_cases hk10 : k ≤ 10
    · by_cases hkS : pos + k ≤ S.size
      · have hkt2 : k ≤ t := by rcases HE.out with h | h <;> omega
        have e1 : decide ((k : Int) ≤ 10) = true := by simp; omega
        have e2 : IntKind.i64.wrap ((pos : Int) + k) = (pos : Int) + k := by rw [IntKind.wrap_i64]; omega
        obtain ⟨i, hi⟩ : ∃ i, i = pos + (k - 1) := ⟨_, rfl⟩
        have e3 : IntKind.i64.wrap ((pos : Int) + k - 1) = (i : Int) := by rw [IntKind.wrap_i64]; omega
        have hlt : i < S.size := by omega
        have hlt2 : (i : Int) < (S.size : Int) := by omega
        have HIX := Lib.hid hi
        clear hi
        go_wp2_with fail
        go_quiet (fail)
        go_wp2_with fail
        go_quiet (fail)
        go_wp2_with fail
        · go_roundw
          case rel => exact ⟨k + 1, by go_num, by omega, by omega, by omega, hrf.drewN _, hch.drewN _⟩
          case measure => simp [intOf]; omega
        · exfalso
          have hbyte : ((S[i].toNat : Nat) : Int) < 128 := by assumption
          have hc := HC.out (k - 1) (by omega)
          have hi := HIX.out
          subst hi
          omega
      · have e1 : decide ((k : Int) ≤ 10) = true := by simp; omega
        have e2 : IntKind.i64.wrap ((pos : Int) + k) = (pos : Int) + k := by rw [IntKind.wrap_i64]; omega
        have hf := hrf.f2
        have hb2 := hrf.isBad
        go_wp2_with fail
        go_quiet (fail)
        go_wp2_with fail
        go_ret
        exact ⟨rfl, ⟨pos, (hrf.drewN _).setBad true⟩, (hch.drewN _).trans (Chg.setCell g 2 _ _)⟩
    · have e1 : decide ((k : Int) ≤ 10) = false := by simp; omega
      have hf := hrf.f2
      have hb2 := hrf.isBad
      go_wp2_with fail
      go_quiet (fail)
      go_wp2_with fail
      go_ret
      exact ⟨rfl, ⟨pos, (hrf.drewN _).setBad true⟩, (hch.drewN _).trans (Chg.setCell g 2 _ _)⟩

end Go.Proofs.Ytgcldnojmdabpaa

/-
  THE DOCUMENT'S OWN: letter, Words, IsWord.
-/
import Derived.Test.YtpchlnikcdhklaaDoorRefName
import Derived.Test.YtpchlnikcdhklaaDoorToks
namespace Go.Proofs.YtpchlnikcdhklaaDoor
open Go.RowKit Go

theorem ch_iff (c : UInt8) : MW.ch c = true ↔ (c.toNat = 95 ∨ (48 ≤ c.toNat ∧ c.toNat ≤ 57) ∨ (97 ≤ c.toNat ∧ c.toNat ≤ 122) ∨ (65 ≤ c.toNat ∧ c.toNat ≤ 90)) := by
  constructor
  · intro h
    by_cases hh : (c.toNat = 95 ∨ (48 ≤ c.toNat ∧ c.toNat ≤ 57) ∨ (97 ≤ c.toNat ∧ c.toNat ≤ 122) ∨ (65 ≤ c.toNat ∧ c.toNat ≤ 90))
    · exact hh
    · rw [ch_no rfl (by omega)] at h; cases h
  · intro h
    exact ch_yes rfl h

set_option maxHeartbeats 1000000 in
theorem refLetter_any (c : UInt8) (n : Nat) (hn : c.toNat = n) (w : World) : Calls Tryd.prog 24 #[.int .u8 (n : Int)] w fun e w' => e = .returned (.bool (MW.ch c)) ∧ w' = w := by
  go_enter Tryd.func24, Tryd.ntmps24
  go_wp2
  all_goals
    go_ret
    refine ⟨ret_bool ?_, rfl⟩
    rw [Bool.eq_iff_iff, ch_iff, hn]
    simp
    try omega

/-- The words, as texts. -/
def wordsB : List ByteArray := LX.words.map fun l => ⟨l.toArray⟩

theorem words_any (w : World) : Calls Tryd.prog 28 #[] w fun e w' => e = .returned (.slice (some ⟨w.heap.size, 0, none⟩) 15 15) ∧ w' = w.alloc (.cells (wordsB.map Value.string).toArray 9) := by
  go_enter Tryd.func28, Tryd.ntmps28
  go_wp2
  go_ret
  exact ⟨rfl, rfl⟩

theorem isWord_iff (s : ByteArray) : LX.isWord s.data.toList = true ↔ s ∈ wordsB := by
  unfold LX.isWord wordsB
  rw [List.contains_iff_mem, List.mem_map]
  constructor
  · intro h
    exact ⟨_, h, by cases s; rfl⟩
  · rintro ⟨l, hl, rfl⟩
    exact hl

set_option maxHeartbeats 2000000 in
set_option maxRecDepth 100000 in
theorem isWord_any (s : ByteArray) (w : World) : Calls Tryd.prog 13 #[.string s] w fun e w' => e = .returned (.bool (LX.isWord s.data.toList)) ∧ Lay w w' := by
  obtain ⟨W, hW⟩ : ∃ W, W = w.alloc (.cells (wordsB.map Value.string).toArray 9) := ⟨_, rfl⟩
  have hl : Lay w W := by rw [hW]; exact (Keep.refl _ _).alloc _
  have hc : ∀ k, k < 15 → W.cell? ⟨w.heap.size, k, none⟩ = (wordsB.map Value.string)[k]? := fun k hk => by
    rw [hW, World.cell?_alloc_new, List.getElem?_toArray]
  have HC := Lib.hid hc
  have HL := Lib.hid hl
  have hw := words_any w
  rw [← hW] at hw
  clear hW hc hl
  go_enter Tryd.func13, Tryd.ntmps13
  go_wp2_with fail
  refine hw.mono ?_
  rintro e w' ⟨rfl, rfl⟩
  clear hw
  go_wp2_with fail
  go_loopw [7] (fun vi wr => ∃ k : Nat, vi = .int .i64 k ∧ k ≤ 15 ∧ wr = w' ∧ ∀ x ∈ wordsB.take k, x ≠ s) (fun vi _ => 15 - (intOf vi).toNat)
  case atStart => exact ⟨0, rfl, Nat.zero_le _, rfl, by simp⟩
  case round =>
    obtain ⟨k, rfl, hk, rfl, hz⟩ := hrel
    have HZ := Lib.hid hz
    clear hz
    by_cases hlt : k < 15
    · have hkl : k < wordsB.length := hlt
      obtain ⟨x, hx⟩ : ∃ x, x = wordsB[k] := ⟨_, rfl⟩
      have hcell : wr.cell? ⟨w.heap.size, k, none⟩ = some (.string x) := by
        rw [HC.out k hlt, List.getElem?_map, List.getElem?_eq_getElem hkl, hx]
        rfl
      have HX := Lib.hid hx
      clear hx
      by_cases hxs : x = s
      · subst hxs
        have hb : (x.toList == x.toList) = true := by simp
        go_wp2_with fail
        go_ret
        refine ⟨ret_bool ?_, HL.out⟩
        rw [Eq.comm, isWord_iff, HX.out]
        exact List.getElem_mem hkl
      · have hb : (x.toList == s.toList) = false := by
          rw [beq_eq_false_iff_ne]
          exact fun e => hxs (toList_inj _ _ e)
        go_wp2_with fail
        go_roundw
        case rel =>
          refine ⟨k + 1, by go_num, by omega, by trivial, fun y hy => ?_⟩
          rw [List.take_succ_eq_append_getElem hkl, List.mem_append, List.mem_singleton, ← HX.out] at hy
          rcases hy with hy | rfl
          · exact HZ.out y hy
          · exact hxs
        case measure => simp [intOf]; omega
    · obtain rfl : k = 15 := by omega
      go_wp2_with fail
      go_ret
      refine ⟨ret_bool ?_, HL.out⟩
      rw [Eq.comm, Bool.eq_false_iff, Ne, isWord_iff]
      intro h
      exact HZ.out s (by rw [List.take_of_length_le (by decide)]; exact h) rfl

end Go.Proofs.YtpchlnikcdhklaaDoor

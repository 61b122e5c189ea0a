/-
  WHAT THE CALLS OF PACKAGE word THAT MAKE NO LOOP OVER AN ITERATOR DO; and magpieref03.Letter.
-/
import Derived.Test.YtgjlbcmejanfaaaDoorRows
import Derived.Test.YtgjlbcmejanfaaaDoorMath
import Derived.Test.YtgjlbcmejanfaaaDoorOver
import Derived.WalkKit
import Derived.WalkSpells
import Derived.WalkLawsBesides
import Derived.Deep.QuietTactic
import Derived.BigQuiet
import Derived.Lib.Hide
import Derived.Lib.OthersKept
import Derived.Outline
namespace Go.Proofs.YtgjlbcmejanfaaaDoor
open Go.RowKit Go

theorem ret_bool {a b : Bool} (h : a = b) : Ending.returned (.bool a) = .returned (.bool b) := by rw [h]

def letterI (c : Int) : Bool := if 128 ≤ c then c != 65533 else (decide (97 ≤ c) && decide (c ≤ 122)) || (decide (65 ≤ c) && decide (c ≤ 90)) || (decide (48 ≤ c) && decide (c ≤ 57)) || c == 95
theorem letterI_nat (n : Nat) : letterI n = M.letter n := by
  unfold letterI M.letter
  by_cases h : 128 ≤ n
  · rw [if_pos h, if_pos (by omega)]
    rw [Bool.eq_iff_iff]; simp; omega
  · rw [if_neg h, if_neg (by omega)]
    rw [Bool.eq_iff_iff]; simp; omega

theorem letterI_iff (c : Int) : letterI c = true ↔ (128 ≤ c ∧ c ≠ 65533) ∨ (97 ≤ c ∧ c ≤ 122) ∨ (65 ≤ c ∧ c ≤ 90) ∨ (48 ≤ c ∧ c ≤ 57) ∨ c = 95 := by
  unfold letterI
  split
  · simp; omega
  · simp; omega

set_option maxHeartbeats 1000000 in
theorem letter_any (c : Int) (w : World) : Calls Tryd.prog 21 #[.int .i32 c] w fun e w' => e = .returned (.bool (letterI c)) ∧ w = w' := by
  go_enter Tryd.func21, Tryd.ntmps21
  go_wp2
  all_goals
    go_ret
    refine ⟨ret_bool ?_, rfl⟩
    rw [Bool.eq_iff_iff, letterI_iff]
    simp
    try omega

set_option maxHeartbeats 1000000 in
theorem refLetter_any (c : Int) (w : World) : Calls Tryd.prog 24 #[.int .i32 c] w fun e w' => e = .returned (.bool (letterI c)) ∧ w = w' := by
  go_enter Tryd.func24, Tryd.ntmps24
  go_wp2
  all_goals
    go_ret
    refine ⟨ret_bool ?_, rfl⟩
    rw [Bool.eq_iff_iff, letterI_iff]
    simp
    try omega

set_option maxHeartbeats 1000000 in
theorem places_any (s : ByteArray) (w : World) : Calls Tryd.prog 19 #[.string s] w fun e w' => e = .returned (.func (.func 25) #[] #[.pointer (some ⟨w.heap.size, 0, none⟩)]) ∧ w.alloc (.cells #[.string s] 9) = w' := by
  go_enter Tryd.func19, Tryd.ntmps19
  go_wp2
  go_ret
  exact ⟨rfl, rfl⟩
set_option maxHeartbeats 1000000 in
theorem words_any (s : ByteArray) (w : World) : Calls Tryd.prog 10 #[.string s] w fun e w' => e = .returned (.func (.func 18) #[] #[.pointer (some ⟨w.heap.size, 0, none⟩)]) ∧ w.alloc (.cells #[.string s] 9) = w' := by
  go_enter Tryd.func10, Tryd.ntmps10
  go_wp2
  go_ret
  exact ⟨rfl, rfl⟩
set_option maxHeartbeats 1000000 in
theorem inner_any (s : ByteArray) (w : World) : Calls Tryd.prog 11 #[.string s] w fun e w' => e = .returned (.func (.func 20) #[] #[.pointer (some ⟨w.heap.size, 0, none⟩)]) ∧ w.alloc (.cells #[.string s] 9) = w' := by
  go_enter Tryd.func11, Tryd.ntmps11
  go_wp2
  go_ret
  exact ⟨rfl, rfl⟩

theorem letter_nat (c : Nat) (b : Bool) (h : M.letter c = b) (w : World) : Calls Tryd.prog 21 #[.int .i32 c] w fun e w' => e = .returned (.bool b) ∧ w = w' := by
  rw [← h, ← letterI_nat]
  exact letter_any c w

/-- What a step of a range over a string hands over. -/
theorem next_at (w : World) (k : Nat) (s : ByteArray) (pos : Nat) (ty : TypeId) (hk : w.heap[k]? = some (.stringIter s pos)) (h : pos < s.size) (c n : Nat) (hd : M.dec (s.data.toList.drop pos) = (c, n)) :
    (Instr.next (.pointer (some ⟨k, 0, none⟩)) true ty).run Tryd.prog w = .ok (.tuple #[.bool true, .int .i64 pos, .int .i32 c]) (w.iterAt k s (pos + n)) := by
  have := Lib.run_next_any_at (P := Tryd.prog) w k s pos ty hk h
  rw [M.dec_at, hd] at this
  exact this

set_option maxHeartbeats 1000000 in
/-- word.Is. -/
theorem is_any (s : ByteArray) (hlen : s.size ≤ 70368744177664) (w : World) : Calls Tryd.prog 14 #[.string s] w fun e w' => e = .returned (.bool (M.is s.data.toList)) ∧ Below w.heap.size w w' := by
  have hsz : s.data.toList.length = s.size := Array.length_toList
  have HZ := Lib.hid hsz
  clear hsz
  go_enter Tryd.func14, Tryd.ntmps14
  go_wp2
  go_loopw [] (fun wr => ∃ pos : Nat, wr.heap[w.heap.size]? = some (.stringIter s pos) ∧ Below w.heap.size w wr ∧ pos ≤ s.size ∧ M.all s.data.toList = M.all (s.data.toList.drop pos)) (fun wr => s.size - wr.iterPos w.heap.size)
  case atStart => exact ⟨0, World.iter_heap w s 0, (Below.refl _ _).alloc (Nat.le_refl _) _, Nat.zero_le _, rfl⟩
  case round =>
    obtain ⟨pos, hit, hb, hp, ha⟩ := hrel
    by_cases hlt : pos < s.size
    · obtain ⟨c, n, hd⟩ : ∃ c n, M.dec (s.data.toList.drop pos) = (c, n) := ⟨_, _, rfl⟩
      have hdd := M.dec_drop (l := s.data.toList) (pos := pos) (by rw [HZ.out]; exact hlt)
      rw [hd, HZ.out] at hdd
      have hac := M.all_cons (s.data.toList.drop pos) (fun e => by have := congrArg List.length e; simp at this; omega)
      rw [hd, List.drop_drop] at hac
      have HA := Lib.hid ha
      have HAC := Lib.hid hac
      have HIT := Lib.hid (Lib.iterAt_heap wr _ s pos (pos + n) hit)
      have hnx := fun ty => next_at wr _ s pos ty hit hlt c n hd
      have HB := Lib.hid (Lib.below_iterAt hb (k := w.heap.size) (Nat.le_refl _) s (pos + n))
      have HP0 := Lib.hid (iterPos_of hit)
      have HP1 := Lib.hid (iterPos_of HIT.out)
      clear ha hac hd hit hb
      by_cases hl : M.letter c = true
      · have HL := Lib.hid (letter_nat c true hl (wr.iterAt w.heap.size s (pos + n)))
        have HL0 := Lib.hid hl
        clear hl
        go_wp2_with (go_at_call 21; refine HL.out.mono ?_; rintro e w' ⟨rfl, rfl⟩)
        go_roundw
        case rel => exact ⟨pos + n, HIT.out, HB.out, hdd.2, by rw [HA.out, HAC.out, HL0.out]; rfl⟩
        case measure => rw [HP0.out, HP1.out]; omega
      · have hl := Bool.eq_false_iff.2 hl
        have HL := Lib.hid (letter_nat c false hl (wr.iterAt w.heap.size s (pos + n)))
        have HL0 := Lib.hid hl
        clear hl
        go_wp2_with (go_at_call 21; refine HL.out.mono ?_; rintro e w' ⟨rfl, rfl⟩)
        go_ret
        refine ⟨ret_bool ?_, HB.out⟩
        unfold M.is
        rw [HA.out, HAC.out, HL0.out]
        rfl
    · obtain rfl : pos = s.size := by omega
      have hnx := fun ty => Lib.run_next_end_at (P := Tryd.prog) wr _ s s.size ty hit hlt
      have HA := Lib.hid ha
      have HB := Lib.hid hb
      clear ha hb hit
      go_wp2
      go_ret
      refine ⟨ret_bool ?_, HB.out⟩
      unfold M.is
      rw [HA.out, List.drop_of_length_le (by rw [HZ.out]; exact Nat.le_refl _)]
      rw [ByteArray.toList_eq]
      rfl

end Go.Proofs.YtgjlbcmejanfaaaDoor

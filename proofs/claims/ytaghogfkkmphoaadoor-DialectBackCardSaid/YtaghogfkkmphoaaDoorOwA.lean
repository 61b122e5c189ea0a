/-
  LETTERS, WORDS, NAMES: word.Letter, word.Is; record's plain, digit, Name.
  RUNES AND THEIR BYTES; A TEXT READ RUNE BY RUNE: no program in it.
  PACKAGE lex: special, letter, step; IsWord.
  PACKAGE lex: broken, IsText.
  PACKAGE lex: rowSize, number, row.
  PACKAGE lex: row.
  PACKAGE lex: text.
-/
import Derived.Test.YtaghogfkkmphoaaDoorWdA
import Derived.Test.YtaghogfkkmphoaaDoorLxA
import Derived.Lib.MapLaws
import Derived.Lib.RuneBytes
import Derived.Laws.Cover4
import Derived.Test.YtaghogfkkmphoaaDoorLxS
import Derived.OwnWalk
namespace Go.Proofs.YtaghogfkkmphoaaDoor
open Go.RowKit Go

theorem iterPos_of {w : World} {k : Nat} {s : ByteArray} {pos : Nat} (h : w.heap[k]? = some (.stringIter s pos)) : w.iterPos k = pos := by simp [World.iterPos, h]

theorem Lay.iterAt {a w : World} (h : Lay a w) {k : Nat} (hk : a.heap.size ≤ k) (s : ByteArray) (p : Nat) : Lay a (w.iterAt k s p) :=
  have b := Lib.below_iterAt (Lay.below h) (k := k) hk s p
  ⟨b.os, b.tape, b.output, b.size, h.drawn, fun k hk _ => b.block k hk⟩

/-- What a step of a range over a string hands over. -/
theorem next_at (w : World) (k : Nat) (s : ByteArray) (pos : Nat) (ty : TypeId) (hk : w.heap[k]? = some (.stringIter s pos)) (h : pos < s.size) (c n : Nat) (hd : MW.dec (s.data.toList.drop pos) = (c, n)) :
    (Instr.next (.pointer (some ⟨k, 0, none⟩)) true ty).run Tryd.prog w = .ok (.tuple #[.bool true, .int .i64 pos, .int .i32 c]) (w.iterAt k s (pos + n)) := by
  have := Lib.run_next_any_at (P := Tryd.prog) w k s pos ty hk h
  rw [MW.dec_at, hd] at this
  exact this

end Go.Proofs.YtaghogfkkmphoaaDoor

namespace Go.Proofs.YtaghogfkkmphoaaDoor.LX
open Go MW

/-! ### A text, read rune by rune: 0 it goes on, 1 by what stands behind a stroke, 2 it is ended, 3 it is none -/

end Go.Proofs.YtaghogfkkmphoaaDoor.LX

namespace Go.Proofs.YtaghogfkkmphoaaDoor
open Go.RowKit Go


end Go.Proofs.YtaghogfkkmphoaaDoor

namespace Go.Proofs.YtaghogfkkmphoaaDoor
open Go.RowKit Go

set_option maxHeartbeats 2000000 in
set_option maxRecDepth 100000 in
theorem broken_any (s : ByteArray) (_hlen : s.size ≤ 1048576) (w : World) (hT : Lib.Utf8Tabs 0 1 w) :
    Calls Tryd.prog 85 #[.string s] w fun e w' => e = .returned (.int .i64 (LX.valid s.data.toList : Nat)) ∧ Below w.heap.size w w' := by
  have hsz : s.data.toList.length = s.size := (Lib.size_eq s).symm
  have HZ := Lib.hid hsz
  clear hsz
  have HT := Lib.hid hT
  clear hT
  go_enter Tryd.func85, Tryd.ntmps85
  go_wp2_with fail
  go_loopw [] (fun wr => ∃ pos : Nat, wr.heap[w.heap.size]? = some (.stringIter s pos) ∧ Below w.heap.size w wr ∧ pos ≤ s.size ∧ LX.valid s.data.toList = pos + LX.valid (s.data.toList.drop pos)) (fun wr => s.size - wr.iterPos w.heap.size)
  case atStart => exact ⟨0, World.iter_heap w s 0, (Below.refl _ _).alloc (Nat.le_refl _) _, Nat.zero_le _, by simp⟩
  case round =>
    obtain ⟨pos, hit, hb, hp, hv⟩ := hrel
    by_cases hlt : pos < s.size
    · obtain ⟨c, n, hd⟩ : ∃ c n, MW.dec (s.data.toList.drop pos) = (c, n) := ⟨_, _, rfl⟩
      have hn := MW.dec_drop (l := s.data.toList) (pos := pos) (by rw [HZ.out]; exact hlt)
      rw [hd, HZ.out] at hn
      simp only at hn
      have hne : s.data.toList.drop pos ≠ [] := by
        intro e
        have := congrArg List.length e
        rw [List.length_drop, HZ.out] at this
        simp at this
        omega
      have hbad : LX.bad (s.data.toList.drop pos) = (decide (c = 65533) && decide (n = 1)) := by unfold LX.bad; rw [hd]
      have hstep := LX.valid_step _ hne
      rw [hd, List.drop_drop] at hstep
      simp only at hstep
      have HV := Lib.hid hv
      have HBAD := Lib.hid hbad
      have HST := Lib.hid hstep
      have hit1 := Lib.iterAt_heap wr _ s pos (pos + n) hit
      have HIT := Lib.hid hit1
      have hnx := fun ty => next_at wr _ s pos ty hit hlt c n hd
      have hb1 := Lib.below_iterAt hb (k := w.heap.size) (Nat.le_refl _) s (pos + n)
      have HB := Lib.hid hb1
      have HP0 := Lib.hid (iterPos_of hit)
      have HP1 := Lib.hid (iterPos_of hit1)
      have HL := Lib.hid (show w.heap.size < (wr.iterAt w.heap.size s (pos + n)).heap.size from (Array.getElem?_eq_some_iff.1 hit1).1)
      have HC := Lib.hid (decode_call s pos hlt c n hd (wr.iterAt w.heap.size s (pos + n)) (Utf8Tabs_below HT.out hb1))
      clear hd hbad hstep hne hv hit hit1 hb hb1
      by_cases hc : c = 65533
      · subst hc
        by_cases h1 : n = 1
        · subst h1
          go_wp2_with fail
          refine HC.out.mono ?_
          rintro e w1 ⟨rfl, hb1⟩
          have HB1 := Lib.hid (HB.out.trans (hb1.mono HB.out.size))
          clear hb1
          go_wp2_with fail
          go_ret
          refine ⟨?_, HB1.out⟩
          rw [HV.out, LX.valid_bad _ (by rw [HBAD.out]; rfl)]
          rfl
        · have h1' : ((n : Int) == 1) = false := by simp; omega
          go_wp2_with fail
          refine HC.out.mono ?_
          rintro e w1 ⟨rfl, hb1⟩
          have HB1 := Lib.hid (HB.out.trans (hb1.mono HB.out.size))
          have HIT1 := Lib.hid ((hb1.block _ HL.out).trans HIT.out)
          clear hb1
          go_wp2_with fail
          go_roundw
          case rel => exact ⟨pos + n, HIT1.out, HB1.out, by omega, by rw [HV.out, HST.out (by rw [HBAD.out]; simp [h1])]; omega⟩
          case measure => rw [HP0.out, iterPos_of HIT1.out]; omega
      · have hc' : ((c : Int) == 65533) = false := by simp; omega
        go_wp2_with fail
        go_roundw
        case rel => exact ⟨pos + n, HIT.out, HB.out, by omega, by rw [HV.out, HST.out (by rw [HBAD.out]; simp [hc])]; omega⟩
        case measure => rw [HP0.out, HP1.out]; omega
    · obtain rfl : pos = s.size := by omega
      have hnx := fun ty => Lib.run_next_end_at (P := Tryd.prog) wr _ s s.size ty hit hlt
      have HV := Lib.hid hv
      have HB := Lib.hid hb
      clear hv hb hit
      go_wp2_with fail
      go_ret
      refine ⟨?_, HB.out⟩
      rw [HV.out, List.drop_of_length_le (by rw [HZ.out]; exact Nat.le_refl _)]
      rfl

theorem index_contains (l : List UInt8) (c : UInt8) : decide (0 ≤ Lib.indexByte l c) = l.contains c := by
  induction l with
  | nil => rfl
  | cons b r ih =>
    have hg := Lib.indexByte_ge r c
    rw [List.contains_cons, ← ih, Lib.indexByte]
    by_cases h : b = c
    · subst h
      simp
    · have h1 : (b == c) = false := by simpa using h
      have h2 : (c == b) = false := by simpa using fun e : c = b => h e.symm
      rw [h1, h2]
      simp only [Bool.false_eq_true, if_false, Bool.false_or]
      by_cases h3 : Lib.indexByte r c = -1
      · rw [h3]; rfl
      · have h4 : (Lib.indexByte r c == -1) = false := by simpa using h3
        rw [h4]
        simp only [Bool.false_eq_true, if_false]
        rw [decide_eq_true (by omega : 0 ≤ Lib.indexByte r c), decide_eq_true (by omega)]

end Go.Proofs.YtaghogfkkmphoaaDoor

namespace Go.Proofs.YtaghogfkkmphoaaDoor
open Go.RowKit Go

end Go.Proofs.YtaghogfkkmphoaaDoor

namespace Go.Proofs.YtaghogfkkmphoaaDoor.Own
open Go.RowKit Go

end Go.Proofs.YtaghogfkkmphoaaDoor.Own

namespace Go.Proofs.YtaghogfkkmphoaaDoor.Own
open Go.RowKit Go

end Go.Proofs.YtaghogfkkmphoaaDoor.Own

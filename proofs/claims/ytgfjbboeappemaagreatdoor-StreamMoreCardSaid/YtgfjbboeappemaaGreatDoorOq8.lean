/-
  PACKAGE lex: IsText, Quote.
-/
import Derived.Test.YtgfjbboeappemaaGreatDoorQryA6
import Derived.Test.YtgfjbboeappemaaGreatDoorShelf
import Derived.Lib.MapLaws
import Derived.Lib.RuneBytes
import Derived.Laws.Cover4
import Derived.OwnWalk
import Derived.Shelf.SlSortCmp.QuietGrown
import Derived.Lib.FrozenHead2
import Derived.Laws.OwnMore
import Derived.Laws.IdiomStrings
namespace Go.Proofs.YtgfjbboeappemaaGreatDoor.LX
open Go MW

/-! ### What is UTF-8 -/

/-- Does no rune begin here? -/
def bad (l : List UInt8) : Bool := decide ((dec l).1 = 65533) && decide ((dec l).2 = 1)

theorem bad_low (c : UInt8) (r : List UInt8) (h : c.toNat < 128) : bad (c :: r) = false := by
  unfold bad
  rw [dec_low c r h]
  simp
  omega

def vf : Nat → List UInt8 → Nat
  | 0, _ => 0
  | f + 1, l => if l = [] then 0 else if bad l = true then 0 else (dec l).2 + vf f (l.drop (dec l).2)

theorem vf_fuel : ∀ (n : Nat) (l : List UInt8) (f g : Nat), l.length ≤ n → l.length ≤ f → l.length ≤ g → vf f l = vf g l := by
  intro n
  induction n with
  | zero =>
    intro l f g h _ _
    obtain rfl := List.length_eq_zero_iff.1 (Nat.le_zero.1 h)
    cases f <;> cases g <;> simp [vf]
  | succ n ih =>
    intro l f g h hf hg
    by_cases hl : l = []
    · subst hl; cases f <;> cases g <;> simp [vf]
    · have hd := drop_lt l hl
      have hp := List.length_pos_iff.2 hl
      obtain ⟨f, rfl⟩ : ∃ k, f = k + 1 := ⟨f - 1, by omega⟩
      obtain ⟨g, rfl⟩ : ∃ k, g = k + 1 := ⟨g - 1, by omega⟩
      simp only [vf, if_neg hl]
      rw [ih _ f g (by omega) (by omega) (by omega)]

/-- How many bytes, from the first one on, are UTF-8. -/
def valid (l : List UInt8) : Nat := vf l.length l
theorem valid_bad (l : List UInt8) (h : bad l = true) : valid l = 0 := by
  unfold valid
  cases hl : l.length with
  | zero => rfl
  | succ n => simp [vf, h]
theorem valid_step (l : List UInt8) (hl : l ≠ []) (h : bad l = false) : valid l = (dec l).2 + valid (l.drop (dec l).2) := by
  have hd := drop_lt l hl
  have hp := List.length_pos_iff.2 hl
  unfold valid
  obtain ⟨n, hn⟩ : ∃ n, l.length = n + 1 := ⟨l.length - 1, by omega⟩
  rw [hn]
  simp only [vf, if_neg hl, h, Bool.false_eq_true, if_false]
  rw [vf_fuel n _ _ _ (by omega) (by omega) (Nat.le_refl _)]

inductive U8 : List UInt8 → Prop
  | nil : U8 []
  | step {l : List UInt8} : l ≠ [] → bad l = false → U8 (l.drop (dec l).2) → U8 l

theorem U8.cons {c : UInt8} {r : List UInt8} (h : c.toNat < 128) (hr : U8 r) : U8 (c :: r) := by
  refine .step (by simp) (bad_low c r h) ?_
  rw [dec_low c r h]
  exact hr

/-! ### Texts -/

def isText (l : List UInt8) : Bool := !l.contains 10 && decide (valid l = l.length)
end Go.Proofs.YtgfjbboeappemaaGreatDoor.LX

namespace Go.Proofs.YtgfjbboeappemaaGreatDoor.LX
open Go MW

/-! ### Numbers -/

/-! ### Tokens -/

/-! ### What a token says, read again -/

end Go.Proofs.YtgfjbboeappemaaGreatDoor.LX

namespace Go.Proofs.YtgfjbboeappemaaGreatDoor.LX
open Go MW Lib

end Go.Proofs.YtgfjbboeappemaaGreatDoor.LX

namespace Go.Proofs.YtgfjbboeappemaaGreatDoor.LX
open Go MW Lib

end Go.Proofs.YtgfjbboeappemaaGreatDoor.LX

namespace Go.Proofs.YtgfjbboeappemaaGreatDoor
open Go.RowKit Go

end Go.Proofs.YtgfjbboeappemaaGreatDoor

namespace Go.Proofs.YtgfjbboeappemaaGreatDoor
open Go.RowKit Go

end Go.Proofs.YtgfjbboeappemaaGreatDoor

namespace Go.Proofs.YtgfjbboeappemaaGreatDoor
open Go.RowKit Go

theorem decodeGo_at (s : ByteArray) (pos : Nat) (h : pos < s.size) : Lib.decodeGo (s.extract pos s.size) = MW.dec (s.data.toList.drop pos) := by
  have hsz : (s.extract pos s.size).size = s.size - pos := by simp [ByteArray.size_extract]
  unfold Lib.decodeGo
  rw [if_neg (by omega), MW.dec_at, List.drop_zero]
  congr 1
  rw [ByteArray.data_extract]
  have e : s.data.toList.length = s.size := Array.length_toList
  simp [List.extract_eq_take_drop]
  rw [List.take_of_length_le]
  rw [List.length_drop, e]
  exact Nat.le_refl _

theorem decode_call (s : ByteArray) (pos : Nat) (h : pos < s.size) (c n : Nat) (hd : MW.dec (s.data.toList.drop pos) = (c, n)) (w : World) (hT : Lib.Utf8Tabs 1 2 w) :
    Calls Tryz.prog 100 #[.string (s.extract pos s.size)] w fun e w' => e = .returned (.tuple #[.int .i32 c, .int .i64 n]) ∧ Below w.heap.size w w' := by
  have := Tryz.utf8_DecodeRuneInString (s.extract pos s.size) w hT
  rw [decodeGo_at s pos h, hd] at this
  exact this

set_option maxHeartbeats 2000000 in
set_option maxRecDepth 100000 in
theorem valid_any (s : ByteArray) (hlen : s.size ≤ 1048576) (w : World) (hT : Lib.Utf8Tabs 1 2 w) :
    Calls Tryz.prog 66 #[.string s] w fun e w' => e = .returned (.int .i64 (LX.valid s.data.toList : Nat)) ∧ Below w.heap.size w w' := by
  have hsz : s.data.toList.length = s.size := (Lib.size_eq s).symm
  have HZ := Lib.hid hsz
  clear hsz
  have HT := Lib.hid hT
  clear hT
  go_enter Tryz.func66, Tryz.ntmps66
  go_wp2_with fail
  go_loopw [3] (fun vi wr => ∃ pos : Nat, vi = .int .i64 pos ∧ pos ≤ s.size ∧ Below w.heap.size w wr ∧ LX.valid s.data.toList = pos + LX.valid (s.data.toList.drop pos)) (fun vi _ => s.size - (intOf vi).toNat)
  case atStart => exact ⟨0, rfl, Nat.zero_le _, Below.refl _ _, by simp⟩
  case round =>
    obtain ⟨pos, rfl, hp, hb, hv⟩ := hrel
    have HB := Lib.hid hb
    have HV := Lib.hid hv
    clear hb hv
    by_cases hlt : pos < s.size
    · obtain ⟨c, n, hd⟩ : ∃ c n, MW.dec (s.data.toList.drop pos) = (c, n) := ⟨_, _, rfl⟩
      have hn := MW.dec_drop (l := s.data.toList) (pos := pos) (by rw [HZ.out]; exact hlt)
      rw [hd, HZ.out] at hn
      simp only at hn
      have HC := Lib.hid (decode_call s pos hlt c n hd wr (Utf8Tabs_below HT.out HB.out))
      have hne : s.data.toList.drop pos ≠ [] := by
        intro e
        have := congrArg List.length e
        rw [List.length_drop, HZ.out] at this
        simp at this
        omega
      have hbad : LX.bad (s.data.toList.drop pos) = (decide (c = 65533) && decide (n = 1)) := by unfold LX.bad; rw [hd]
      have hstep := LX.valid_step _ hne
      rw [hd, List.drop_drop] at hstep
      have HBAD := Lib.hid hbad
      have HST := Lib.hid hstep
      clear hd hbad hstep hne
      by_cases hc : c = 65533
      · subst hc
        by_cases h1 : n = 1
        · subst h1
          go_wp2_with fail
          refine HC.out.mono ?_
          rintro e w1 ⟨rfl, hb1⟩
          have HB1 := Lib.hid (HB.out.trans (hb1.mono HB.out.size))
          clear hb1
          go_wp2_with fail
          go_ret
          refine ⟨?_, HB1.out⟩
          rw [HV.out, LX.valid_bad _ (by rw [HBAD.out]; rfl)]
          rfl
        · have h1' : ((n : Int) == 1) = false := by simp; omega
          go_wp2_with fail
          refine HC.out.mono ?_
          rintro e w1 ⟨rfl, hb1⟩
          have HB1 := Lib.hid (HB.out.trans (hb1.mono HB.out.size))
          clear hb1
          go_wp2_with fail
          go_roundw
          case rel => exact ⟨pos + n, by go_num, by omega, HB1.out, by rw [HV.out, HST.out (by rw [HBAD.out]; simp [h1])]; omega⟩
          case measure => simp [intOf]; omega
      · have hc' : ((c : Int) == 65533) = false := by simp; omega
        go_wp2_with fail
        refine HC.out.mono ?_
        rintro e w1 ⟨rfl, hb1⟩
        have HB1 := Lib.hid (HB.out.trans (hb1.mono HB.out.size))
        clear hb1
        go_wp2_with fail
        go_roundw
        case rel => exact ⟨pos + n, by go_num, by omega, HB1.out, by rw [HV.out, HST.out (by rw [HBAD.out]; simp [hc])]; omega⟩
        case measure => simp [intOf]; omega
    · obtain rfl : pos = s.size := by omega
      go_wp2_with fail
      go_ret
      refine ⟨?_, HB.out⟩
      rw [HV.out, List.drop_of_length_le (by rw [HZ.out]; exact Nat.le_refl _)]
      rfl

theorem lf_step {l : List UInt8} {k : Nat} {c : UInt8} {q : List UInt8} (h : l.drop k = c :: q) (z : l.contains 10 = (l.drop k).contains 10) (hc : c ≠ 10) : l.contains 10 = q.contains 10 := by
  rw [z, h, List.contains_cons]
  have : ((10 : UInt8) == c) = false := by rw [beq_eq_false_iff_ne]; exact fun e => hc e.symm
  rw [this, Bool.false_or]

set_option maxHeartbeats 2000000 in
set_option maxRecDepth 100000 in
theorem isText_any (s : ByteArray) (hlen : s.size ≤ 1048576) (w : World) (hT : Lib.Utf8Tabs 1 2 w) :
    Calls Tryz.prog 38 #[.string s] w fun e w' => e = .returned (.bool (LX.isText s.data.toList)) ∧ Below w.heap.size w w' := by
  have hsz : s.data.toList.length = s.size := (Lib.size_eq s).symm
  have HZ := Lib.hid hsz
  clear hsz
  have HVA := Lib.hid (valid_any s hlen w hT)
  clear hT
  go_enter Tryz.func38, Tryz.ntmps38
  go_wp2_with fail
  go_loopw [3] (fun vi wr => ∃ k : Nat, vi = .int .i64 k ∧ k ≤ s.size ∧ wr = w ∧ s.data.toList.contains 10 = (s.data.toList.drop k).contains 10) (fun vi _ => s.size - (intOf vi).toNat)
  case atStart => exact ⟨0, rfl, Nat.zero_le _, rfl, by rw [List.drop_zero]⟩
  case round =>
    obtain ⟨k, rfl, hk, rfl, hz⟩ := hrel
    have HR := Lib.hid hz
    clear hz
    by_cases hlt : k < s.size
    · have HD := Lib.hid (byte_drop s k hlt)
      obtain ⟨c, hc⟩ : ∃ c, c = s[k] := ⟨_, rfl⟩
      obtain ⟨m, hm⟩ : ∃ m, s[k].toNat = m := ⟨_, rfl⟩
      have hix := fun w => idx_run s k m hlt hm w
      rw [← hc] at HD hm
      have HC := Lib.hid hm
      clear hc hm
      by_cases h10 : m = 10
      · subst h10
        go_wp2_with fail
        go_ret
        refine ⟨ret_bool ?_, Below.refl _ _⟩
        unfold LX.isText
        have hc10 : c = 10 := UInt8.toNat_inj.1 HC.out
        rw [HR.out, HD.out, hc10, List.contains_cons]
        simp
      · have h10' : ((m : Int) == 10) = false := by simp; omega
        go_wp2_with fail
        go_roundw
        case rel => exact ⟨k + 1, by go_num, by omega, by trivial, lf_step HD.out HR.out (fun e => h10 (by rw [← HC.out, e]; rfl))⟩
        case measure => simp [intOf]; omega
    · obtain rfl : k = s.size := by omega
      go_wp2_with fail
      refine HVA.out.mono ?_
      rintro e w1 ⟨rfl, hb1⟩
      go_wp2_with fail
      go_ret
      refine ⟨ret_bool ?_, hb1⟩
      unfold LX.isText
      rw [HR.out, List.drop_of_length_le (by rw [HZ.out]; exact Nat.le_refl _), ← HZ.out]
      rw [Bool.eq_iff_iff]
      simp
      try omega

end Go.Proofs.YtgfjbboeappemaaGreatDoor

namespace Go.Proofs.YtgfjbboeappemaaGreatDoor
open Go.RowKit Go

/-- What a step of a range over a string hands over. -/
theorem next_at (w : World) (k : Nat) (s : ByteArray) (pos : Nat) (ty : TypeId) (hk : w.heap[k]? = some (.stringIter s pos)) (h : pos < s.size) (c n : Nat) (hd : MW.dec (s.data.toList.drop pos) = (c, n)) :
    (Instr.next (.pointer (some ⟨k, 0, none⟩)) true ty).run Tryz.prog w = .ok (.tuple #[.bool true, .int .i64 pos, .int .i32 c]) (w.iterAt k s (pos + n)) := by
  have := Lib.run_next_any_at (P := Tryz.prog) w k s pos ty hk h
  rw [MW.dec_at, hd] at this
  exact this

end Go.Proofs.YtgfjbboeappemaaGreatDoor

namespace Go.Proofs.YtgfjbboeappemaaGreatDoor.LX
open Go MW

/-! ### A text, read rune by rune: 0 it goes on, 1 by what stands behind a stroke, 2 it is ended, 3 it is none -/

end Go.Proofs.YtgfjbboeappemaaGreatDoor.LX

namespace Go.Proofs.YtgfjbboeappemaaGreatDoor
open Go.RowKit Go

end Go.Proofs.YtgfjbboeappemaaGreatDoor

namespace Go.Proofs.YtgfjbboeappemaaGreatDoor
open Go.RowKit Go

set_option maxHeartbeats 2000000 in
set_option maxRecDepth 100000 in
theorem broken_any (s : ByteArray) (_hlen : s.size ≤ 1048576) (w : World) (hT : Lib.Utf8Tabs 1 2 w) :
    Calls Tryz.prog 106 #[.string s] w fun e w' => e = .returned (.int .i64 (LX.valid s.data.toList : Nat)) ∧ Below w.heap.size w w' := by
  have hsz : s.data.toList.length = s.size := (Lib.size_eq s).symm
  have HZ := Lib.hid hsz
  clear hsz
  have HT := Lib.hid hT
  clear hT
  go_enter Tryz.func106, Tryz.ntmps106
  go_wp2_with fail
  go_loopw [] (fun wr => ∃ pos : Nat, wr.heap[w.heap.size]? = some (.stringIter s pos) ∧ Below w.heap.size w wr ∧ pos ≤ s.size ∧ LX.valid s.data.toList = pos + LX.valid (s.data.toList.drop pos)) (fun wr => s.size - wr.iterPos w.heap.size)
  case atStart => exact ⟨0, World.iter_heap w s 0, (Below.refl _ _).alloc (Nat.le_refl _) _, Nat.zero_le _, by simp⟩
  case round =>
    obtain ⟨pos, hit, hb, hp, hv⟩ := hrel
    by_cases hlt : pos < s.size
    · obtain ⟨c, n, hd⟩ : ∃ c n, MW.dec (s.data.toList.drop pos) = (c, n) := ⟨_, _, rfl⟩
      have hn := MW.dec_drop (l := s.data.toList) (pos := pos) (by rw [HZ.out]; exact hlt)
      rw [hd, HZ.out] at hn
      simp only at hn
      have hne : s.data.toList.drop pos ≠ [] := by
        intro e
        have := congrArg List.length e
        rw [List.length_drop, HZ.out] at this
        simp at this
        omega
      have hbad : LX.bad (s.data.toList.drop pos) = (decide (c = 65533) && decide (n = 1)) := by unfold LX.bad; rw [hd]
      have hstep := LX.valid_step _ hne
      rw [hd, List.drop_drop] at hstep
      simp only at hstep
      have HV := Lib.hid hv
      have HBAD := Lib.hid hbad
      have HST := Lib.hid hstep
      have hit1 := Lib.iterAt_heap wr _ s pos (pos + n) hit
      have HIT := Lib.hid hit1
      have hnx := fun ty => next_at wr _ s pos ty hit hlt c n hd
      have hb1 := Lib.below_iterAt hb (k := w.heap.size) (Nat.le_refl _) s (pos + n)
      have HB := Lib.hid hb1
      have HP0 := Lib.hid (iterPos_of hit)
      have HP1 := Lib.hid (iterPos_of hit1)
      have HL := Lib.hid (show w.heap.size < (wr.iterAt w.heap.size s (pos + n)).heap.size from (Array.getElem?_eq_some_iff.1 hit1).1)
      have HC := Lib.hid (decode_call s pos hlt c n hd (wr.iterAt w.heap.size s (pos + n)) (Utf8Tabs_below HT.out hb1))
      clear hd hbad hstep hne hv hit hit1 hb hb1
      by_cases hc : c = 65533
      · subst hc
        by_cases h1 : n = 1
        · subst h1
          go_wp2_with fail
          refine HC.out.mono ?_
          rintro e w1 ⟨rfl, hb1⟩
          have HB1 := Lib.hid (HB.out.trans (hb1.mono HB.out.size))
          clear hb1
          go_wp2_with fail
          go_ret
          refine ⟨?_, HB1.out⟩
          rw [HV.out, LX.valid_bad _ (by rw [HBAD.out]; rfl)]
          rfl
        · have h1' : ((n : Int) == 1) = false := by simp; omega
          go_wp2_with fail
          refine HC.out.mono ?_
          rintro e w1 ⟨rfl, hb1⟩
          have HB1 := Lib.hid (HB.out.trans (hb1.mono HB.out.size))
          have HIT1 := Lib.hid ((hb1.block _ HL.out).trans HIT.out)
          clear hb1
          go_wp2_with fail
          go_roundw
          case rel => exact ⟨pos + n, HIT1.out, HB1.out, by omega, by rw [HV.out, HST.out (by rw [HBAD.out]; simp [h1])]; omega⟩
          case measure => rw [HP0.out, iterPos_of HIT1.out]; omega
      · have hc' : ((c : Int) == 65533) = false := by simp; omega
        go_wp2_with fail
        go_roundw
        case rel => exact ⟨pos + n, HIT.out, HB.out, by omega, by rw [HV.out, HST.out (by rw [HBAD.out]; simp [hc])]; omega⟩
        case measure => rw [HP0.out, HP1.out]; omega
    · obtain rfl : pos = s.size := by omega
      have hnx := fun ty => Lib.run_next_end_at (P := Tryz.prog) wr _ s s.size ty hit hlt
      have HV := Lib.hid hv
      have HB := Lib.hid hb
      clear hv hb hit
      go_wp2_with fail
      go_ret
      refine ⟨?_, HB.out⟩
      rw [HV.out, List.drop_of_length_le (by rw [HZ.out]; exact Nat.le_refl _)]
      rfl

theorem index_contains (l : List UInt8) (c : UInt8) : decide (0 ≤ Lib.indexByte l c) = l.contains c := by
  induction l with
  | nil => rfl
  | cons b r ih =>
    have hg := Lib.indexByte_ge r c
    rw [List.contains_cons, ← ih, Lib.indexByte]
    by_cases h : b = c
    · subst h
      simp
    · have h1 : (b == c) = false := by simpa using h
      have h2 : (c == b) = false := by simpa using fun e : c = b => h e.symm
      rw [h1, h2]
      simp only [Bool.false_eq_true, if_false, Bool.false_or]
      by_cases h3 : Lib.indexByte r c = -1
      · rw [h3]; rfl
      · have h4 : (Lib.indexByte r c == -1) = false := by simpa using h3
        rw [h4]
        simp only [Bool.false_eq_true, if_false]
        rw [decide_eq_true (by omega : 0 ≤ Lib.indexByte r c), decide_eq_true (by omega)]

end Go.Proofs.YtgfjbboeappemaaGreatDoor

namespace Go.Proofs.YtgfjbboeappemaaGreatDoor
open Go.RowKit Go

end Go.Proofs.YtgfjbboeappemaaGreatDoor

namespace Go.Proofs.YtgfjbboeappemaaGreatDoor.Own
open Go.RowKit Go

end Go.Proofs.YtgfjbboeappemaaGreatDoor.Own

namespace Go.Proofs.YtgfjbboeappemaaGreatDoor.Own
open Go.RowKit Go

end Go.Proofs.YtgfjbboeappemaaGreatDoor.Own

namespace Go.Proofs.YtgfjbboeappemaaGreatDoor
open Go.RowKit Go

set_option maxHeartbeats 2000000 in
set_option maxRecDepth 100000 in
/-- lex.IsText. -/
theorem own_isText_any (s : ByteArray) (hlen : s.size ≤ 1048576) (w : World) (hT : Lib.Utf8Tabs 1 2 w) :
    Calls Tryz.prog 76 #[.string s] w fun e w' => e = .returned (.bool (LX.isText s.data.toList)) ∧ Below w.heap.size w w' := by
  have hsz : s.data.toList.length = s.size := (Lib.size_eq s).symm
  have HBR := Lib.hid (broken_any s hlen w hT)
  clear hT
  obtain ⟨v, hv⟩ : ∃ v, LX.valid s.data.toList = v := ⟨_, rfl⟩
  have hte : LX.isText s.data.toList = (!s.data.toList.contains 10 && decide (v = s.size)) := by
    unfold LX.isText
    rw [hv, hsz]
  rw [hv] at HBR
  have HTE := Lib.hid hte
  clear hte hv hsz
  have HCO := Lib.hid (fun w => Tryz.strings_Contains_one s 10 w)
  rw [index_contains] at HCO
  by_cases h : v = s.size
  · subst h
    go_enter Tryz.func76, Tryz.ntmps76
    go_wp2_with fail
    refine HBR.out.mono ?_
    rintro e w1 ⟨rfl, hb1⟩
    go_wp2_with fail
    refine (HCO.out w1).mono ?_
    rintro e w2 ⟨rfl, rfl⟩
    go_wp2_with fail
    go_ret
    refine ⟨ret_bool ?_, hb1⟩
    rw [HTE.out]
    simp
  · have h' : ((v : Int) == (s.size : Int)) = false := by simp; omega
    go_enter Tryz.func76, Tryz.ntmps76
    go_wp2_with fail
    refine HBR.out.mono ?_
    rintro e w1 ⟨rfl, hb1⟩
    go_wp2_with fail
    go_ret
    refine ⟨ret_bool ?_, hb1⟩
    rw [HTE.out, decide_eq_false h, Bool.and_false]

end Go.Proofs.YtgfjbboeappemaaGreatDoor

/-
  THE DOCUMENT'S OWN: letter, Words, IsWord.
  THE DOCUMENT'S OWN: Valid, IsText, Quote.
-/
import Derived.Test.YtmodiemmcdocdaaDoorWdA
import Derived.Test.YtmodiemmcdocdaaDoorLxA
import Derived.Test.YtmodiemmcdocdaaDoorShelf
namespace Go.Proofs.YtmodiemmcdocdaaDoor
open Go.RowKit Go

theorem ch_iff (c : UInt8) : MW.ch c = true ↔ (c.toNat = 95 ∨ (48 ≤ c.toNat ∧ c.toNat ≤ 57) ∨ (97 ≤ c.toNat ∧ c.toNat ≤ 122) ∨ (65 ≤ c.toNat ∧ c.toNat ≤ 90)) := by
  constructor
  · intro h
    by_cases hh : (c.toNat = 95 ∨ (48 ≤ c.toNat ∧ c.toNat ≤ 57) ∨ (97 ≤ c.toNat ∧ c.toNat ≤ 122) ∨ (65 ≤ c.toNat ∧ c.toNat ≤ 90))
    · exact hh
    · rw [ch_no rfl (by omega)] at h; cases h
  · intro h
    exact ch_yes rfl h

set_option maxHeartbeats 1000000 in
theorem refLetter_any (c : UInt8) (n : Nat) (hn : c.toNat = n) (w : World) : Calls Tryd.prog 47 #[.int .u8 (n : Int)] w fun e w' => e = .returned (.bool (MW.ch c)) ∧ w' = w := by
  go_enter Tryd.func47, Tryd.ntmps47
  go_wp2
  all_goals
    go_ret
    refine ⟨ret_bool ?_, rfl⟩
    rw [Bool.eq_iff_iff, ch_iff, hn]
    simp
    try omega

/-- The words, as texts. -/
def wordsB : List ByteArray := LX.words.map fun l => ⟨l.toArray⟩

theorem words_any (w : World) : Calls Tryd.prog 61 #[] w fun e w' => e = .returned (.slice (some ⟨w.heap.size, 0, none⟩) 15 15) ∧ w' = w.alloc (.cells (wordsB.map Value.string).toArray 9) := by
  go_enter Tryd.func61, Tryd.ntmps61
  go_wp2
  go_ret
  exact ⟨rfl, rfl⟩

theorem isWord_iff (s : ByteArray) : LX.isWord s.data.toList = true ↔ s ∈ wordsB := by
  unfold LX.isWord wordsB
  rw [List.contains_iff_mem, List.mem_map]
  constructor
  · intro h
    exact ⟨_, h, by cases s; rfl⟩
  · rintro ⟨l, hl, rfl⟩
    exact hl

set_option maxHeartbeats 2000000 in
set_option maxRecDepth 100000 in
theorem isWord_any (s : ByteArray) (w : World) : Calls Tryd.prog 49 #[.string s] w fun e w' => e = .returned (.bool (LX.isWord s.data.toList)) ∧ Lay w w' := by
  obtain ⟨W, hW⟩ : ∃ W, W = w.alloc (.cells (wordsB.map Value.string).toArray 9) := ⟨_, rfl⟩
  have hl : Lay w W := by rw [hW]; exact (Keep.refl _ _).alloc _
  have hc : ∀ k, k < 15 → W.cell? ⟨w.heap.size, k, none⟩ = (wordsB.map Value.string)[k]? := fun k hk => by
    rw [hW, World.cell?_alloc_new, List.getElem?_toArray]
  have HC := Lib.hid hc
  have HL := Lib.hid hl
  have hw := words_any w
  rw [← hW] at hw
  clear hW hc hl
  go_enter Tryd.func49, Tryd.ntmps49
  go_wp2_with fail
  refine hw.mono ?_
  rintro e w' ⟨rfl, rfl⟩
  clear hw
  go_wp2_with fail
  go_loopw [7] (fun vi wr => ∃ k : Nat, vi = .int .i64 k ∧ k ≤ 15 ∧ wr = w' ∧ ∀ x ∈ wordsB.take k, x ≠ s) (fun vi _ => 15 - (intOf vi).toNat)
  case atStart => exact ⟨0, rfl, Nat.zero_le _, rfl, by simp⟩
  case round =>
    obtain ⟨k, rfl, hk, rfl, hz⟩ := hrel
    have HZ := Lib.hid hz
    clear hz
    by_cases hlt : k < 15
    · have hkl : k < wordsB.length := hlt
      obtain ⟨x, hx⟩ : ∃ x, x = wordsB[k] := ⟨_, rfl⟩
      have hcell : wr.cell? ⟨w.heap.size, k, none⟩ = some (.string x) := by
        rw [HC.out k hlt, List.getElem?_map, List.getElem?_eq_getElem hkl, hx]
        rfl
      have HX := Lib.hid hx
      clear hx
      by_cases hxs : x = s
      · subst hxs
        have hb : (x.toList == x.toList) = true := by simp
        go_wp2_with fail
        go_ret
        refine ⟨ret_bool ?_, HL.out⟩
        rw [Eq.comm, isWord_iff, HX.out]
        exact List.getElem_mem hkl
      · have hb : (x.toList == s.toList) = false := by
          rw [beq_eq_false_iff_ne]
          exact fun e => hxs (toList_inj _ _ e)
        go_wp2_with fail
        go_roundw
        case rel =>
          refine ⟨k + 1, by go_num, by omega, by trivial, fun y hy => ?_⟩
          rw [List.take_succ_eq_append_getElem hkl, List.mem_append, List.mem_singleton, ← HX.out] at hy
          rcases hy with hy | rfl
          · exact HZ.out y hy
          · exact hxs
        case measure => simp [intOf]; omega
    · obtain rfl : k = 15 := by omega
      go_wp2_with fail
      go_ret
      refine ⟨ret_bool ?_, HL.out⟩
      rw [Eq.comm, Bool.eq_false_iff, Ne, isWord_iff]
      intro h
      exact HZ.out s (by rw [List.take_of_length_le (by decide)]; exact h) rfl

end Go.Proofs.YtmodiemmcdocdaaDoor

namespace Go.Proofs.YtmodiemmcdocdaaDoor
open Go.RowKit Go

theorem decodeGo_at (s : ByteArray) (pos : Nat) (h : pos < s.size) : Lib.decodeGo (s.extract pos s.size) = MW.dec (s.data.toList.drop pos) := by
  have hsz : (s.extract pos s.size).size = s.size - pos := by simp [ByteArray.size_extract]
  unfold Lib.decodeGo
  rw [if_neg (by omega), MW.dec_at, List.drop_zero]
  congr 1
  rw [ByteArray.data_extract]
  have e : s.data.toList.length = s.size := Array.length_toList
  simp [List.extract_eq_take_drop]
  rw [List.take_of_length_le]
  rw [List.length_drop, e]
  exact Nat.le_refl _

theorem decode_call (s : ByteArray) (pos : Nat) (h : pos < s.size) (c n : Nat) (hd : MW.dec (s.data.toList.drop pos) = (c, n)) (w : World) (hT : Lib.Utf8Tabs 0 1 w) :
    Calls Tryd.prog 53 #[.string (s.extract pos s.size)] w fun e w' => e = .returned (.tuple #[.int .i32 c, .int .i64 n]) ∧ Below w.heap.size w w' := by
  have := Tryd.utf8_DecodeRuneInString (s.extract pos s.size) w hT
  rw [decodeGo_at s pos h, hd] at this
  exact this

set_option maxHeartbeats 2000000 in
set_option maxRecDepth 100000 in
theorem valid_any (s : ByteArray) (hlen : s.size ≤ 1048576) (w : World) (hT : Lib.Utf8Tabs 0 1 w) :
    Calls Tryd.prog 36 #[.string s] w fun e w' => e = .returned (.int .i64 (LX.valid s.data.toList : Nat)) ∧ Below w.heap.size w w' := by
  have hsz : s.data.toList.length = s.size := (Lib.size_eq s).symm
  have HZ := Lib.hid hsz
  clear hsz
  have HT := Lib.hid hT
  clear hT
  go_enter Tryd.func36, Tryd.ntmps36
  go_wp2_with fail
  go_loopw [3] (fun vi wr => ∃ pos : Nat, vi = .int .i64 pos ∧ pos ≤ s.size ∧ Below w.heap.size w wr ∧ LX.valid s.data.toList = pos + LX.valid (s.data.toList.drop pos)) (fun vi _ => s.size - (intOf vi).toNat)
  case atStart => exact ⟨0, rfl, Nat.zero_le _, Below.refl _ _, by simp⟩
  case round =>
    obtain ⟨pos, rfl, hp, hb, hv⟩ := hrel
    have HB := Lib.hid hb
    have HV := Lib.hid hv
    clear hb hv
    by_cases hlt : pos < s.size
    · obtain ⟨c, n, hd⟩ : ∃ c n, MW.dec (s.data.toList.drop pos) = (c, n) := ⟨_, _, rfl⟩
      have hn := MW.dec_drop (l := s.data.toList) (pos := pos) (by rw [HZ.out]; exact hlt)
      rw [hd, HZ.out] at hn
      simp only at hn
      have HC := Lib.hid (decode_call s pos hlt c n hd wr (Utf8Tabs_below HT.out HB.out))
      have hne : s.data.toList.drop pos ≠ [] := by
        intro e
        have := congrArg List.length e
        rw [List.length_drop, HZ.out] at this
        simp at this
        omega
      have hbad : LX.bad (s.data.toList.drop pos) = (decide (c = 65533) && decide (n = 1)) := by unfold LX.bad; rw [hd]
      have hstep := LX.valid_step _ hne
      rw [hd, List.drop_drop] at hstep
      have HBAD := Lib.hid hbad
      have HST := Lib.hid hstep
      clear hd hbad hstep hne
      by_cases hc : c = 65533
      · subst hc
        by_cases h1 : n = 1
        · subst h1
          go_wp2_with fail
          refine HC.out.mono ?_
          rintro e w1 ⟨rfl, hb1⟩
          have HB1 := Lib.hid (HB.out.trans (hb1.mono HB.out.size))
          clear hb1
          go_wp2_with fail
          go_ret
          refine ⟨?_, HB1.out⟩
          rw [HV.out, LX.valid_bad _ (by rw [HBAD.out]; rfl)]
          rfl
        · have h1' : ((n : Int) == 1) = false := by simp; omega
          go_wp2_with fail
          refine HC.out.mono ?_
          rintro e w1 ⟨rfl, hb1⟩
          have HB1 := Lib.hid (HB.out.trans (hb1.mono HB.out.size))
          clear hb1
          go_wp2_with fail
          go_roundw
          case rel => exact ⟨pos + n, by go_num, by omega, HB1.out, by rw [HV.out, HST.out (by rw [HBAD.out]; simp [h1])]; omega⟩
          case measure => simp [intOf]; omega
      · have hc' : ((c : Int) == 65533) = false := by simp; omega
        go_wp2_with fail
        refine HC.out.mono ?_
        rintro e w1 ⟨rfl, hb1⟩
        have HB1 := Lib.hid (HB.out.trans (hb1.mono HB.out.size))
        clear hb1
        go_wp2_with fail
        go_roundw
        case rel => exact ⟨pos + n, by go_num, by omega, HB1.out, by rw [HV.out, HST.out (by rw [HBAD.out]; simp [hc])]; omega⟩
        case measure => simp [intOf]; omega
    · obtain rfl : pos = s.size := by omega
      go_wp2_with fail
      go_ret
      refine ⟨?_, HB.out⟩
      rw [HV.out, List.drop_of_length_le (by rw [HZ.out]; exact Nat.le_refl _)]
      rfl

theorem lf_step {l : List UInt8} {k : Nat} {c : UInt8} {q : List UInt8} (h : l.drop k = c :: q) (z : l.contains 10 = (l.drop k).contains 10) (hc : c ≠ 10) : l.contains 10 = q.contains 10 := by
  rw [z, h, List.contains_cons]
  have : ((10 : UInt8) == c) = false := by rw [beq_eq_false_iff_ne]; exact fun e => hc e.symm
  rw [this, Bool.false_or]

set_option maxHeartbeats 2000000 in
set_option maxRecDepth 100000 in
theorem isText_any (s : ByteArray) (hlen : s.size ≤ 1048576) (w : World) (hT : Lib.Utf8Tabs 0 1 w) :
    Calls Tryd.prog 16 #[.string s] w fun e w' => e = .returned (.bool (LX.isText s.data.toList)) ∧ Below w.heap.size w w' := by
  have hsz : s.data.toList.length = s.size := (Lib.size_eq s).symm
  have HZ := Lib.hid hsz
  clear hsz
  have HVA := Lib.hid (valid_any s hlen w hT)
  clear hT
  go_enter Tryd.func16, Tryd.ntmps16
  go_wp2_with fail
  go_loopw [3] (fun vi wr => ∃ k : Nat, vi = .int .i64 k ∧ k ≤ s.size ∧ wr = w ∧ s.data.toList.contains 10 = (s.data.toList.drop k).contains 10) (fun vi _ => s.size - (intOf vi).toNat)
  case atStart => exact ⟨0, rfl, Nat.zero_le _, rfl, by rw [List.drop_zero]⟩
  case round =>
    obtain ⟨k, rfl, hk, rfl, hz⟩ := hrel
    have HR := Lib.hid hz
    clear hz
    by_cases hlt : k < s.size
    · have HD := Lib.hid (byte_drop s k hlt)
      obtain ⟨c, hc⟩ : ∃ c, c = s[k] := ⟨_, rfl⟩
      obtain ⟨m, hm⟩ : ∃ m, s[k].toNat = m := ⟨_, rfl⟩
      have hix := fun w => idx_run s k m hlt hm w
      rw [← hc] at HD hm
      have HC := Lib.hid hm
      clear hc hm
      by_cases h10 : m = 10
      · subst h10
        go_wp2_with fail
        go_ret
        refine ⟨ret_bool ?_, Below.refl _ _⟩
        unfold LX.isText
        have hc10 : c = 10 := UInt8.toNat_inj.1 HC.out
        rw [HR.out, HD.out, hc10, List.contains_cons]
        simp
      · have h10' : ((m : Int) == 10) = false := by simp; omega
        go_wp2_with fail
        go_roundw
        case rel => exact ⟨k + 1, by go_num, by omega, by trivial, lf_step HD.out HR.out (fun e => h10 (by rw [← HC.out, e]; rfl))⟩
        case measure => simp [intOf]; omega
    · obtain rfl : k = s.size := by omega
      go_wp2_with fail
      refine HVA.out.mono ?_
      rintro e w1 ⟨rfl, hb1⟩
      go_wp2_with fail
      go_ret
      refine ⟨ret_bool ?_, hb1⟩
      unfold LX.isText
      rw [HR.out, List.drop_of_length_le (by rw [HZ.out]; exact Nat.le_refl _), ← HZ.out]
      rw [Bool.eq_iff_iff]
      simp
      try omega

end Go.Proofs.YtmodiemmcdocdaaDoor

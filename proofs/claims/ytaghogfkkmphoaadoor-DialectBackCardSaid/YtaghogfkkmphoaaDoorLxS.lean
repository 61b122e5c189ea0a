/-
  THE DOCUMENT'S OWN: letter, Words, IsWord.
  THE DOCUMENT'S OWN: Valid, IsText, Quote.
-/
import Derived.Test.YtaghogfkkmphoaaDoorWdA
import Derived.Test.YtaghogfkkmphoaaDoorLxA
import Derived.Test.YtaghogfkkmphoaaDoorShelf
namespace Go.Proofs.YtaghogfkkmphoaaDoor
open Go.RowKit Go

end Go.Proofs.YtaghogfkkmphoaaDoor

namespace Go.Proofs.YtaghogfkkmphoaaDoor
open Go.RowKit Go

theorem decodeGo_at (s : ByteArray) (pos : Nat) (h : pos < s.size) : Lib.decodeGo (s.extract pos s.size) = MW.dec (s.data.toList.drop pos) := by
  have hsz : (s.extract pos s.size).size = s.size - pos := by simp [ByteArray.size_extract]
  unfold Lib.decodeGo
  rw [if_neg (by omega), MW.dec_at, List.drop_zero]
  congr 1
  rw [ByteArray.data_extract]
  have e : s.data.toList.length = s.size := Array.length_toList
  simp [List.extract_eq_take_drop]
  rw [List.take_of_length_le]
  rw [List.length_drop, e]
  exact Nat.le_refl _

theorem decode_call (s : ByteArray) (pos : Nat) (h : pos < s.size) (c n : Nat) (hd : MW.dec (s.data.toList.drop pos) = (c, n)) (w : World) (hT : Lib.Utf8Tabs 0 1 w) :
    Calls Tryd.prog 90 #[.string (s.extract pos s.size)] w fun e w' => e = .returned (.tuple #[.int .i32 c, .int .i64 n]) ∧ Below w.heap.size w w' := by
  have := Tryd.utf8_DecodeRuneInString (s.extract pos s.size) w hT
  rw [decodeGo_at s pos h, hd] at this
  exact this

set_option maxHeartbeats 2000000 in
set_option maxRecDepth 100000 in
theorem valid_any (s : ByteArray) (hlen : s.size ≤ 1048576) (w : World) (hT : Lib.Utf8Tabs 0 1 w) :
    Calls Tryd.prog 68 #[.string s] w fun e w' => e = .returned (.int .i64 (LX.valid s.data.toList : Nat)) ∧ Below w.heap.size w w' := by
  have hsz : s.data.toList.length = s.size := (Lib.size_eq s).symm
  have HZ := Lib.hid hsz
  clear hsz
  have HT := Lib.hid hT
  clear hT
  go_enter Tryd.func68, Tryd.ntmps68
  go_wp2_with fail
  go_loopw [3] (fun vi wr => ∃ pos : Nat, vi = .int .i64 pos ∧ pos ≤ s.size ∧ Below w.heap.size w wr ∧ LX.valid s.data.toList = pos + LX.valid (s.data.toList.drop pos)) (fun vi _ => s.size - (intOf vi).toNat)
  case atStart => exact ⟨0, rfl, Nat.zero_le _, Below.refl _ _, by simp⟩
  case round =>
    obtain ⟨pos, rfl, hp, hb, hv⟩ := hrel
    have HB := Lib.hid hb
    have HV := Lib.hid hv
    clear hb hv
    by_cases hlt : pos < s.size
    · obtain ⟨c, n, hd⟩ : ∃ c n, MW.dec (s.data.toList.drop pos) = (c, n) := ⟨_, _, rfl⟩
      have hn := MW.dec_drop (l := s.data.toList) (pos := pos) (by rw [HZ.out]; exact hlt)
      rw [hd, HZ.out] at hn
      simp only at hn
      have HC := Lib.hid (decode_call s pos hlt c n hd wr (Utf8Tabs_below HT.out HB.out))
      have hne : s.data.toList.drop pos ≠ [] := by
        intro e
        have := congrArg List.length e
        rw [List.length_drop, HZ.out] at this
        simp at this
        omega
      have hbad : LX.bad (s.data.toList.drop pos) = (decide (c = 65533) && decide (n = 1)) := by unfold LX.bad; rw [hd]
      have hstep := LX.valid_step _ hne
      rw [hd, List.drop_drop] at hstep
      have HBAD := Lib.hid hbad
      have HST := Lib.hid hstep
      clear hd hbad hstep hne
      by_cases hc : c = 65533
      · subst hc
        by_cases h1 : n = 1
        · subst h1
          go_wp2_with fail
          refine HC.out.mono ?_
          rintro e w1 ⟨rfl, hb1⟩
          have HB1 := Lib.hid (HB.out.trans (hb1.mono HB.out.size))
          clear hb1
          go_wp2_with fail
          go_ret
          refine ⟨?_, HB1.out⟩
          rw [HV.out, LX.valid_bad _ (by rw [HBAD.out]; rfl)]
          rfl
        · have h1' : ((n : Int) == 1) = false := by simp; omega
          go_wp2_with fail
          refine HC.out.mono ?_
          rintro e w1 ⟨rfl, hb1⟩
          have HB1 := Lib.hid (HB.out.trans (hb1.mono HB.out.size))
          clear hb1
          go_wp2_with fail
          go_roundw
          case rel => exact ⟨pos + n, by go_num, by omega, HB1.out, by rw [HV.out, HST.out (by rw [HBAD.out]; simp [h1])]; omega⟩
          case measure => simp [intOf]; omega
      · have hc' : ((c : Int) == 65533) = false := by simp; omega
        go_wp2_with fail
        refine HC.out.mono ?_
        rintro e w1 ⟨rfl, hb1⟩
        have HB1 := Lib.hid (HB.out.trans (hb1.mono HB.out.size))
        clear hb1
        go_wp2_with fail
        go_roundw
        case rel => exact ⟨pos + n, by go_num, by omega, HB1.out, by rw [HV.out, HST.out (by rw [HBAD.out]; simp [hc])]; omega⟩
        case measure => simp [intOf]; omega
    · obtain rfl : pos = s.size := by omega
      go_wp2_with fail
      go_ret
      refine ⟨?_, HB.out⟩
      rw [HV.out, List.drop_of_length_le (by rw [HZ.out]; exact Nat.le_refl _)]
      rfl

theorem lf_step {l : List UInt8} {k : Nat} {c : UInt8} {q : List UInt8} (h : l.drop k = c :: q) (z : l.contains 10 = (l.drop k).contains 10) (hc : c ≠ 10) : l.contains 10 = q.contains 10 := by
  rw [z, h, List.contains_cons]
  have : ((10 : UInt8) == c) = false := by rw [beq_eq_false_iff_ne]; exact fun e => hc e.symm
  rw [this, Bool.false_or]

set_option maxHeartbeats 2000000 in
set_option maxRecDepth 100000 in
theorem isText_any (s : ByteArray) (hlen : s.size ≤ 1048576) (w : World) (hT : Lib.Utf8Tabs 0 1 w) :
    Calls Tryd.prog 34 #[.string s] w fun e w' => e = .returned (.bool (LX.isText s.data.toList)) ∧ Below w.heap.size w w' := by
  have hsz : s.data.toList.length = s.size := (Lib.size_eq s).symm
  have HZ := Lib.hid hsz
  clear hsz
  have HVA := Lib.hid (valid_any s hlen w hT)
  clear hT
  go_enter Tryd.func34, Tryd.ntmps34
  go_wp2_with fail
  go_loopw [3] (fun vi wr => ∃ k : Nat, vi = .int .i64 k ∧ k ≤ s.size ∧ wr = w ∧ s.data.toList.contains 10 = (s.data.toList.drop k).contains 10) (fun vi _ => s.size - (intOf vi).toNat)
  case atStart => exact ⟨0, rfl, Nat.zero_le _, rfl, by rw [List.drop_zero]⟩
  case round =>
    obtain ⟨k, rfl, hk, rfl, hz⟩ := hrel
    have HR := Lib.hid hz
    clear hz
    by_cases hlt : k < s.size
    · have HD := Lib.hid (byte_drop s k hlt)
      obtain ⟨c, hc⟩ : ∃ c, c = s[k] := ⟨_, rfl⟩
      obtain ⟨m, hm⟩ : ∃ m, s[k].toNat = m := ⟨_, rfl⟩
      have hix := fun w => idx_run s k m hlt hm w
      rw [← hc] at HD hm
      have HC := Lib.hid hm
      clear hc hm
      by_cases h10 : m = 10
      · subst h10
        go_wp2_with fail
        go_ret
        refine ⟨ret_bool ?_, Below.refl _ _⟩
        unfold LX.isText
        have hc10 : c = 10 := UInt8.toNat_inj.1 HC.out
        rw [HR.out, HD.out, hc10, List.contains_cons]
        simp
      · have h10' : ((m : Int) == 10) = false := by simp; omega
        go_wp2_with fail
        go_roundw
        case rel => exact ⟨k + 1, by go_num, by omega, by trivial, lf_step HD.out HR.out (fun e => h10 (by rw [← HC.out, e]; rfl))⟩
        case measure => simp [intOf]; omega
    · obtain rfl : k = s.size := by omega
      go_wp2_with fail
      refine HVA.out.mono ?_
      rintro e w1 ⟨rfl, hb1⟩
      go_wp2_with fail
      go_ret
      refine ⟨ret_bool ?_, hb1⟩
      unfold LX.isText
      rw [HR.out, List.drop_of_length_le (by rw [HZ.out]; exact Nat.le_refl _), ← HZ.out]
      rw [Bool.eq_iff_iff]
      simp
      try omega

end Go.Proofs.YtaghogfkkmphoaaDoor

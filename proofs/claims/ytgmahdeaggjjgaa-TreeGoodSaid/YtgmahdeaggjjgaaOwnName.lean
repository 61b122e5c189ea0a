/-
  LETTERS, WORDS, NAMES: word.Letter, word.Is; record's plain, digit, Name.
-/
import Derived.Test.YtgmahdeaggjjgaaRefName
namespace Go.Proofs.Ytgmahdeaggjjgaa
open Go.RowKit Go

theorem iterPos_of {w : World} {k : Nat} {s : ByteArray} {pos : Nat} (h : w.heap[k]? = some (.stringIter s pos)) : w.iterPos k = pos := by simp [World.iterPos, h]

theorem Lay.iterAt {a w : World} (h : Lay a w) {k : Nat} (hk : a.heap.size ≤ k) (s : ByteArray) (p : Nat) : Lay a (w.iterAt k s p) :=
  have b := Lib.below_iterAt (Lay.below h) (k := k) hk s p
  ⟨b.os, b.tape, b.output, b.size, h.drawn, fun k hk _ => b.block k hk⟩

def letterI (c : Int) : Bool := if 128 ≤ c then c != 65533 else (decide (97 ≤ c) && decide (c ≤ 122)) || (decide (65 ≤ c) && decide (c ≤ 90)) || (decide (48 ≤ c) && decide (c ≤ 57)) || c == 95
theorem letterI_nat (n : Nat) : letterI n = MW.letter n := by
  unfold letterI MW.letter
  by_cases h : 128 ≤ n
  · rw [if_pos h, if_pos (by omega)]
    rw [Bool.eq_iff_iff]; simp; omega
  · rw [if_neg h, if_neg (by omega)]
    rw [Bool.eq_iff_iff]; simp; omega

theorem letterI_iff (c : Int) : letterI c = true ↔ (128 ≤ c ∧ c ≠ 65533) ∨ (97 ≤ c ∧ c ≤ 122) ∨ (65 ≤ c ∧ c ≤ 90) ∨ (48 ≤ c ∧ c ≤ 57) ∨ c = 95 := by
  unfold letterI
  split
  · simp; omega
  · simp; omega

set_option maxHeartbeats 1000000 in
theorem own_letter_any (c : Int) (w : World) : Calls Try.prog 41 #[.int .i32 c] w fun e w' => e = .returned (.bool (letterI c)) ∧ w = w' := by
  go_enter Try.func41, Try.ntmps41
  go_wp2
  all_goals
    go_ret
    refine ⟨ret_bool ?_, rfl⟩
    rw [Bool.eq_iff_iff, letterI_iff]
    simp
    try omega

theorem own_letter_nat (c : Nat) (b : Bool) (h : MW.letter c = b) (w : World) : Calls Try.prog 41 #[.int .i32 c] w fun e w' => e = .returned (.bool b) ∧ w = w' := by
  rw [← h, ← letterI_nat]
  exact own_letter_any c w

/-- What a step of a range over a string hands over. -/
theorem next_at (w : World) (k : Nat) (s : ByteArray) (pos : Nat) (ty : TypeId) (hk : w.heap[k]? = some (.stringIter s pos)) (h : pos < s.size) (c n : Nat) (hd : MW.dec (s.data.toList.drop pos) = (c, n)) :
    (Instr.next (.pointer (some ⟨k, 0, none⟩)) true ty).run Try.prog w = .ok (.tuple #[.bool true, .int .i64 pos, .int .i32 c]) (w.iterAt k s (pos + n)) := by
  have := Lib.run_next_any_at (P := Try.prog) w k s pos ty hk h
  rw [MW.dec_at, hd] at this
  exact this

set_option maxHeartbeats 1000000 in
/-- word.Is. -/
theorem own_is_any (s : ByteArray) (_hlen : s.size ≤ 70368744177664) (w : World) : Calls Try.prog 38 #[.string s] w fun e w' => e = .returned (.bool (MW.is s.data.toList)) ∧ Lay w w' := by
  have hsz : s.data.toList.length = s.size := Array.length_toList
  have HZ := Lib.hid hsz
  clear hsz
  go_enter Try.func38, Try.ntmps38
  go_wp2
  go_loopw [] (fun wr => ∃ pos : Nat, wr.heap[w.heap.size]? = some (.stringIter s pos) ∧ Lay w wr ∧ pos ≤ s.size ∧ MW.all s.data.toList = MW.all (s.data.toList.drop pos)) (fun wr => s.size - wr.iterPos w.heap.size)
  case atStart => exact ⟨0, World.iter_heap w s 0, (Keep.refl _ _).alloc _, Nat.zero_le _, rfl⟩
  case round =>
    obtain ⟨pos, hit, hb, hp, ha⟩ := hrel
    by_cases hlt : pos < s.size
    · obtain ⟨c, n, hd⟩ : ∃ c n, MW.dec (s.data.toList.drop pos) = (c, n) := ⟨_, _, rfl⟩
      have hdd := MW.dec_drop (l := s.data.toList) (pos := pos) (by rw [HZ.out]; exact hlt)
      rw [hd, HZ.out] at hdd
      have hac := MW.all_cons (s.data.toList.drop pos) (fun e => by have := congrArg List.length e; simp at this; omega)
      rw [hd, List.drop_drop] at hac
      have HA := Lib.hid ha
      have HAC := Lib.hid hac
      have HIT := Lib.hid (Lib.iterAt_heap wr _ s pos (pos + n) hit)
      have hnx := fun ty => next_at wr _ s pos ty hit hlt c n hd
      have HB := Lib.hid (hb.iterAt (k := w.heap.size) (Nat.le_refl _) s (pos + n))
      have HP0 := Lib.hid (iterPos_of hit)
      have HP1 := Lib.hid (iterPos_of HIT.out)
      clear ha hac hd hit hb
      by_cases hl : MW.letter c = true
      · have HL := Lib.hid (own_letter_nat c true hl (wr.iterAt w.heap.size s (pos + n)))
        have HL0 := Lib.hid hl
        clear hl
        go_wp2_with (go_at_call 41; refine HL.out.mono ?_; rintro e w' ⟨rfl, rfl⟩)
        go_roundw
        case rel => exact ⟨pos + n, HIT.out, HB.out, hdd.2, by rw [HA.out, HAC.out, HL0.out]; rfl⟩
        case measure => rw [HP0.out, HP1.out]; omega
      · have hl := Bool.eq_false_iff.2 hl
        have HL := Lib.hid (own_letter_nat c false hl (wr.iterAt w.heap.size s (pos + n)))
        have HL0 := Lib.hid hl
        clear hl
        go_wp2_with (go_at_call 41; refine HL.out.mono ?_; rintro e w' ⟨rfl, rfl⟩)
        go_ret
        refine ⟨ret_bool ?_, HB.out⟩
        unfold MW.is
        rw [HA.out, HAC.out, HL0.out]
        rfl
    · obtain rfl : pos = s.size := by omega
      have hnx := fun ty => Lib.run_next_end_at (P := Try.prog) wr _ s s.size ty hit hlt
      have HA := Lib.hid ha
      have HB := Lib.hid hb
      clear ha hb hit
      go_wp2
      go_ret
      refine ⟨ret_bool ?_, HB.out⟩
      unfold MW.is
      rw [HA.out, List.drop_of_length_le (by rw [HZ.out]; exact Nat.le_refl _)]
      rw [ByteArray.toList_eq]
      rfl


set_option maxHeartbeats 1000000 in
theorem own_digit_any (c : UInt8) (w : World) : Calls Try.prog 40 #[.int .u8 c.toNat] w fun e w' => e = .returned (.bool (MW.dig c)) ∧ w' = w := by
  unfold MW.dig
  generalize c.toNat = n
  by_cases h1 : 48 ≤ n
  · by_cases h2 : n ≤ 57
    · go_enter Try.func40, Try.ntmps40
      go_wp2
      go_ret
      exact ⟨by simp [h1, h2]; omega, rfl⟩
    · go_enter Try.func40, Try.ntmps40
      go_wp2
      go_ret
      exact ⟨by simp [h1, h2]; omega, rfl⟩
  · go_enter Try.func40, Try.ntmps40
    go_wp2
    go_ret
    exact ⟨by simp, rfl⟩

set_option maxHeartbeats 1000000 in
set_option maxRecDepth 100000 in
theorem own_plain_any (s : ByteArray) (hs : s.size ≤ 1000000) (w : World) : Calls Try.prog 39 #[.string s] w fun e w' => e = .returned (.bool (s.data.toList.all MW.low)) ∧ w' = w := by
  go_enter Try.func39, Try.ntmps39
  go_wp2_with fail
  go_loopw [6] (fun vi wr => ∃ k : Nat, vi = .int .i64 k ∧ k ≤ s.size ∧ wr = w ∧ s.data.toList.all MW.low = (s.data.toList.drop k).all MW.low) (fun vi _ => s.size - (intOf vi).toNat)
  case atStart => exact ⟨0, rfl, Nat.zero_le _, rfl, by simp⟩
  case round =>
    obtain ⟨k, rfl, hk, rfl, hz⟩ := hrel
    have HZ := Lib.hid hz
    clear hz
    by_cases hlt : k < s.size
    · have HD := Lib.hid (byte_drop s k hlt)
      obtain ⟨c, hc⟩ : ∃ c, c = s[k] := ⟨_, rfl⟩
      obtain ⟨n, hn⟩ : ∃ n, s[k].toNat = n := ⟨_, rfl⟩
      have HN := Lib.hid hn
      have hix := fun w => idx_run s k n hlt hn w
      rw [← hc] at HD hn
      have HC := Lib.hid hn
      clear hc hn HN
      by_cases h : 128 ≤ n
      · go_wp2_with fail
        go_ret
        refine ⟨ret_bool ?_, rfl⟩
        rw [HZ.out, HD.out, List.all_cons, show MW.low c = false from by unfold MW.low; rw [HC.out]; simp; omega]
        rfl
      · go_wp2_with fail
        go_roundw
        case rel =>
          refine ⟨k + 1, by go_num, by omega, by trivial, ?_⟩
          rw [HZ.out, HD.out, List.all_cons, show MW.low c = true from by unfold MW.low; rw [HC.out]; simp; omega, Bool.true_and]
        case measure => simp [intOf]; omega
    · obtain rfl : k = s.size := by omega
      go_wp2_with fail
      go_ret
      refine ⟨?_, rfl⟩
      rw [HZ.out, List.drop_of_length_le (by rw [← Lib.size_eq]; exact Nat.le_refl _)]
      rfl

theorem own_is_empty (l : List UInt8) (h : MW.is l = true) : l ≠ [] := by
  rintro rfl
  cases h

set_option maxHeartbeats 2000000 in
/-- record.Name. -/
theorem own_name_any (s : ByteArray) (w : World) : Calls Try.prog 36 #[.string s] w fun e w' => e = .returned (.bool (MW.name s.data.toList)) ∧ Lay w w' := by
  have hsz : s.data.toList.length = s.size := (Lib.size_eq s).symm
  by_cases h20 : s.size ≤ 20
  · have h20' : s.data.toList.length ≤ 20 := by omega
    cases hI : MW.is s.data.toList with
    | false =>
      have HI := Lib.hid hI
      have hr : MW.name s.data.toList = false := by
        cases hl : s.data.toList.all MW.low with
        | false => exact MW.name_high _ hl
        | true => exact MW.name_is _ hl hI
      have HR := Lib.hid hr
      clear hI hr hsz h20'
      go_enter Try.func36, Try.ntmps36
      go_wp2_with (go_at_call 38; refine (own_is_any s (by omega) _).mono ?_; rw [HI.out]; rintro e w' ⟨rfl, hl⟩)
      go_ret
      exact ⟨by rw [HR.out]; rfl, hl⟩
    | true =>
      have HI := Lib.hid hI
      cases hl : s.data.toList.all MW.low with
      | false =>
        have HP := Lib.hid hl
        have hr := MW.name_high _ hl
        have HR := Lib.hid hr
        clear hI hr hl hsz h20'
        go_enter Try.func36, Try.ntmps36
        go_wp2_with (first | (go_at_call 38; refine (own_is_any s (by omega) _).mono ?_; rw [HI.out]; rintro e w' ⟨rfl, hl⟩) | (go_at_call 39; refine (own_plain_any s (by omega) _).mono ?_; rw [HP.out]; rintro e w' ⟨rfl, rfl⟩))
        go_ret
        exact ⟨by rw [HR.out]; rfl, hl⟩
      | true =>
        have HP := Lib.hid hl
        have hr := MW.name_of _ h20' hl
        rw [hI, Bool.true_and] at hr
        have h0 : 0 < s.size := by
          have := own_is_empty _ hI
          rw [← hsz]
          exact List.length_pos_iff.2 this
        have hd : s.data.toList.headD 0 = s[0] := by
          have := byte_drop s 0 h0
          rw [List.drop_zero] at this
          rw [this]
          rfl
        rw [hd] at hr
        have HR := Lib.hid hr
        obtain ⟨n, hn⟩ : ∃ n, s[0].toNat = n := ⟨_, rfl⟩
        have hix : ∀ w, (Instr.index 9 (.string s) (.int .i64 0)).run Try.prog w = .ok (.int .u8 (n : Int)) w := fun w => idx_run s 0 n h0 hn w
        have hD : ∀ w, Calls Try.prog 40 #[.int .u8 (n : Int)] w fun e w' => e = .returned (.bool (MW.dig s[0])) ∧ w' = w := fun w => by rw [← hn]; exact own_digit_any s[0] w
        have HD := Lib.hid hD
        clear hI hr hl hsz h20' hd hn hD
        cases hg : MW.dig s[0]
        all_goals
          rw [hg] at HD HR
          clear hg
          go_enter Try.func36, Try.ntmps36
          go_wp2_with (first | (go_at_call 38; refine (own_is_any s (by omega) _).mono ?_; rw [HI.out]; rintro e w' ⟨rfl, hl⟩) | (go_at_call 39; refine (own_plain_any s (by omega) _).mono ?_; rw [HP.out]; rintro e w' ⟨rfl, rfl⟩) | (go_at_call 40; refine (HD.out _).mono ?_; rintro e w' ⟨rfl, rfl⟩))
          go_ret
          exact ⟨by rw [HR.out]; rfl, hl⟩
  · have hr := MW.name_long s.data.toList (by omega)
    have HR := Lib.hid hr
    clear hr hsz
    go_enter Try.func36, Try.ntmps36
    go_wp2_with fail
    go_ret
    exact ⟨by rw [HR.out]; rfl, Keep.refl _ _⟩

end Go.Proofs.Ytgmahdeaggjjgaa

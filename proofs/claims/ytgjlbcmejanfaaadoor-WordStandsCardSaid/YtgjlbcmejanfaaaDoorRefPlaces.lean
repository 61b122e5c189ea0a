/-
  magpieref03.Places: WHERE EACH WORD BEGINS, AND ENDS, one behind the other.
-/
import Derived.Test.YtgjlbcmejanfaaaDoorTexts
import Derived.Test.YtgjlbcmejanfaaaDoorShelf
namespace Go.Proofs.YtgjlbcmejanfaaaDoor
open Go.RowKit Go

theorem info3 : (Tryd.prog.info? 3).map (fun i => (i.zero, i.size, i.bytes)) = some (some (.int .i64 0), 1, 8) := by kernel_rfl
theorem elem3 : ∃ i, Elem Tryd.prog 33 3 i (.int .i64 0) 8 := by
  obtain ⟨i, hi, hz, hsz, hby⟩ := info_parts info3
  exact ⟨i, Tryd.underlying33, hi, hz, hsz, hby, rfl⟩

/-- Numbers, as cells. -/
def ints (l : List Nat) : List Value := l.map fun (n : Nat) => Value.int .i64 (n : Int)
theorem ints_length (l : List Nat) : (ints l).length = l.length := by simp [ints]
theorem ints_snoc (l : List Nat) (n : Nat) : ints (l ++ [n]) = ints l ++ [.int .i64 n] := by simp [ints]

/-- Places, one behind the other; and where the word that is open begins. -/
def flat (ps : List (Nat × Nat)) (fr : Option Nat) : List Nat := (ps.flatMap fun p => [p.1, p.2]) ++ fr.toList
theorem flat_open (ps : List (Nat × Nat)) (pos : Nat) : flat ps (some pos) = flat ps none ++ [pos] := by simp [flat]
theorem flat_shut (ps : List (Nat × Nat)) (k pos : Nat) : flat (ps ++ [(k, pos)]) none = flat ps (some k) ++ [pos] := by simp [flat]

theorem decodeGo_at (s : ByteArray) (pos : Nat) (h : pos < s.size) : Lib.decodeGo (s.extract pos s.size) = M.dec (s.data.toList.drop pos) := by
  have hsz : (s.extract pos s.size).size = s.size - pos := by simp [ByteArray.size_extract]
  unfold Lib.decodeGo
  rw [if_neg (by omega), M.dec_at, List.drop_zero]
  congr 1
  rw [ByteArray.data_extract]
  have e : s.data.toList.length = s.size := Array.length_toList
  simp [List.extract_eq_take_drop]
  rw [List.take_of_length_le]
  rw [List.length_drop, e]
  exact Nat.le_refl _

theorem decode_call (s : ByteArray) (pos : Nat) (h : pos < s.size) (c n : Nat) (hd : M.dec (s.data.toList.drop pos) = (c, n)) (w : World) (hT : Lib.Utf8Tabs 1 2 w) :
    Calls Tryd.prog 23 #[.string (s.extract pos s.size)] w fun e w' => e = .returned (.tuple #[.int .i32 c, .int .i64 n]) ∧ Below w.heap.size w w' := by
  have := Tryd.utf8_DecodeRuneInString (s.extract pos s.size) w hT
  rw [decodeGo_at s pos h, hd] at this
  exact this

theorem refLetter_nat (c : Nat) (b : Bool) (h : M.letter c = b) (w : World) : Calls Tryd.prog 24 #[.int .i32 c] w fun e w' => e = .returned (.bool b) ∧ w = w' := by
  rw [← h, ← letterI_nat]
  exact refLetter_any c w

/-- What holds at the head of a round. -/
def RRel (l : List UInt8) (s : ByteArray) (w : World) (v vo vi : Value) (wr : World) : Prop :=
  ∃ (pos : Nat) (fr : Option Nat) (pre : List (Nat × Nat)), vi = .int .i64 pos ∧ vo = .bool fr.isSome ∧ pos ≤ s.size ∧ pre ++ M.P l pos fr = M.places l ∧ (flat pre fr).length ≤ pos ∧
    Rs (From w.heap.size) wr v (ints (flat pre fr)) ∧ Below w.heap.size w wr

/-- Behind an append. -/
theorem grown {w W w2 : World} {v v' : Value} {xs ys : List Value} {o : Obj} (hB : Below w.heap.size w W) (hr : Rs (From w.heap.size) W v xs) (hown : Rs (fun k => From w.heap.size k ∧ (At v k ∨ W.heap.size + 1 ≤ k)) w2 v' ys) (hk : Keep (At v) (W.alloc o) w2) :
    Rs (From w.heap.size) w2 v' ys ∧ Below w.heap.size w w2 :=
  ⟨hown.mono fun _ h _ => h.1, (hB.alloc hB.size o).trans (hk.below (fun k h => (hr.at h).1) (by have := hB.size; simp; omega))⟩

theorem src_int (w : World) (n : Nat) : Src Tryd.prog 1 33 (.slice (some ⟨w.heap.size, 0, none⟩) 1 1) [Value.int .i64 n].length [Value.int .i64 n] (w.alloc (.cells #[.int .i64 n] 3)) :=
  (rs_new (P := Tryd.prog) w [.int .i64 n] 3 (by simp)).src Tryd.underlying33 (by simp [Value.oneCell'])

set_option maxHeartbeats 4000000 in
theorem refPlaces_any (s : ByteArray) (hlen : s.size ≤ 1048576) (w : World) (hT : Lib.Utf8Tabs 1 2 w) :
    Calls Tryd.prog 17 #[.string s] w fun e w' => ∃ v, e = .returned v ∧ Rs (From w.heap.size) w' v (ints (flat (M.places s.data.toList) none)) ∧ Below w.heap.size w w' := by
  obtain ⟨i3, E3⟩ := elem3
  have hsz : s.data.toList.length = s.size := Array.length_toList
  have HZ := Lib.hid hsz
  clear hsz
  have HT := Lib.hid hT
  clear hT
  go_enter Tryd.func17, Tryd.ntmps17
  go_wp2
  go_loopw [3, 4, 5] (fun v vo vi wr => RRel s.data.toList s w v vo vi wr) (fun _ _ vi _ => s.size - (intOf vi).toNat)
  case atStart => exact ⟨0, none, [], rfl, rfl, Nat.zero_le _, rfl, Nat.le_refl _, Rs.nil _ _, Below.refl _ _⟩
  case round =>
    obtain ⟨pos, fr, pre, rfl, rfl, hp, hP, hfl, hr, hb⟩ := hrel
    have HPP := Lib.hid hP
    have HR := Lib.hid hr
    have HB := Lib.hid hb
    have HIL := Lib.hid (ints_length (flat pre fr))
    clear hP hr hb
    by_cases hlt : pos < s.size
    · obtain ⟨c, n, hd⟩ : ∃ c n, M.dec (s.data.toList.drop pos) = (c, n) := ⟨_, _, rfl⟩
      have hpl : pos < s.data.toList.length := by rw [HZ.out]; exact hlt
      have hdd := M.dec_drop hpl
      have hPl := M.P_letter fr hpl
      have hPo := M.P_other fr hpl
      rw [hd] at hdd hPl hPo
      rw [HZ.out] at hdd
      have HC := Lib.hid (decode_call s pos hlt c n hd wr (Utf8Tabs_below HT.out HB.out))
      clear hd
      by_cases hl : M.letter c = true
      · have HPL := Lib.hid (hPl hl)
        have HL := Lib.hid (fun w1 => refLetter_nat c true hl w1)
        clear hPl hPo hl
        cases fr with
        | none =>
          go_wp2_with fail
          refine HC.out.mono ?_
          rintro e w1 ⟨rfl, hb1⟩
          have HB1 := Lib.hid (HB.out.trans (hb1.mono HB.out.size))
          have HR1 := Lib.hid (HR.out.below (Nat.le_refl _) hb1)
          have HSRC := Lib.hid (src_int w1 pos)
          clear hb1
          go_wp2_with (first | (go_at_call 24; refine (HL.out _).mono ?_; rintro e w' ⟨rfl, rfl⟩) | (at_builtin; refine wpList_append_rs E3 _ rfl _ _ 33 rfl rfl (HR1.out.alloc _) ?c1 (.slice (some ⟨w1.heap.size, 0, none⟩) 1 1) [.int .i64 pos] rfl HSRC.out ?c2 ?c3 ?_))
          case c1 =>
            intro k hk
            have := HB1.out.size
            show w.heap.size ≤ k
            first | omega | (simp at hk; omega)
          case c2 => rw [HIL.out]; first | omega | (simp only [List.length_cons, List.length_nil]; omega)
          case c3 => rw [HIL.out]; first | omega | (simp only [List.length_cons, List.length_nil]; omega)
          intro v' w2 hown hk
          obtain ⟨hr2, hb2⟩ := grown HB1.out HR1.out hown hk
          rw [← ints_snoc, ← flat_open] at hr2
          have HR2 := Lib.hid hr2
          have HB2 := Lib.hid hb2
          clear hr2 hb2 hown hk
          go_wp2
          go_roundw
          case rel => exact ⟨pos + n, some pos, pre, by go_num, rfl, hdd.2, by rw [← HPP.out, HPL.out]; rfl, by rw [flat_open, List.length_append]; simp; omega, HR2.out, HB2.out⟩
          case measure => simp [intOf]; omega
        | some k =>
          go_wp2_with fail
          refine HC.out.mono ?_
          rintro e w1 ⟨rfl, hb1⟩
          have HB1 := Lib.hid (HB.out.trans (hb1.mono HB.out.size))
          have HR1 := Lib.hid (HR.out.below (Nat.le_refl _) hb1)
          clear hb1
          go_wp2_with (go_at_call 24; refine (HL.out _).mono ?_; rintro e w' ⟨rfl, rfl⟩)
          go_roundw
          case rel => exact ⟨pos + n, some k, pre, by go_num, rfl, hdd.2, by rw [← HPP.out, HPL.out]; rfl, by omega, HR1.out, HB1.out⟩
          case measure => simp [intOf]; omega
      · have hl := Bool.eq_false_iff.2 hl
        have HPL := Lib.hid (hPo hl)
        have HL := Lib.hid (fun w1 => refLetter_nat c false hl w1)
        clear hPl hPo hl
        cases fr with
        | none =>
          go_wp2_with fail
          refine HC.out.mono ?_
          rintro e w1 ⟨rfl, hb1⟩
          have HB1 := Lib.hid (HB.out.trans (hb1.mono HB.out.size))
          have HR1 := Lib.hid (HR.out.below (Nat.le_refl _) hb1)
          clear hb1
          go_wp2_with (go_at_call 24; refine (HL.out _).mono ?_; rintro e w' ⟨rfl, rfl⟩)
          go_roundw
          case rel => exact ⟨pos + n, none, pre, by go_num, rfl, hdd.2, by rw [← HPP.out, HPL.out]; rfl, by omega, HR1.out, HB1.out⟩
          case measure => simp [intOf]; omega
        | some k =>
          go_wp2_with fail
          refine HC.out.mono ?_
          rintro e w1 ⟨rfl, hb1⟩
          have HB1 := Lib.hid (HB.out.trans (hb1.mono HB.out.size))
          have HR1 := Lib.hid (HR.out.below (Nat.le_refl _) hb1)
          have HSRC := Lib.hid (src_int w1 pos)
          clear hb1
          go_wp2_with (first | (go_at_call 24; refine (HL.out _).mono ?_; rintro e w' ⟨rfl, rfl⟩) | (at_builtin; refine wpList_append_rs E3 _ rfl _ _ 33 rfl rfl (HR1.out.alloc _) ?d1 (.slice (some ⟨w1.heap.size, 0, none⟩) 1 1) [.int .i64 pos] rfl HSRC.out ?d2 ?d3 ?_))
          case d1 =>
            intro k hk
            have := HB1.out.size
            show w.heap.size ≤ k
            first | omega | (simp at hk; omega)
          case d2 => rw [HIL.out]; first | omega | (simp only [List.length_cons, List.length_nil]; omega)
          case d3 => rw [HIL.out]; first | omega | (simp only [List.length_cons, List.length_nil]; omega)
          intro v' w2 hown hk
          obtain ⟨hr2, hb2⟩ := grown HB1.out HR1.out hown hk
          rw [← ints_snoc, ← flat_shut] at hr2
          have HR2 := Lib.hid hr2
          have HB2 := Lib.hid hb2
          clear hr2 hb2 hown hk
          go_wp2
          go_roundw
          case rel => exact ⟨pos + n, none, pre ++ [(k, pos)], by go_num, rfl, hdd.2, by rw [← HPP.out, HPL.out, List.append_assoc]; rfl, by rw [flat_shut, List.length_append]; simp; omega, HR2.out, HB2.out⟩
          case measure => simp [intOf]; omega
    · obtain rfl : pos = s.size := by omega
      have hE := M.P_end (l := s.data.toList) (pos := s.size) fr (by rw [HZ.out]; exact hlt)
      rw [HZ.out] at hE
      have HE := Lib.hid hE
      clear hE
      cases fr with
      | none =>
        go_wp2
        go_ret
        refine ⟨u3, rfl, ?_, HB.out⟩
        rw [← HPP.out, HE.out]
        simpa [M.finp] using HR.out
      | some k =>
        have HSRC := Lib.hid (src_int wr s.size)
        go_wp2_with (at_builtin; refine wpList_append_rs E3 _ rfl _ _ 33 rfl rfl (HR.out.alloc _) ?f1 (.slice (some ⟨wr.heap.size, 0, none⟩) 1 1) [.int .i64 s.size] rfl HSRC.out ?f2 ?f3 ?_)
        case f1 =>
          intro k hk
          have := HB.out.size
          show w.heap.size ≤ k
          first | omega | (simp at hk; omega)
        case f2 => rw [HIL.out]; first | omega | (simp only [List.length_cons, List.length_nil]; omega)
        case f3 => rw [HIL.out]; first | omega | (simp only [List.length_cons, List.length_nil]; omega)
        intro v' w2 hown hk
        obtain ⟨hr2, hb2⟩ := grown HB.out HR.out hown hk
        rw [← ints_snoc, ← flat_shut] at hr2
        have HR2 := Lib.hid hr2
        have HB2 := Lib.hid hb2
        clear hr2 hb2 hown hk
        go_wp2
        go_ret
        refine ⟨v', rfl, ?_, HB2.out⟩
        rw [← HPP.out, HE.out]
        exact HR2.out

end Go.Proofs.YtgjlbcmejanfaaaDoor

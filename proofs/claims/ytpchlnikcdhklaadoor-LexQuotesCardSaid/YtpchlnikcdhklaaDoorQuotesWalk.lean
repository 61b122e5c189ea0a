/-
  magpielaw05.LexQuotes: the walk; what package lex's calls do stands ahead of it ('LexCalls').
-/
import Derived.Test.YtpchlnikcdhklaaDoorLexed
namespace Go.Proofs.YtpchlnikcdhklaaDoor
open Go.RowKit Go

set_option maxHeartbeats 8000000 in
set_option maxRecDepth 100000 in
theorem quotes_walk (H : LexCalls) (s : ByteArray) (w : World) (hT : Tabs w) : Calls Tryd.prog 4 #[.string s] w fun e w' => e = .returned (.bool true) ∧ Below w.heap.size w w' := by
  have HT := Lib.hid hT
  have HH := Lib.hid H
  have HA := Lib.hid (alive_any H w hT)
  clear hT
  by_cases h500 : 500 < s.size
  · have hd : decide (500 < (s.size : Int)) = true := by simp; omega
    go_enter Tryd.func4, Tryd.ntmps4
    go_wp2_with (go_at_call 8; refine HA.out.mono ?_; rintro e w1 ⟨rfl, hb1⟩)
    go_ret
    exact ⟨rfl, hb1⟩
  have hd : decide (500 < (s.size : Int)) = false := by simp; omega
  have hsz : s.data.toList.length = s.size := (Lib.size_eq s).symm
  obtain ⟨Q, hQ⟩ : ∃ Q : ByteArray, Q = ⟨(LX.quote s.data.toList).toArray⟩ := ⟨_, rfl⟩
  have HQ : Hid (Q.data.toList = LX.quote s.data.toList) := Lib.hid (by rw [hQ])
  have HQS : Hid (Q = ⟨(LX.quote s.data.toList).toArray⟩) := Lib.hid hQ
  have hqs : Q.size ≤ 1002 := by
    rw [Lib.size_eq, HQ.out]
    unfold LX.quote
    have := (LX.esc_len s.data.toList).2
    split
    · simp only [List.length_cons, List.length_append, List.length_nil]; omega
    · simp
  clear hQ hsz
  go_enter Tryd.func4, Tryd.ntmps4
  go_wp2_with (go_at_call 8; refine HA.out.mono ?_; rintro e w1 ⟨rfl, hb1⟩)
  have HB1 := Lib.hid hb1
  clear hb1
  refine (HH.out.quote s (by omega) w1 (Tabs.next HT.out HB1.out)).mono ?_
  rintro e w2 ⟨rfl, hb2⟩
  have HB2 := Lib.hid (HB1.out.trans (hb2.mono HB1.out.size))
  clear hb2
  rw [← HQS.out]
  go_wp2_with fail
  refine (HH.out.word s (by omega) w2 (Tabs.next HT.out HB2.out)).mono ?_
  rintro e w3 ⟨rfl, hb3⟩
  have HB3 := Lib.hid (HB2.out.trans (hb3.mono HB2.out.size))
  clear hb3
  go_wp2_with fail
  refine (isWord_any s w3).mono ?_
  rintro e w4 ⟨rfl, hb4⟩
  have HB4 := Lib.hid (HB3.out.trans (hb4.below.mono HB3.out.size))
  clear hb4
  have hbw : (LX.isWord s.data.toList != LX.isWord s.data.toList) = false := by simp
  go_wp2_with fail
  refine (HH.out.text s (by omega) w4 (Tabs.next HT.out HB4.out)).mono ?_
  rintro e w5 ⟨rfl, hb5⟩
  have HB5 := Lib.hid (HB4.out.trans (hb5.mono HB4.out.size))
  clear hb5
  go_wp2_with fail
  refine (isText_any s (by omega) w5 (Tabs.next HT.out HB5.out).utf).mono ?_
  rintro e w6 ⟨rfl, hb6⟩
  have HB6 := Lib.hid (HB5.out.trans (hb6.mono HB5.out.size))
  clear hb6
  have hbt2 : (LX.isText s.data.toList != LX.isText s.data.toList) = false := by simp
  go_wp2_with fail
  refine (quote_any s (by omega) w6 (Tabs.next HT.out HB6.out).utf).mono ?_
  rintro e w7 ⟨rfl, hb7⟩
  have HB7 := Lib.hid (HB6.out.trans (hb7.mono HB6.out.size))
  clear hb7
  rw [← HQS.out]
  have CT := isText_any s (by omega) w7 (Tabs.next HT.out HB7.out).utf
  cases hbt : LX.isText s.data.toList with
  | false =>
    have hq0 : Q = ⟨#[]⟩ := toList_inj _ _ (by rw [Lib.toList_data, Lib.toList_data, HQ.out]; unfold LX.quote; rw [hbt]; rfl)
    rw [hbt] at CT
    subst hq0
    clear hbt
    go_wp2_with fail
    refine CT.mono ?_
    rintro e w8 ⟨rfl, hb8⟩
    go_wp2_with fail
    go_ret
    exact ⟨rfl, HB7.out.trans (hb8.mono HB7.out.size)⟩
  | true =>
    rw [hbt] at CT
    have HLX := Lib.hid (LX.lex_quote hbt (by rw [← HQ.out, ← Lib.size_eq]; omega))
    have HQE := Lib.hid (LX.quote_of hbt)
    clear hbt
    go_wp2_with fail
    refine CT.mono ?_
    rintro e w8 ⟨rfl, hb8⟩
    have HB8 := Lib.hid (HB7.out.trans (hb8.mono HB7.out.size))
    clear hb8 CT
    go_wp2_with fail
    refine (HH.out.ok HQ.out (by omega) HLX.out w8 (Tabs.next HT.out HB8.out)).mono ?_
    rintro e w9 ⟨v, rfl, ht, hb9⟩
    obtain ⟨a, c, rfl, h0 | ⟨b, off, rfl, hlt, hc⟩⟩ := ht
    · cases h0
    have t0 := (hc 0 (by simp)).1
    have t1 := (hc 0 (by simp)).2.1
    have t3 := (hc 1 (by simp)).2.2.2
    have es : (⟨s.data.toList.toArray⟩ : ByteArray) = s := Lib.mk_data s
    have eq : (((LX.quote s.data.toList).length + 1 : Nat) : Int) = (Q.size : Int) + 1 := by rw [← HQ.out, ← Lib.size_eq]; rfl
    simp only [List.getElem_cons_zero, List.getElem_cons_succ, Nat.zero_mul, Nat.add_zero, Nat.one_mul] at t0 t1 t3
    rw [es] at t1
    rw [eq] at t3
    have HB9 := Lib.hid (HB8.out.trans (hb9.mono HB8.out.size))
    clear hc hb9 es eq
    go_wp2_with fail
    go_ret
    exact ⟨rfl, HB9.out.alloc HB9.out.size _⟩

end Go.Proofs.YtpchlnikcdhklaaDoor

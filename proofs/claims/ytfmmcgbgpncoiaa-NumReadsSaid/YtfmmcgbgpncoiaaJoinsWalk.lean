/-
  magpielaw01.NumJoins: the walk.
-/
import Derived.Test.YtfmmcgbgpncoiaaOnceWalk
namespace Go.Proofs.Ytfmmcgbgpncoiaa
open Go.RowKit Go

/-- A text that was put is read. -/
theorem rt_put {most : Nat} {s r l : List UInt8} (hs : s.length < 18446744073709551616) (hm : s.length ≤ most) (hl : l = textB s ++ r) {t l' : List UInt8} {bad' : Bool} (h : RT most l false t l' bad') : t = s ∧ l' = r ∧ bad' = false := by
  have hl2 : l = Lib.uvarint s.length ++ (s ++ r) := by rw [hl]; unfold textB; rw [List.append_assoc]
  cases h with
  | bad n l1 h =>
    obtain ⟨_, _, h3⟩ := ru_put hs hm hl2 h
    cases h3
  | short n l1 h hn =>
    obtain ⟨rfl, rfl, _⟩ := ru_put hs hm hl2 h
    simp at hn
    omega
  | good n l1 h hn =>
    obtain ⟨rfl, rfl, _⟩ := ru_put hs hm hl2 h
    exact ⟨by simp, by simp, rfl⟩

theorem append_data (a b : ByteArray) : (a ++ b).data.toList = a.data.toList ++ b.data.toList := by
  rw [ByteArray.data_append, Array.toList_append]
theorem append_size (a b : ByteArray) : (a ++ b).size = a.size + b.size := by
  rw [Lib.size_eq, append_data, List.length_append, ← Lib.size_eq, ← Lib.size_eq]

set_option maxHeartbeats 2000000 in
theorem joins_walk (x : Nat) (hx : x < 18446744073709551616) (s more : ByteArray) (w : World) :
    Calls Try.prog 8 #[.int .u64 x, .string s, .string more] w fun e w' => e = .returned (.bool true) ∧ Below w.heap.size w w' := by
  by_cases h1 : 1000 < s.size
  · go_enter Try.func8, Try.ntmps8
    go_wp2_with fail
    refine (alive_any w).mono ?_
    rintro e w1 ⟨rfl, hb1⟩
    go_wp2
    go_ret
    exact ⟨rfl, hb1⟩
  by_cases h2 : 1000 < more.size
  · go_enter Try.func8, Try.ntmps8
    go_wp2_with fail
    refine (alive_any w).mono ?_
    rintro e w1 ⟨rfl, hb1⟩
    go_wp2
    go_ret
    exact ⟨rfl, hb1⟩
  have hul := Lib.uvarint_length64 hx
  have hll := Lib.uvarint_length64 (x := s.size) (by omega)
  have hsl : s.data.toList.length = s.size := (Lib.size_eq s).symm
  have hml : more.data.toList.length = more.size := (Lib.size_eq more).symm
  have HSL := Lib.hid hsl
  have HML := Lib.hid hml
  clear hsl hml
  go_enter Try.func8, Try.ntmps8
  go_wp2_with fail
  refine (alive_any w).mono ?_
  rintro e w1 ⟨rfl, hb1⟩
  go_wp2_with fail
  refine (uint_any w1.heap.size x hx _ [] w1 (Bs.nil _ _) (Nat.le_refl _) (by simp)).mono ?_
  rintro e w2 ⟨v2, rfl, hs2, hb2⟩
  have HS2 := Lib.hid hs2
  clear hs2
  go_wp2_with fail
  refine (text_any w1.heap.size s (by omega) _ _ w2 HS2.out hb2.size (by simp; omega)).mono ?_
  rintro e w3 ⟨v3, rfl, hs3, hb3⟩
  obtain ⟨p, hp⟩ : ∃ p : ByteArray, p.data.toList = [] ++ Lib.uvarint x ++ textB s.data.toList := ⟨⟨([] ++ Lib.uvarint x ++ textB s.data.toList).toArray⟩, rfl⟩
  have hc3 := bs_string_of hs3 p hp
  have hps : p.size ≤ 3000 := by
    have a := HSL.out
    rw [Lib.size_eq, hp]
    simp only [List.length_append, textB, a]
    simp
    omega
  have hpm : (p ++ more).data.toList = Lib.uvarint x ++ (textB s.data.toList ++ more.data.toList) := by
    rw [append_data, hp]; simp
  have hpz : (p ++ more).size ≤ 4000 := by rw [append_size]; omega
  have HPM := Lib.hid hpm
  clear hs3 hp hpm
  go_wp2_with fail
  refine (from_any _ (by omega) w3).mono ?_
  rintro e w4 ⟨rfl, hz4, hr4, hb4⟩
  rw [HPM.out] at hr4
  have HZ4 := Lib.hid hz4
  clear hz4 hc3 hpz
  go_wp2_with fail
  refine (from_any more (by omega) w4).mono ?_
  rintro e w5 ⟨rfl, hz5, hq5, hb5⟩
  have hr5 := hr4.below hb5 (by rw [HZ4.out]; omega)
  clear hz5
  go_wp2_with fail
  refine (uint_rd x w3.heap.size _ false w5 hr5).mono ?_
  rintro e w6 ⟨n, l', bad', rfl, hru, hr6, ho6⟩
  obtain ⟨rfl, rfl, rfl⟩ := ru_put hx (Nat.le_refl _) rfl hru
  have hq6 := hq5.only ho6 (by rw [HZ4.out]; omega)
  clear hru
  go_wp2_with fail
  refine (text_rd s.size w3.heap.size (by omega) _ false w6 hr6 s.size (by omega)).mono ?_
  rintro e w7 ⟨s', l', bad', rfl, hrt, hr7, ho7⟩
  obtain ⟨hss, rfl, rfl⟩ := rt_put (by rw [HSL.out]; omega) (by rw [HSL.out]; omega) rfl hrt
  obtain rfl : s' = s := by
    have := congrArg List.toArray hss
    simpa [ByteArray.ext_iff] using this
  have hq7 := hq6.only ho7 (by rw [HZ4.out]; omega)
  clear hrt hss
  have hb7 : Below w.heap.size w w7 := by
    have a := HZ4.out
    have c1 := hb1.size
    have c2 := hb2.size
    have c3 := hb3.size
    exact hb1.trans ((hb2.mono c1).trans ((hb3.mono c1).trans ((hb4.mono (by omega)).trans ((hb5.mono (by omega)).trans ((ho6.below (by omega)).trans (ho7.below (by omega)))))))
  have hb3w : w.heap.size ≤ w3.heap.size := by
    have c1 := hb1.size
    have c2 := hb2.size
    have c3 := hb3.size
    omega
  have HB3 := Lib.hid hb3w
  clear hb3w hb1 hb2 hb3 hb4 hb5 ho6 ho7 hr4 hr5 hq5 hr6 hq6
  go_wp2_with fail
  refine (bad_any w3.heap.size _ false w7 hr7).mono ?_
  rintro e w' ⟨rfl, rfl⟩
  go_wp2_with fail
  refine (end_any w3.heap.size _ false w7 hr7).mono ?_
  rintro e w' ⟨rfl, rfl⟩
  go_wp2_with fail
  refine (end_any w4.heap.size _ false w7 hq7).mono ?_
  rintro e w' ⟨rfl, rfl⟩
  go_wp2_with fail
  refine (int_rd w3.heap.size _ false w7 hr7).mono ?_
  rintro e w8 ⟨n1, l1, b1, rfl, hru1, hr8, ho8⟩
  have hq8 := hq7.only ho8 (by rw [HZ4.out]; omega)
  have HR1 := Lib.hid hru1
  clear hru1
  go_wp2_with fail
  refine (int_rd w4.heap.size _ false w8 hq8).mono ?_
  rintro e w9 ⟨n2, l2, b2, rfl, hru2, hq9, ho9⟩
  obtain ⟨rfl, rfl, rfl⟩ := HR1.out.det hru2
  have hr9 := hr8.only ho9 (by rw [HZ4.out]; omega)
  clear hru2
  have hb9 : Below w.heap.size w w9 := by
    have a := HZ4.out
    have c := hr7.lt
    have d := hb7.size
    have e1 : w.heap.size ≤ w3.heap.size := HB3.out
    exact hb7.trans ((ho8.below e1).trans (ho9.below (by omega)))
  go_wp2_with fail
  refine (bad_any w3.heap.size _ _ w9 hr9).mono ?_
  rintro e w' ⟨rfl, rfl⟩
  go_wp2_with fail
  refine (bad_any w4.heap.size _ _ w9 hq9).mono ?_
  rintro e w' ⟨rfl, rfl⟩
  go_wp2
  go_ret
  refine ⟨?_, hb9⟩
  first | rfl | simp

end Go.Proofs.Ytfmmcgbgpncoiaa

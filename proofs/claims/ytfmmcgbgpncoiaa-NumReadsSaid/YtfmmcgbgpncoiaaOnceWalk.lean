/-
  magpielaw01.NumOnce: the walk.
-/
import Derived.Test.YtfmmcgbgpncoiaaAlive
namespace Go.Proofs.Ytfmmcgbgpncoiaa
open Go.RowKit Go

/-- The three ways. -/
theorem RU.ways {most : Nat} {l : List UInt8} {bad : Bool} {n : Nat} {l' : List UInt8} {bad' : Bool} (h : RU most l bad n l' bad') :
    (∃ l0 c, M.IsNum l0 c ∧ l = l0 ++ c :: l' ∧ bad = false ∧ n = M.low (l0 ++ [c]) ∧ bad' = false ∧ M.low (l0 ++ [c]) ≤ most) ∨
    (bad = false ∧ n = 0 ∧ l' = [] ∧ bad' = true ∧ ∀ l0 c r, M.IsNum l0 c → l = l0 ++ c :: r → most < M.low (l0 ++ [c])) ∨
    (bad = true ∧ n = 0 ∧ l' = l ∧ bad' = true) := by
  cases h with
  | good l0 c _ hn hm => exact .inl ⟨l0, c, hn, rfl, rfl, rfl, rfl, hm⟩
  | none _ hno => exact .inr (.inl ⟨rfl, rfl, rfl, rfl, hno⟩)
  | bad => exact .inr (.inr ⟨rfl, rfl, rfl, rfl⟩)

/-- What a reader answers hangs on what is left alone. -/
theorem RU.det {most : Nat} {l : List UInt8} {bad : Bool} {n : Nat} {l' : List UInt8} {bad' : Bool} {n2 : Nat} {l2 : List UInt8} {bad2 : Bool} (h : RU most l bad n l' bad') (k : RU most l bad n2 l2 bad2) : n2 = n ∧ l2 = l' ∧ bad2 = bad' := by
  rcases h.ways with ⟨l0, c, hn, hl, hb, h1, h2, hm⟩ | ⟨hb, h1, h2, h3, hno⟩ | ⟨hb, h1, h2, h3⟩
  · rcases k.ways with ⟨m0, d, km, kl, _, k1, k2, _⟩ | ⟨_, _, _, _, kno⟩ | ⟨kb, _⟩
    · obtain ⟨rfl, rfl, rfl⟩ := M.parts_unique hn.cont hn.last km.cont km.last (hl.symm.trans kl)
      exact ⟨by rw [h1, k1], rfl, by rw [h2, k2]⟩
    · have := kno l0 c l' hn hl
      omega
    · rw [hb] at kb; cases kb
  · rcases k.ways with ⟨m0, d, km, kl, _, k1, k2, kle⟩ | ⟨_, k1, k2, k3, _⟩ | ⟨kb, _⟩
    · have := hno m0 d l2 km kl
      omega
    · exact ⟨by rw [h1, k1], by rw [h2, k2], by rw [h3, k3]⟩
    · rw [hb] at kb; cases kb
  · rcases k.ways with ⟨m0, d, km, kl, kb, _⟩ | ⟨kb, _⟩ | ⟨_, k1, k2, k3⟩
    · rw [hb] at kb; cases kb
    · rw [hb] at kb; cases kb
    · exact ⟨by rw [h1, k1], by rw [h2, k2], by rw [h3, k3]⟩

theorem zig_unzig (n : Nat) : Lib.zigzag (Lib.unzigzag n) = n := by
  by_cases h : n % 2 = 0
  · rw [unzig_even n h]; unfold Lib.zigzag; rw [if_pos (by omega)]; omega
  · rw [unzig_odd n h]; unfold Lib.zigzag; rw [if_neg (by omega)]; omega

theorem unzig_bounds (n : Nat) (h : n < 18446744073709551616) : -9223372036854775808 ≤ Lib.unzigzag n ∧ Lib.unzigzag n ≤ 9223372036854775807 := by
  by_cases e : n % 2 = 0
  · rw [unzig_even n e]; omega
  · rw [unzig_odd n e]; omega

theorem bs_string_of {B : Nat} {w : World} {v : Value} {l : List UInt8} (h : Bs B w v l) (s : ByteArray) (hs : s.data.toList = l) : (convert 24 9 v).run Try.prog w = .ok (.string s) w := by
  have := bs_string h
  rw [← hs, Lib.mk_data] at this
  exact this

/-- The number of all bytes. -/
theorem ru_all {most : Nat} {l : List UInt8} {n : Nat} (h : RU most l false n [] false) : Lib.uvarint n = l := by
  cases h with
  | good l0 c r hn hm => exact hn.put

set_option maxHeartbeats 2000000 in
theorem once_walk (s : ByteArray) (w : World) :
    Calls Try.prog 6 #[.string s] w fun e w' => e = .returned (.bool true) ∧ Below w.heap.size w w' := by
  by_cases hlen : s.size ≤ 100
  · have hlt : ¬ (100 < s.size) := by omega
    go_enter Try.func6, Try.ntmps6
    go_wp2_with fail
    refine (alive_any w).mono ?_
    rintro e w1 ⟨rfl, hb1⟩
    go_wp2_with fail
    refine (from_any s (by omega) w1).mono ?_
    rintro e w2 ⟨rfl, hz2, hr2, hb2⟩
    have HZ2 := Lib.hid hz2
    clear hz2
    go_wp2_with fail
    refine (from_any s (by omega) w2).mono ?_
    rintro e w3 ⟨rfl, hz3, hq3, hb3⟩
    have hr3 := hr2.below hb3 (by rw [HZ2.out]; omega)
    have HZ3 := Lib.hid hz3
    have hU := uint_rd 18446744073709551615 w1.heap.size s.data.toList false w3 hr3
    have ee : ((18446744073709551615 : Nat) : Int) = 18446744073709551615 := rfl
    rw [ee] at hU
    have HU := Lib.hid hU
    clear hU ee hz3
    go_wp2_with fail
    refine HU.out.mono ?_
    rintro e w4 ⟨n, l', bad', rfl, hru, hr4, ho4⟩
    have hq4 := hq3.only ho4 (by rw [HZ2.out]; omega)
    have HR := Lib.hid hru
    clear hru
    go_wp2_with fail
    refine (int_rd w2.heap.size s.data.toList false w4 hq4).mono ?_
    rintro e w5 ⟨n2, l2, bad2, rfl, hru2, hq5, ho5⟩
    obtain ⟨rfl, rfl, rfl⟩ := HR.out.det hru2
    have hr5 := hr4.only ho5 (by rw [HZ2.out]; omega)
    clear hru2
    have hb5 : Below w.heap.size w w5 := by
      have a := HZ2.out
      have c1 := hb1.size
      exact hb1.trans ((hb2.mono c1).trans ((hb3.mono (by omega)).trans ((ho4.below (by omega)).trans (ho5.below (by omega)))))
    clear hb1 hb2 hb3 ho4 ho5 hr2 hr3 hq3 hq4 hr4
    go_wp2_with fail
    refine (end_any w1.heap.size l2 bad2 w5 hr5).mono ?_
    rintro e w' ⟨rfl, rfl⟩
    by_cases hE : bad2 = false ∧ l2 = []
    · obtain ⟨rfl, rfl⟩ := hE
      have hall := ru_all HR.out
      have hnl := HR.out.lt
      have hkb := unzig_bounds n2 hnl
      have hzz := zig_unzig n2
      have HA := Lib.hid hall
      have HKB := Lib.hid hkb
      have HZZ := Lib.hid hzz
      clear hall hkb hzz
      go_wp2_with fail
      refine (uint_any w5.heap.size n2 hnl _ [] w5 (Bs.nil _ _) (Nat.le_refl _) (by simp)).mono ?_
      rintro e w6 ⟨v6, rfl, hs6, hb6⟩
      have hc6 := bs_string_of hs6 s HA.out.symm
      clear hs6
      go_wp2_with fail
      refine (int_any w6.heap.size (Lib.unzigzag n2) HKB.out.1 HKB.out.2 _ [] w6 (Bs.nil _ _) (Nat.le_refl _) (by simp)).mono ?_
      rintro e w7 ⟨v7, rfl, hs7, hb7⟩
      have hc7 := bs_string_of hs7 s (by rw [HZZ.out]; exact HA.out.symm)
      clear hs7
      go_wp2_with fail
      refine (end_any w2.heap.size [] false w7 ((hq5.below hb6 hq5.lt).below hb7 (Nat.lt_of_lt_of_le hq5.lt hb6.size))).mono ?_
      rintro e w' ⟨rfl, rfl⟩
      go_wp2
      go_ret
      exact ⟨rfl, hb5.trans ((hb6.mono hb5.size).trans (hb7.mono (Nat.le_trans hb5.size hb6.size)))⟩
    · have e1 : (!bad2 && l2.isEmpty) = false := by
        cases bad2
        · cases l2
          · exact absurd ⟨rfl, rfl⟩ hE
          · rfl
        · rfl
      rw [e1]
      clear hE e1
      go_wp2_with fail
      refine (bad_any w2.heap.size l2 bad2 w5 hq5).mono ?_
      rintro e w' ⟨rfl, rfl⟩
      go_wp2_with fail
      refine (bad_any w1.heap.size l2 bad2 w5 hr5).mono ?_
      rintro e w' ⟨rfl, rfl⟩
      go_wp2
      go_ret
      refine ⟨?_, hb5⟩
      first | rfl | simp
  · have hlt : 100 < s.size := by omega
    go_enter Try.func6, Try.ntmps6
    go_wp2_with fail
    refine (alive_any w).mono ?_
    rintro e w1 ⟨rfl, hb1⟩
    go_wp2
    go_ret
    exact ⟨rfl, hb1⟩

end Go.Proofs.Ytfmmcgbgpncoiaa

/-
  magpielaw03.WordIs: the walk.
-/
import Derived.Test.YtgjlbcmejanfaaaDoorRefHas
namespace Go.Proofs.YtgjlbcmejanfaaaDoor
open Go.RowKit Go

theorem gone_inner_all (s : ByteArray) (w : World) (m : Int) (hs : s.size ≤ 1048576) (h : (s.size : Int) ≤ m) :
    Calls Tryd.prog 9 #[.func (.func 20) #[] #[.pointer (some ⟨w.heap.size, 0, none⟩)], .int .i64 m] (w.alloc (.cells #[.string s] 9)) fun e w' => ∃ v, e = .returned v ∧ Rs (From w.heap.size) w' v (strs (innerB s)) ∧ Below w.heap.size w w' := by
  have := gone_inner s hs w m
  rwa [List.take_of_length_le (by have := innerB_length s; omega)] at this

theorem shape_len {G : Nat → Prop} {w : World} {v : Value} {l : List ByteArray} (h : Rs G w v (strs l)) : ∃ a c, v = .slice a l.length c := by
  have := h.shape
  rwa [strs_length] at this

theorem min_take (m : Int) (l : List ByteArray) : ((l.take m.toNat).length : Int) = min (max m 0) l.length := by
  rw [List.length_take]
  omega

set_option maxHeartbeats 4000000 in
theorem is_walk (s t : ByteArray) (m : Int) (h1 : -9223372036854775808 ≤ m) (h2 : m ≤ 9223372036854775807) (w : World) (hT : Lib.Utf8Tabs 1 2 w) :
    Calls Tryd.prog 3 #[.string s, .string t, .int .i64 m] w fun e w' => e = .returned (.bool true) ∧ Below w.heap.size w w' := by
  by_cases ha : 1024 < s.size
  · go_enter Tryd.func3, Tryd.ntmps3
    go_wp2_with fail
    refine (alive_any w).mono ?_
    rintro e w1 ⟨rfl, hb1⟩
    go_wp2
    go_ret
    exact ⟨rfl, hb1⟩
  by_cases hb : 1024 < t.size
  · go_enter Tryd.func3, Tryd.ntmps3
    go_wp2_with fail
    refine (alive_any w).mono ?_
    rintro e w1 ⟨rfl, hb1⟩
    go_wp2
    go_ret
    exact ⟨rfl, hb1⟩
  have hda : decide ((1024 : Int) < (s.size : Int)) = false := by simp; omega
  have hdb : decide ((1024 : Int) < (t.size : Int)) = false := by simp; omega
  have HT := Lib.hid hT
  clear hT
  go_enter Tryd.func3, Tryd.ntmps3
  go_wp2_with fail
  refine (alive_any w).mono ?_
  rintro e w1 ⟨rfl, hb1⟩
  have HB1 := Lib.hid hb1
  clear hb1
  go_wp2_with fail
  refine (refWords_any s (by omega) w1 (Utf8Tabs_below HT.out HB1.out)).mono ?_
  rintro e w2 ⟨vL, rfl, hrL, hb2⟩
  have HB2 := Lib.hid (HB1.out.trans (hb2.mono HB1.out.size))
  have HL2 := Lib.hid hrL
  clear hrL hb2
  go_wp2_with fail
  refine (refInner_any s (by omega) w2 (Utf8Tabs_below HT.out HB2.out)).mono ?_
  rintro e w3 ⟨vI, rfl, hrI, hb3⟩
  have HB3 := Lib.hid (HB2.out.trans (hb3.mono HB2.out.size))
  have HL3 := Lib.hid (HL2.out.below (Nat.le_refl _) hb3)
  have HI3 := Lib.hid hrI
  obtain ⟨aL, cL, hvL⟩ := shape_len HL3.out
  obtain ⟨aI, cI, hvI⟩ := shape_len hrI
  obtain ⟨nL, hnL⟩ : ∃ n, n = (wordsB s).length := ⟨_, rfl⟩
  obtain ⟨nI, hnI⟩ : ∃ n, n = (innerB s).length := ⟨_, rfl⟩
  rw [← hnL] at hvL
  rw [← hnI] at hvI
  have HNL := Lib.hid hnL
  have HNI := Lib.hid hnI
  have hlb : nL ≤ 1024 := by rw [hnL]; have := wordsB_length s; omega
  have hib : nI ≤ 1024 := by rw [hnI]; have := innerB_length s; omega
  subst hvL hvI
  clear hrI hb3 hnL hnI
  go_wp2_with (go_at_call 10; refine (words_any _ _).mono ?_; rintro e w' ⟨rfl, rfl⟩)
  refine (gone_all s w3 2000 (by omega) (by omega)).mono ?_
  rintro e w4 ⟨v4, rfl, hr4, hb4⟩
  have HB4 := Lib.hid (HB3.out.trans (hb4.mono HB3.out.size))
  have HL4 := Lib.hid (HL3.out.below (Nat.le_refl _) hb4)
  have HI4 := Lib.hid (HI3.out.below (Nat.le_refl _) hb4)
  have HS4 := Lib.hid (same_true hr4 HL4.out (by rw [← HNL.out]; omega))
  clear hr4 hb4
  go_wp2_with fail
  refine HS4.out.mono ?_
  rintro e w5 ⟨rfl, hs5⟩
  have HB5 := Lib.hid (HB4.out.trans (hs5.below.mono HB4.out.size))
  have HI5 := Lib.hid (HI4.out.below (Nat.le_refl _) hs5.below)
  clear hs5
  go_wp2_with (go_at_call 11; refine (inner_any _ _).mono ?_; rintro e w' ⟨rfl, rfl⟩)
  refine (gone_inner_all s w5 2000 (by omega) (by omega)).mono ?_
  rintro e w6 ⟨v6, rfl, hr6, hb6⟩
  have HB6 := Lib.hid (HB5.out.trans (hb6.mono HB5.out.size))
  have HI6 := Lib.hid (HI5.out.below (Nat.le_refl _) hb6)
  have HS6 := Lib.hid (same_true hr6 HI6.out (by rw [← HNI.out]; omega))
  clear hr6 hb6
  go_wp2_with fail
  refine HS6.out.mono ?_
  rintro e w7 ⟨rfl, hs7⟩
  have HB7 := Lib.hid (HB6.out.trans (hs7.below.mono HB6.out.size))
  clear hs7
  go_wp2_with (go_at_call 10; refine (words_any _ _).mono ?_; rintro e w' ⟨rfl, rfl⟩)
  refine (gone_words s (by omega) w7 m).mono ?_
  rintro e w8 ⟨v8, rfl, hr8, hb8⟩
  have HB8 := Lib.hid (HB7.out.trans (hb8.mono HB7.out.size))
  obtain ⟨a8, c8, hv8⟩ := shape_len hr8
  obtain ⟨n8, hn8⟩ : ∃ n, n = ((wordsB s).take m.toNat).length := ⟨_, rfl⟩
  rw [← hn8] at hv8
  have hm8 : (n8 : Int) = min (max m 0) nL := by rw [hn8, HNL.out]; exact min_take m _
  have hq8 : ((n8 : Int) == min (max m 0) (nL : Int)) = true := by rw [hm8]; exact beq_self_eq_true _
  subst hv8
  clear hr8 hb8 hn8 hm8
  go_wp2_with (go_at_call 11; refine (inner_any _ _).mono ?_; rintro e w' ⟨rfl, rfl⟩)
  refine (gone_inner s (by omega) w8 m).mono ?_
  rintro e w9 ⟨v9, rfl, hr9, hb9⟩
  have HB9 := Lib.hid (HB8.out.trans (hb9.mono HB8.out.size))
  obtain ⟨a9, c9, hv9⟩ := shape_len hr9
  obtain ⟨n9, hn9⟩ : ∃ n, n = ((innerB s).take m.toNat).length := ⟨_, rfl⟩
  rw [← hn9] at hv9
  have hm9 : (n9 : Int) = min (max m 0) nI := by rw [hn9, HNI.out]; exact min_take m _
  have hq9 : ((n9 : Int) == min (max m 0) (nI : Int)) = true := by rw [hm9]; exact beq_self_eq_true _
  subst hv9
  clear hr9 hb9 hn9 hm9
  go_wp2_with fail
  refine (has_any s t (by omega) w9).mono ?_
  rintro e w10 ⟨rfl, hb10⟩
  have HB10 := Lib.hid (HB9.out.trans (hb10.mono HB9.out.size))
  clear hb10
  go_wp2_with fail
  refine (refHas_any s t (by omega) w10 (Utf8Tabs_below HT.out HB10.out)).mono ?_
  rintro e w11 ⟨rfl, hb11⟩
  have HB11 := Lib.hid (HB10.out.trans (hb11.mono HB10.out.size))
  clear hb11
  go_wp2_with fail
  refine (is_any s (by omega) w11).mono ?_
  rintro e w12 ⟨rfl, hb12⟩
  have HB12 := Lib.hid (HB11.out.trans (hb12.mono HB11.out.size))
  clear hb12
  go_wp2_with fail
  refine (refIs_any s (by omega) w12 (Utf8Tabs_below HT.out HB12.out)).mono ?_
  rintro e w13 ⟨rfl, hb13⟩
  have HB13 := Lib.hid (HB12.out.trans (hb13.mono HB12.out.size))
  clear hb13
  go_wp2_with fail
  go_ret
  exact ⟨rfl, HB13.out⟩

end Go.Proofs.YtgjlbcmejanfaaaDoor

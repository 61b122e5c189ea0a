/-
  THE DOCUMENT'S OWN Source: Make.
-/
import Derived.Test.YtidjodplimkmgaaMkA
import Derived.Test.YtidjodplimkmgaaMakeFieldA6
import Derived.Test.YtidjodplimkmgaaMakeFieldB6
namespace Go.Proofs.Ytidjodplimkmgaa
open Go.RowKit Go

set_option maxHeartbeats 8000000 in
set_option maxRecDepth 100000 in
theorem make_step (g : Nat) (v : Value) (l : List Int) (d : Nat) (hd : d ≤ 4) (IH : ∀ e, d = e + 1 → ∀ (p : Nat) (w : World), Srcs w g v l p → Calls Try.prog 13 #[.pointer (some ⟨g, 0, none⟩), .int .i64 (e : Nat)] w (MakeP g v l e p w))
    (p : Nat) (w : World) (h : Srcs w g v l p) : Calls Try.prog 13 #[.pointer (some ⟨g, 0, none⟩), .int .i64 (d : Nat)] w (MakeP g v l d p w) := by
  have HS0 := Lib.hid h
  have hlt := h.lt
  obtain ⟨W, hW⟩ : ∃ W, W = newF w := ⟨_, rfl⟩
  have hbx := newF_bx w
  have hlay := newF_lay w
  have hsz := newF_size w
  rw [← hW] at hbx hlay hsz
  have HBX := Lib.hid hbx
  have HLAY := Lib.hid hlay
  have HSZ := Lib.hid hsz
  have HW := Lib.hid (show w.alloc (.cells #[.int .i64 0, .string ⟨#[]⟩, .string ⟨#[]⟩, .slice none 0 0] 29) = W from hW.symm)
  have HS1 := Lib.hid (h.lay hlay)
  have hne : ¬ w.heap.size = g := by omega
  clear h hW hbx hlay hsz
  have HIH := Lib.hid IH
  clear IH
  -- the first number
  obtain ⟨N, hN⟩ : ∃ N, N = Ft.nd d := ⟨_, rfl⟩
  have hN5 : (d = 0 ∧ N = 5) ∨ (1 ≤ d ∧ N = 8) := by
    unfold Ft.nd at hN
    by_cases h0 : d = 0
    · rw [if_pos h0] at hN; exact .inl ⟨h0, hN⟩
    · rw [if_neg h0] at hN; exact .inr ⟨by omega, hN⟩
  have HNX := Lib.hid (next_any g v l p N (by omega) (by omega) W HS1.out)
  have hcl := Ft.next_lt (l := l) (n := N) (p := p) (by omega)
  obtain ⟨c, p1, hc⟩ : ∃ c p1, Ft.next l N p = (c, p1) := ⟨_, _, rfl⟩
  have hcN : Ft.next l (Ft.nd d) p = (c, p1) := by rw [← hN]; exact hc
  rw [hc] at HNX hcl
  simp only at hcl
  have HC := Lib.hid hcN
  clear hc hcN hN
  have WORD : Hid (c ≤ 1 → Ft.make l d p = (.mk 3 ⟨#[]⟩ (Ft.textOf (Ft.next l 12 p1).1) [], (Ft.next l 12 p1).2)) := Lib.hid fun hc => by
    have := Ft.make_word (l := l) (d := d) (p := p) (by rw [HC.out]; exact hc)
    rw [HC.out] at this
    exact this
  have HAS : Hid (c = 2 → Ft.make l d p = (.mk 4 ⟨#[]⟩ (Ft.textOf (Ft.next l 12 p1).1) [], (Ft.next l 12 p1).2)) := Lib.hid fun hc => by
    have := Ft.make_has (l := l) (d := d) (p := p) (by rw [HC.out]; exact hc)
    rw [HC.out] at this
    exact this
  have FIELD : Hid (c = 3 → Ft.make l d p = (.mk 5 (Ft.nameOf (Ft.next l 3 p1).1) (Ft.textOf (Ft.next l 12 (Ft.next l 3 p1).2).1) [], (Ft.next l 12 (Ft.next l 3 p1).2).2)) := Lib.hid fun hc => by
    have := Ft.make_field (l := l) (d := d) (p := p) (by rw [HC.out]; exact hc)
    rw [HC.out] at this
    exact this
  have BOOL : Hid (c = 4 → Ft.make l d p = (.mk (1 + (Ft.next l 2 p1).1) ⟨#[]⟩ ⟨#[]⟩ [], (Ft.next l 2 p1).2)) := Lib.hid fun hc => by
    have := Ft.make_bool (l := l) (d := d) (p := p) (by rw [HC.out]; exact hc)
    rw [HC.out] at this
    exact this
  rcases hN5 with ⟨hd0, hN5⟩ | ⟨hd0, hN5⟩
  · have hdd : decide ((d : Int) ≤ 0) = true := by simp; omega
    obtain ⟨rfl⟩ : N = 5 := by omega
    have HNX' : Hid (Calls Try.prog 12 #[.pointer (some ⟨g, 0, none⟩), .int .i64 5] W fun e w' => e = .returned (.int .i64 (c : Nat)) ∧ Srcs w' g v l p1 ∧ Keep (fun k => k = g) W w') := HNX
    clear HNX
    obtain rfl | rfl | rfl | rfl | rfl : c = 0 ∨ c = 1 ∨ c = 2 ∨ c = 3 ∨ c = 4 := by omega
    · go_enter Try.func13, Try.ntmps13
      go_wp2_with fail
      rw [HW.out]
      refine HNX'.out.mono ?_
      rintro e w1 ⟨rfl, hs1, hk1⟩
      have HS2 := Lib.hid hs1
      have HK2 := Lib.hid (Keep.trans (Lay.keep HLAY.out) hk1)
      have HX2 := Lib.hid (HBX.out.carry (hk1.block _ (by rw [HSZ.out]; omega) hne))
      have HZ2 := Lib.hid (show w.heap.size + 1 ≤ w1.heap.size from by have := hk1.size; rw [HSZ.out] at this; exact this)
      clear hs1 hk1
      have HT := Lib.hid (text_any g v l p1 w1 HS2.out)
      go_wp2_with fail
      refine HT.out.mono ?_
      rintro e w2 ⟨rfl, hs3, hk3⟩
      have HS3 := Lib.hid hs3
      have HK3 := Lib.hid (Keep.trans HK2.out hk3)
      have HX3 := Lib.hid (HX2.out.carry (hk3.block _ (by have := HZ2.out; omega) hne))
      clear hs3 hk3 HT
      obtain ⟨c0, c1, c2, c3, f0, f1, f2, f3⟩ := HX3.out
      go_wp2_with fail
      have hq := HX3.out.all (.int .i64 3) (.string ⟨#[]⟩) (.string (Ft.textOf (Ft.next l 12 p1).1)) (.slice none 0 0)
      unfold stored at hq
      obtain ⟨q0, q1, q2, q3, _, _, _, _⟩ := hq
      refine bodyPost_ret (v := .agg #[.int .i64 3, .string ⟨#[]⟩, .string (Ft.textOf (Ft.next l 12 p1).1), .slice none 0 0]) (by simp [results, Try.results13, go_sem, q0, q1, q2, q3]) rfl ?_
      exact made_leaf HS0.out HS3.out HK3.out (WORD.out (by omega))
    · go_enter Try.func13, Try.ntmps13
      go_wp2_with fail
      rw [HW.out]
      refine HNX'.out.mono ?_
      rintro e w1 ⟨rfl, hs1, hk1⟩
      have HS2 := Lib.hid hs1
      have HK2 := Lib.hid (Keep.trans (Lay.keep HLAY.out) hk1)
      have HX2 := Lib.hid (HBX.out.carry (hk1.block _ (by rw [HSZ.out]; omega) hne))
      have HZ2 := Lib.hid (show w.heap.size + 1 ≤ w1.heap.size from by have := hk1.size; rw [HSZ.out] at this; exact this)
      clear hs1 hk1
      have HT := Lib.hid (text_any g v l p1 w1 HS2.out)
      go_wp2_with fail
      refine HT.out.mono ?_
      rintro e w2 ⟨rfl, hs3, hk3⟩
      have HS3 := Lib.hid hs3
      have HK3 := Lib.hid (Keep.trans HK2.out hk3)
      have HX3 := Lib.hid (HX2.out.carry (hk3.block _ (by have := HZ2.out; omega) hne))
      clear hs3 hk3 HT
      obtain ⟨c0, c1, c2, c3, f0, f1, f2, f3⟩ := HX3.out
      go_wp2_with fail
      have hq := HX3.out.all (.int .i64 3) (.string ⟨#[]⟩) (.string (Ft.textOf (Ft.next l 12 p1).1)) (.slice none 0 0)
      unfold stored at hq
      obtain ⟨q0, q1, q2, q3, _, _, _, _⟩ := hq
      refine bodyPost_ret (v := .agg #[.int .i64 3, .string ⟨#[]⟩, .string (Ft.textOf (Ft.next l 12 p1).1), .slice none 0 0]) (by simp [results, Try.results13, go_sem, q0, q1, q2, q3]) rfl ?_
      exact made_leaf HS0.out HS3.out HK3.out (WORD.out (by omega))
    · go_enter Try.func13, Try.ntmps13
      go_wp2_with fail
      rw [HW.out]
      refine HNX'.out.mono ?_
      rintro e w1 ⟨rfl, hs1, hk1⟩
      have HS2 := Lib.hid hs1
      have HK2 := Lib.hid (Keep.trans (Lay.keep HLAY.out) hk1)
      have HX2 := Lib.hid (HBX.out.carry (hk1.block _ (by rw [HSZ.out]; omega) hne))
      have HZ2 := Lib.hid (show w.heap.size + 1 ≤ w1.heap.size from by have := hk1.size; rw [HSZ.out] at this; exact this)
      clear hs1 hk1
      have HT := Lib.hid (text_any g v l p1 w1 HS2.out)
      go_wp2_with fail
      refine HT.out.mono ?_
      rintro e w2 ⟨rfl, hs3, hk3⟩
      have HS3 := Lib.hid hs3
      have HK3 := Lib.hid (Keep.trans HK2.out hk3)
      have HX3 := Lib.hid (HX2.out.carry (hk3.block _ (by have := HZ2.out; omega) hne))
      clear hs3 hk3 HT
      obtain ⟨c0, c1, c2, c3, f0, f1, f2, f3⟩ := HX3.out
      go_wp2_with fail
      have hq := HX3.out.all (.int .i64 4) (.string ⟨#[]⟩) (.string (Ft.textOf (Ft.next l 12 p1).1)) (.slice none 0 0)
      unfold stored at hq
      obtain ⟨q0, q1, q2, q3, _, _, _, _⟩ := hq
      refine bodyPost_ret (v := .agg #[.int .i64 4, .string ⟨#[]⟩, .string (Ft.textOf (Ft.next l 12 p1).1), .slice none 0 0]) (by simp [results, Try.results13, go_sem, q0, q1, q2, q3]) rfl ?_
      exact made_leaf HS0.out HS3.out HK3.out (HAS.out (by trivial))
    · exact make_fieldA_step g v l d hd p w HS0.out hd0 (by rw [HC.out])
    · go_enter Try.func13, Try.ntmps13
      go_wp2_with fail
      rw [HW.out]
      refine HNX'.out.mono ?_
      rintro e w1 ⟨rfl, hs1, hk1⟩
      have HS2 := Lib.hid hs1
      have HK2 := Lib.hid (Keep.trans (Lay.keep HLAY.out) hk1)
      have HX2 := Lib.hid (HBX.out.carry (hk1.block _ (by rw [HSZ.out]; omega) hne))
      have HZ2 := Lib.hid (show w.heap.size + 1 ≤ w1.heap.size from by have := hk1.size; rw [HSZ.out] at this; exact this)
      clear hs1 hk1
      have hol := Ft.next_lt (l := l) (n := 2) (p := p1) (by decide)
      have HT := Lib.hid (next_any g v l p1 2 (by decide) (by decide) w1 HS2.out)
      obtain ⟨o, p2, ho⟩ : ∃ o p2, Ft.next l 2 p1 = (o, p2) := ⟨_, _, rfl⟩
      rw [ho] at HT hol
      simp only at hol
      have HBO : Hid (Ft.make l d p = (.mk (1 + (o : Nat)) ⟨#[]⟩ ⟨#[]⟩ [], p2)) := Lib.hid (by rw [BOOL.out (by trivial), ho])
      have HT' : Hid (Calls Try.prog 12 #[.pointer (some ⟨g, 0, none⟩), .int .i64 2] w1 fun e w' => e = .returned (.int .i64 (o : Nat)) ∧ Srcs w' g v l p2 ∧ Keep (fun k => k = g) w1 w') := HT
      clear ho HT
      go_wp2_with fail
      refine HT'.out.mono ?_
      rintro e w2 ⟨rfl, hs3, hk3⟩
      have HS3 := Lib.hid hs3
      have HK3 := Lib.hid (Keep.trans HK2.out hk3)
      have HX3 := Lib.hid (HX2.out.carry (hk3.block _ (by have := HZ2.out; omega) hne))
      clear hs3 hk3 HT'
      obtain ⟨c0, c1, c2, c3, f0, f1, f2, f3⟩ := HX3.out
      go_wp2_with fail
      have hq := HX3.out.all (.int .i64 (1 + (o : Int))) (.string ⟨#[]⟩) (.string ⟨#[]⟩) (.slice none 0 0)
      unfold stored at hq
      obtain ⟨q0, q1, q2, q3, _, _, _, _⟩ := hq
      refine bodyPost_ret (v := .agg #[.int .i64 (1 + (o : Int)), .string ⟨#[]⟩, .string ⟨#[]⟩, .slice none 0 0]) (by simp [results, Try.results13, go_sem, q0, q1, q2, q3]) rfl ?_
      exact made_leaf HS0.out HS3.out HK3.out HBO.out
  · have hdd : decide ((d : Int) ≤ 0) = false := by simp; omega
    obtain ⟨rfl⟩ : N = 8 := by omega
    have HNX' : Hid (Calls Try.prog 12 #[.pointer (some ⟨g, 0, none⟩), .int .i64 8] W fun e w' => e = .returned (.int .i64 (c : Nat)) ∧ Srcs w' g v l p1 ∧ Keep (fun k => k = g) W w') := HNX
    clear HNX
    obtain rfl | rfl | rfl | rfl | rfl | rfl | rfl | rfl : c = 0 ∨ c = 1 ∨ c = 2 ∨ c = 3 ∨ c = 4 ∨ c = 5 ∨ c = 6 ∨ c = 7 := by omega
    · go_enter Try.func13, Try.ntmps13
      go_wp2_with fail
      rw [HW.out]
      refine HNX'.out.mono ?_
      rintro e w1 ⟨rfl, hs1, hk1⟩
      have HS2 := Lib.hid hs1
      have HK2 := Lib.hid (Keep.trans (Lay.keep HLAY.out) hk1)
      have HX2 := Lib.hid (HBX.out.carry (hk1.block _ (by rw [HSZ.out]; omega) hne))
      have HZ2 := Lib.hid (show w.heap.size + 1 ≤ w1.heap.size from by have := hk1.size; rw [HSZ.out] at this; exact this)
      clear hs1 hk1
      have HT := Lib.hid (text_any g v l p1 w1 HS2.out)
      go_wp2_with fail
      refine HT.out.mono ?_
      rintro e w2 ⟨rfl, hs3, hk3⟩
      have HS3 := Lib.hid hs3
      have HK3 := Lib.hid (Keep.trans HK2.out hk3)
      have HX3 := Lib.hid (HX2.out.carry (hk3.block _ (by have := HZ2.out; omega) hne))
      clear hs3 hk3 HT
      obtain ⟨c0, c1, c2, c3, f0, f1, f2, f3⟩ := HX3.out
      go_wp2_with fail
      have hq := HX3.out.all (.int .i64 3) (.string ⟨#[]⟩) (.string (Ft.textOf (Ft.next l 12 p1).1)) (.slice none 0 0)
      unfold stored at hq
      obtain ⟨q0, q1, q2, q3, _, _, _, _⟩ := hq
      refine bodyPost_ret (v := .agg #[.int .i64 3, .string ⟨#[]⟩, .string (Ft.textOf (Ft.next l 12 p1).1), .slice none 0 0]) (by simp [results, Try.results13, go_sem, q0, q1, q2, q3]) rfl ?_
      exact made_leaf HS0.out HS3.out HK3.out (WORD.out (by omega))
    · go_enter Try.func13, Try.ntmps13
      go_wp2_with fail
      rw [HW.out]
      refine HNX'.out.mono ?_
      rintro e w1 ⟨rfl, hs1, hk1⟩
      have HS2 := Lib.hid hs1
      have HK2 := Lib.hid (Keep.trans (Lay.keep HLAY.out) hk1)
      have HX2 := Lib.hid (HBX.out.carry (hk1.block _ (by rw [HSZ.out]; omega) hne))
      have HZ2 := Lib.hid (show w.heap.size + 1 ≤ w1.heap.size from by have := hk1.size; rw [HSZ.out] at this; exact this)
      clear hs1 hk1
      have HT := Lib.hid (text_any g v l p1 w1 HS2.out)
      go_wp2_with fail
      refine HT.out.mono ?_
      rintro e w2 ⟨rfl, hs3, hk3⟩
      have HS3 := Lib.hid hs3
      have HK3 := Lib.hid (Keep.trans HK2.out hk3)
      have HX3 := Lib.hid (HX2.out.carry (hk3.block _ (by have := HZ2.out; omega) hne))
      clear hs3 hk3 HT
      obtain ⟨c0, c1, c2, c3, f0, f1, f2, f3⟩ := HX3.out
      go_wp2_with fail
      have hq := HX3.out.all (.int .i64 3) (.string ⟨#[]⟩) (.string (Ft.textOf (Ft.next l 12 p1).1)) (.slice none 0 0)
      unfold stored at hq
      obtain ⟨q0, q1, q2, q3, _, _, _, _⟩ := hq
      refine bodyPost_ret (v := .agg #[.int .i64 3, .string ⟨#[]⟩, .string (Ft.textOf (Ft.next l 12 p1).1), .slice none 0 0]) (by simp [results, Try.results13, go_sem, q0, q1, q2, q3]) rfl ?_
      exact made_leaf HS0.out HS3.out HK3.out (WORD.out (by omega))
    · go_enter Try.func13, Try.ntmps13
      go_wp2_with fail
      rw [HW.out]
      refine HNX'.out.mono ?_
      rintro e w1 ⟨rfl, hs1, hk1⟩
      have HS2 := Lib.hid hs1
      have HK2 := Lib.hid (Keep.trans (Lay.keep HLAY.out) hk1)
      have HX2 := Lib.hid (HBX.out.carry (hk1.block _ (by rw [HSZ.out]; omega) hne))
      have HZ2 := Lib.hid (show w.heap.size + 1 ≤ w1.heap.size from by have := hk1.size; rw [HSZ.out] at this; exact this)
      clear hs1 hk1
      have HT := Lib.hid (text_any g v l p1 w1 HS2.out)
      go_wp2_with fail
      refine HT.out.mono ?_
      rintro e w2 ⟨rfl, hs3, hk3⟩
      have HS3 := Lib.hid hs3
      have HK3 := Lib.hid (Keep.trans HK2.out hk3)
      have HX3 := Lib.hid (HX2.out.carry (hk3.block _ (by have := HZ2.out; omega) hne))
      clear hs3 hk3 HT
      obtain ⟨c0, c1, c2, c3, f0, f1, f2, f3⟩ := HX3.out
      go_wp2_with fail
      have hq := HX3.out.all (.int .i64 4) (.string ⟨#[]⟩) (.string (Ft.textOf (Ft.next l 12 p1).1)) (.slice none 0 0)
      unfold stored at hq
      obtain ⟨q0, q1, q2, q3, _, _, _, _⟩ := hq
      refine bodyPost_ret (v := .agg #[.int .i64 4, .string ⟨#[]⟩, .string (Ft.textOf (Ft.next l 12 p1).1), .slice none 0 0]) (by simp [results, Try.results13, go_sem, q0, q1, q2, q3]) rfl ?_
      exact made_leaf HS0.out HS3.out HK3.out (HAS.out (by trivial))
    · exact make_fieldB_step g v l d hd p w HS0.out hd0 (by rw [HC.out])
    · go_enter Try.func13, Try.ntmps13
      go_wp2_with fail
      rw [HW.out]
      refine HNX'.out.mono ?_
      rintro e w1 ⟨rfl, hs1, hk1⟩
      have HS2 := Lib.hid hs1
      have HK2 := Lib.hid (Keep.trans (Lay.keep HLAY.out) hk1)
      have HX2 := Lib.hid (HBX.out.carry (hk1.block _ (by rw [HSZ.out]; omega) hne))
      have HZ2 := Lib.hid (show w.heap.size + 1 ≤ w1.heap.size from by have := hk1.size; rw [HSZ.out] at this; exact this)
      clear hs1 hk1
      have hol := Ft.next_lt (l := l) (n := 2) (p := p1) (by decide)
      have HT := Lib.hid (next_any g v l p1 2 (by decide) (by decide) w1 HS2.out)
      obtain ⟨o, p2, ho⟩ : ∃ o p2, Ft.next l 2 p1 = (o, p2) := ⟨_, _, rfl⟩
      rw [ho] at HT hol
      simp only at hol
      have HBO : Hid (Ft.make l d p = (.mk (1 + (o : Nat)) ⟨#[]⟩ ⟨#[]⟩ [], p2)) := Lib.hid (by rw [BOOL.out (by trivial), ho])
      have HT' : Hid (Calls Try.prog 12 #[.pointer (some ⟨g, 0, none⟩), .int .i64 2] w1 fun e w' => e = .returned (.int .i64 (o : Nat)) ∧ Srcs w' g v l p2 ∧ Keep (fun k => k = g) w1 w') := HT
      clear ho HT
      go_wp2_with fail
      refine HT'.out.mono ?_
      rintro e w2 ⟨rfl, hs3, hk3⟩
      have HS3 := Lib.hid hs3
      have HK3 := Lib.hid (Keep.trans HK2.out hk3)
      have HX3 := Lib.hid (HX2.out.carry (hk3.block _ (by have := HZ2.out; omega) hne))
      clear hs3 hk3 HT'
      obtain ⟨c0, c1, c2, c3, f0, f1, f2, f3⟩ := HX3.out
      go_wp2_with fail
      have hq := HX3.out.all (.int .i64 (1 + (o : Int))) (.string ⟨#[]⟩) (.string ⟨#[]⟩) (.slice none 0 0)
      unfold stored at hq
      obtain ⟨q0, q1, q2, q3, _, _, _, _⟩ := hq
      refine bodyPost_ret (v := .agg #[.int .i64 (1 + (o : Int)), .string ⟨#[]⟩, .string ⟨#[]⟩, .slice none 0 0]) (by simp [results, Try.results13, go_sem, q0, q1, q2, q3]) rfl ?_
      exact made_leaf HS0.out HS3.out HK3.out HBO.out
    · go_enter Try.func13, Try.ntmps13
      go_wp2_with fail
      rw [HW.out]
      refine HNX'.out.mono ?_
      rintro e w1 ⟨rfl, hs1, hk1⟩
      have HS2 := Lib.hid hs1
      have HK2 := Lib.hid (Keep.trans (Lay.keep HLAY.out) hk1)
      have HX2 := Lib.hid (HBX.out.carry (hk1.block _ (by rw [HSZ.out]; omega) hne))
      have HZ2 := Lib.hid (show w.heap.size + 1 ≤ w1.heap.size from by have := hk1.size; rw [HSZ.out] at this; exact this)
      clear hs1 hk1
      have HND := Lib.hid fun W h => HIH.out (d - 1) (by omega) p1 W h
      obtain ⟨e, rfl⟩ : ∃ e, d = e + 1 := ⟨d - 1, by omega⟩
      have HNT : Hid (Ft.make l (e + 1) p = (.mk 6 ⟨#[]⟩ ⟨#[]⟩ [(Ft.make l e p1).1], (Ft.make l e p1).2)) := Lib.hid (by
        have h5 := HC.out
        have := Ft.make_not (l := l) (d := e) (p := p) (by show (Ft.next l 8 p).1 = 5; rw [show Ft.next l 8 p = (5, p1) from h5])
        rw [show Ft.next l 8 p = (5, p1) from h5] at this
        exact this)
      have hm := HND.out w1 HS2.out
      rw [show e + 1 - 1 = e from rfl] at hm
      unfold MakeP at hm
      obtain ⟨X, q, hX⟩ : ∃ X q, Ft.make l e p1 = (X, q) := ⟨_, _, rfl⟩
      rw [hX] at HNT hm
      have HM := Lib.hid hm
      clear HND HC WORD HAS FIELD BOOL hm hX
      go_wp2_with fail
      refine HM.out.mono ?_
      rintro e2 w2 ⟨kv, rfl, hkb, hs3, hk3⟩
      obtain ⟨ak, ck, rfl⟩ := (KsB.at _ _ hkb).shape
      have hsz2 : w.heap.size + 1 ≤ w2.heap.size := Nat.le_trans HZ2.out hk3.size
      have HS3 := Lib.hid (hs3.lay ((Keep.refl _ _).alloc (.cells #[.int .i64 X.op, .string X.name, .string X.text, .slice ak X.kids.length ck] 29)))
      have HK3 := Lib.hid ((Keep.trans HK2.out hk3).alloc (.cells #[.int .i64 X.op, .string X.name, .string X.text, .slice ak X.kids.length ck] 29))
      have HX3 := Lib.hid ((HX2.out.carry (hk3.block _ (by have := HZ2.out; omega) hne)).carry (Below.heap_alloc w2 (.cells #[.int .i64 X.op, .string X.name, .string X.text, .slice ak X.kids.length ck] 29) w.heap.size (by omega)))
      have HRK := Lib.hid ((rk_new 4 w2 1 (flatK [(.slice ak X.kids.length ck, X)]) 29 rfl (by omega)).mono (G' := fun b => w.heap.size + 1 ≤ b) fun b hb _ => by rw [hb]; exact hsz2)
      have HKB := Lib.hid (KsB.mono (fun b _ hb => Nat.le_trans HZ2.out hb) _ _ (KsB.keep (G := fun b => w1.heap.size ≤ b) (w' := w2.alloc (.cells #[.int .i64 X.op, .string X.name, .string X.text, .slice ak X.kids.length ck] 29)) (by simp) (fun b _ hb => Below.heap_alloc _ _ _ hb) _ _ hkb))
      clear hs3 hk3 hkb hsz2
      simp only [Ft.val]
      obtain ⟨c0, c1, c2, c3, f0, f1, f2, f3⟩ := HX3.out
      go_wp2_with fail
      have hq := HX3.out.all (.int .i64 6) (.string ⟨#[]⟩) (.string ⟨#[]⟩) (.slice (some ⟨w2.heap.size, 0, none⟩) 1 1)
      unfold stored at hq
      obtain ⟨q0, q1, q2, q3, _, _, _, _⟩ := hq
      refine bodyPost_ret (v := .agg #[.int .i64 6, .string ⟨#[]⟩, .string ⟨#[]⟩, .slice (some ⟨w2.heap.size, 0, none⟩) 1 1]) (by simp [results, Try.results13, go_sem, q0, q1, q2, q3]) rfl ?_
      exact made_kids (R := [(.slice ak X.kids.length ck, X)]) HS0.out HS3.out HK3.out HRK.out (fun p hp => by simp only [List.mem_singleton] at hp; subst hp; exact HKB.out) (by simp) HNT.out
    · exact make_and_step g v l d hd HIH.out p w HS0.out hd0 (by have h5 := HC.out; rw [show Ft.nd d = 8 from by unfold Ft.nd; rw [if_neg (by omega)]] at h5; rw [h5])
    · exact make_or_step g v l d hd HIH.out p w HS0.out hd0 (by have h5 := HC.out; rw [show Ft.nd d = 8 from by unfold Ft.nd; rw [if_neg (by omega)]] at h5; rw [h5])

theorem make_any (g : Nat) (v : Value) (l : List Int) : ∀ (d : Nat), d ≤ 4 → ∀ (p : Nat) (w : World), Srcs w g v l p → Calls Try.prog 13 #[.pointer (some ⟨g, 0, none⟩), .int .i64 (d : Nat)] w (MakeP g v l d p w) := by
  intro d
  induction d with
  | zero => intro hd p w h; exact make_step g v l 0 hd (fun e he => by omega) p w h
  | succ d ih =>
    intro hd p w h
    refine make_step g v l (d + 1) hd (fun e he => ?_) p w h
    obtain rfl : d = e := by omega
    exact ih (by omega)

end Go.Proofs.Ytidjodplimkmgaa

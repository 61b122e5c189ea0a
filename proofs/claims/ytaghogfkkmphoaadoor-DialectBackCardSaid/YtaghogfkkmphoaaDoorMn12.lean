/-
  dialect.Must OF A TokenAsk; DOES IT PANIC? (the law's falls); the law's alive.
-/
import Derived.Test.YtaghogfkkmphoaaDoorAs12
namespace Go.Proofs.YtaghogfkkmphoaaDoor.E4
open Go.RowKit Go

theorem assert_yes (v : Value) (w : World) : (Instr.typeAssert (.iface 59 v) 20 59 false).run Tryd.prog w = .ok v w := by
  simp [Instr.typeAssert, run_underlying Tryd.underlying59]
theorem elem_err (w : World) : (elemOf 15).run Tryd.prog w = .ok 139 w := by
  simp [elemOf, run_underlying Tryd.underlying15]
set_option maxRecDepth 100000 in
theorem assert_no (t : TypeId) (v : Value) (h : t = 66 ∨ t = 55) (w : World) : (Instr.typeAssert (.iface t v) 20 59 false).run Tryd.prog w = .halt (.panic (.iface 15 (.pointer (some ⟨w.heap.size, 0, none⟩)))) (w.alloc (.cells #[typeHandle Tryd.prog 20, typeHandle Tryd.prog t, typeHandle Tryd.prog 59, strVal ""] 139)) := by
  have hel := elem_err w
  rcases h with rfl | rfl
  · simp [Instr.typeAssert, run_underlying Tryd.underlying59, runtimePanic, goPanic, go_sem, hel]
  · simp [Instr.typeAssert, run_underlying Tryd.underlying59, runtimePanic, goPanic, go_sem, hel]
set_option maxRecDepth 100000 in
theorem assert_nil (w : World) : (Instr.typeAssert .nilIface 20 59 false).run Tryd.prog w = .halt (.panic (.iface 15 (.pointer (some ⟨w.heap.size, 0, none⟩)))) (w.alloc (.cells #[typeHandle Tryd.prog 20, .pointer none, typeHandle Tryd.prog 59, strVal ""] 139)) := by
  have hel := elem_err w
  simp [Instr.typeAssert, run_underlying Tryd.underlying59, runtimePanic, goPanic, go_sem, hel]
/-- What panics. -/
theorem assert_bad (a : Ask) (hk : ¬ a.kd = 1) (x y : Value) (w : World) : ∃ o, (Instr.typeAssert (a.dyn x y) 20 59 false).run Tryd.prog w = .halt (.panic (.iface 15 (.pointer (some ⟨w.heap.size, 0, none⟩)))) (w.alloc o) := by
  by_cases g2 : a.kd = 2
  · rw [dyn2 g2]; exact ⟨_, assert_no 66 _ (.inl rfl) w⟩
  by_cases g3 : a.kd = 3
  · rw [dyn3 g3]; exact ⟨_, assert_no 55 _ (.inr rfl) w⟩
  · rw [dyn0 (by omega)]; exact ⟨_, assert_nil w⟩

set_option maxHeartbeats 1000000 in
set_option maxRecDepth 100000 in
theorem must_yes (a : Ask) (hk : a.kd = 1) (av mv : Value) (w : World) (h : TextsAt w av a.all) (hn : a.all.length ≤ 1000) (hr : ∀ l ∈ a.all, l.length ≤ 1000) :
    Calls Tryd.prog 54 #[a.dyn av mv] w fun e w' => ∃ v', e = .returned (.agg #[.int .i64 a.src, .int .i64 a.til, v']) ∧ TextsAt w' v' a.all ∧ Below w.heap.size w w' := by
  have q := assert_yes
  obtain ⟨w1, hw1⟩ : ∃ w1, w1 = w.alloc (.cells #[.int .i64 0, .int .i64 0, .slice none 0 0] 59) := ⟨_, rfl⟩
  have hb1 : Below w.heap.size w w1 := by rw [hw1]; exact (Below.refl _ w).alloc (Nat.le_refl _) _
  have hk1 : Bl w1 w.heap.size 59 #[.int .i64 0, .int .i64 0, .slice none 0 0] := by rw [hw1]; exact Bl.new w 59 _
  have HC := Lib.hid (copied1 (G := fun q => q < w.heap.size) a hk av mv w1 ((TextsG.of h).carry hb1.size (fun q hq _ => hb1.block q hq) (fun _ h _ => h)) (fun q hq => Nat.lt_of_lt_of_le hq hb1.size) hn hr)
  have HW1 := Lib.hid hw1.symm
  have HB1 := Lib.hid hb1
  have HK1 := Lib.hid hk1
  have HSZ : Hid (w1.heap.size = w.heap.size + 1) := Lib.hid (by rw [hw1]; simp)
  have HK := Lib.hid hk
  obtain ⟨dv, hdv⟩ : ∃ v, v = a.dyn av mv := ⟨_, rfl⟩
  rw [← hdv] at HC ⊢
  clear hw1 hb1 hk1 hdv hk h
  go_enter Tryd.func54, Tryd.ntmps54
  go_upto_region 1 with fail
  rw [HW1.out]
  go_wp2_with fail
  refine HC.out.mono ?_
  rintro e w2 ⟨v2, rfl, hx, hb2⟩
  obtain ⟨xa, xc, rfl, hz1, hz2⟩ := id hx
  have hd := dyn1 HK.out (.slice xa a.all.length xc) mv
  have hk2 := HK1.out.below hb2
  have hf := fill3 hk2 (.int .i64 a.src) (.int .i64 a.til) (.slice xa a.all.length xc)
  have HF := Lib.hid hf
  have HX := Lib.hid hx
  have HB2 := Lib.hid (below_mid12 HB1.out hb2)
  have c0 := hk2.cell 0
  have c1 := hk2.cell 1
  have c2 := hk2.cell 2
  have z0 := hk2.frozen 0
  have z1 := hk2.frozen 1
  have z2 := hk2.frozen 2
  simp only [List.getElem?_toArray, List.getElem?_cons_succ, List.getElem?_cons_zero] at c0 c1 c2
  rw [hd]
  clear hd hk2 hb2 hf hx hz1 hz2
  go_wp2_with fail
  have e0 := HF.out.1.cell 0
  have e1 := HF.out.1.cell 1
  have e2 := HF.out.1.cell 2
  simp only [List.getElem?_toArray, List.getElem?_cons_succ, List.getElem?_cons_zero] at e0 e1 e2
  refine bodyPost_ret (v := .agg #[.int .i64 a.src, .int .i64 a.til, .slice xa a.all.length xc]) (by simp [results, Tryd.results54, go_sem, e0, e1, e2]) rfl ⟨_, rfl, texts_set HX.out HF.out.2 (fun q hq => by have := HSZ.out; omega), below_set HB2.out HF.out.2 (Nat.le_refl _)⟩

set_option maxHeartbeats 1000000 in
set_option maxRecDepth 100000 in
theorem must_no (a : Ask) (hk : ¬ a.kd = 1) (av mv : Value) (w : World) (h1 : TextsAt w av a.all) (h2 : MsAt w mv a.mat) (hn : a.all.length ≤ 1000) (hr : ∀ l ∈ a.all, l.length ≤ 1000) (hm : a.mat.length ≤ 1000) :
    Calls Tryd.prog 54 #[a.dyn av mv] w fun e w' => (∃ u pv, e = .panicked [{ v := .iface u pv, recovered := false }]) ∧ Below w.heap.size w w' := by
  obtain ⟨w1, hw1⟩ : ∃ w1, w1 = w.alloc (.cells #[.int .i64 0, .int .i64 0, .slice none 0 0] 59) := ⟨_, rfl⟩
  have hb1 : Below w.heap.size w w1 := by rw [hw1]; exact (Below.refl _ w).alloc (Nat.le_refl _) _
  have HC := Lib.hid (copied_any a av mv w1 (h1.below hb1) (MsAt.below12 h2 hb1) hn hr hm)
  have HW1 := Lib.hid hw1.symm
  have HB1 := Lib.hid hb1
  have HQ := Lib.hid (fun x y W => assert_bad a hk x y W)
  obtain ⟨dv, hdv⟩ : ∃ v, v = a.dyn av mv := ⟨_, rfl⟩
  rw [← hdv] at HC ⊢
  clear hw1 hb1 hdv hk h1 h2
  go_enter Tryd.func54, Tryd.ntmps54
  go_upto_region 1 with fail
  rw [HW1.out]
  go_wp2_with fail
  refine HC.out.mono ?_
  rintro e w2 ⟨v1, v2, rfl, -, -, hb2⟩
  obtain ⟨o, hq⟩ := HQ.out v1 v2 w2
  generalize a.dyn v1 v2 = dw at hq ⊢
  have HB2 := Lib.hid (below_mid12 HB1.out (below_mid12 hb2 ((Below.refl _ w2).alloc (Nat.le_refl _) o)))
  clear hb2
  go_wp2_with fail
  exact ⟨rfl, ⟨_, _, rfl⟩, HB2.out⟩

/-- Does Must of a TokenAsk panic? -/
theorem falls_any (a : Ask) (av mv : Value) (w : World) (h1 : TextsAt w av a.all) (h2 : MsAt w mv a.mat) (hn : a.all.length ≤ 1000) (hr : ∀ l ∈ a.all, l.length ≤ 1000) (hm : a.mat.length ≤ 1000) :
    Calls Tryd.prog 27 #[a.dyn av mv] w fun e w' => e = .returned (.bool (!decide (a.kd = 1))) ∧ Below w.heap.size w w' := by
  by_cases hk : a.kd = 1
  · rw [decide_eq_true hk]
    exact falls_no _ w fun W hW => (must_yes a hk av mv W (h1.below hW) hn hr).mono fun e W' ⟨v, he, _, hb⟩ => ⟨⟨_, he⟩, hb⟩
  · rw [decide_eq_false hk]
    exact falls_yes _ w fun W hW => must_no a hk av mv W (h1.below hW) (MsAt.below12 h2 hW) hn hr hm

set_option maxHeartbeats 1000000 in
set_option maxRecDepth 100000 in
theorem alive12 (w : World) : Calls Tryd.prog 7 #[] w fun e w' => e = .returned (.bool true) ∧ Below w.heap.size w w' := by
  have nt : ∀ W, TextsAt W (.slice none 0 0) [] := fun W => ⟨none, 0, rfl, by simp, .inl rfl⟩
  have nm : ∀ W, MsAt W (.slice none 0 0) [] := fun W => ⟨none, 0, rfl, by simp, .inl rfl⟩
  have HAS := Lib.hid (as3_yes ⟨3, 3, 0, [], []⟩ rfl (.slice none 0 0) (.slice none 0 0) w)
  have HKI := Lib.hid (fun W => kind_any ⟨1, 0, 0, [], []⟩ (.slice none 0 0) (.slice none 0 0) W)
  have HF1 := Lib.hid (fun W => falls_any ⟨3, 0, 0, [], []⟩ (.slice none 0 0) (.slice none 0 0) W (nt W) (nm W) (by simp) (by simp) (by simp))
  have HF2 := Lib.hid (fun W => falls_any ⟨1, 0, 0, [], []⟩ (.slice none 0 0) (.slice none 0 0) W (nt W) (nm W) (by simp) (by simp) (by simp))
  rw [dyn3 rfl] at HAS HF1
  rw [dyn1 rfl] at HKI HF2
  clear nt nm
  simp only [show Ask.kind ⟨1, 0, 0, [], []⟩ = 1 from rfl, show (!decide ((3 : Int) = 1)) = true from rfl, decide_true, Bool.not_true] at HKI HF1 HF2
  go_enter Tryd.func7, Tryd.ntmps7
  go_wp2_with fail
  refine HAS.out.mono ?_
  rintro e w1 ⟨rfl, hb1⟩
  have HB1 := Lib.hid hb1
  clear hb1
  go_wp2_with fail
  refine (HKI.out _).mono ?_
  rintro e w9 ⟨rfl, hx⟩
  have hx4 := Eq.symm hx
  clear hx
  subst hx4
  have HB2 := Lib.hid (HB1.out.alloc HB1.out.size (.cells #[.int .i64 3, .int .i64 0] 55))
  generalize w1.alloc (.cells #[.int .i64 3, .int .i64 0] 55) = w2 at HB2 ⊢
  go_wp2_with fail
  refine (HF1.out _).mono ?_
  rintro e w3 ⟨rfl, hb3⟩
  have HB3 := Lib.hid (below_mid12 HB2.out hb3)
  clear hb3
  go_wp2_with fail
  refine (HF2.out _).mono ?_
  rintro e w4 ⟨rfl, hb4⟩
  have HB4 := Lib.hid (below_mid12 HB3.out hb4)
  clear hb4
  go_wp2_with fail
  go_ret
  exact ⟨rfl, HB4.out⟩

end Go.Proofs.YtaghogfkkmphoaaDoor.E4

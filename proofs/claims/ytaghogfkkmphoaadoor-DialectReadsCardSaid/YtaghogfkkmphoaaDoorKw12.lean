/-
  dialect.hasOfEach, Keeps: DOES A QUESTION ASK FOR AN ENTRY?
-/
import Derived.Test.YtaghogfkkmphoaaDoorCw12
import Derived.Test.YtaghogfkkmphoaaDoorHw
import Derived.Laws.EntriesVeiled
namespace Go.Proofs.YtaghogfkkmphoaaDoor.E4
open Go.RowKit Go

theorem enters_h1 : ∀ args w, (callFunc 63 args).run Tryd.prog w = .ok (.enter 63 args) w := enters_of Tryd.func63 (by kernel_rfl) rfl
theorem enters_h2 : ∀ args w, (callFunc 65 args).run Tryd.prog w = .ok (.enter 65 args) w := enters_of Tryd.func65 (by kernel_rfl) rfl

set_option maxRecDepth 100000 in
theorem has_fn (s : ByteArray) (hs : s.size ≤ 1048576) (B : Nat) (t : ByteArray) (w : World) (hB : Bl w B 9 #[.string s]) :
    Calls Tryd.prog 63 (#[.string t] ++ #[.pointer (some ⟨B, 0, none⟩)]) w fun e w' => e = .returned (.bool (H3.hasB s t)) ∧ Below w.heap.size w w' := by
  have HC := Lib.hid (H3.has_any s t (by omega) w)
  have c0 := hB.cell 0
  simp only [List.getElem?_toArray, List.getElem?_cons_zero] at c0
  clear hB
  generalize H3.hasB s t = r at HC ⊢
  go_enter Tryd.func63, Tryd.ntmps63
  go_wp2_with (go_at_call 64; refine HC.out.mono ?_; rintro e w' ⟨rfl, hb'⟩)
  go_ret
  exact ⟨rfl, hb'⟩

/-- Has a line one of these words? -/
def oneOf (s : ByteArray) (l : List ByteArray) : Bool := l.any (H3.hasB s)

set_option maxRecDepth 100000 in
theorem lacks_fn (s : ByteArray) (hs : s.size ≤ 1048576) (B C : Nat) (l : List ByteArray) (rv : Value) (w : World) (hB : Bl w B 9 #[.string s]) (hC : Bl w C 52 #[.func (.func 63) #[] #[.pointer (some ⟨B, 0, none⟩)]]) (hl : StrsAt w rv l) :
    Calls Tryd.prog 65 (#[rv] ++ #[.pointer (some ⟨C, 0, none⟩)]) w fun e w' => e = .returned (.bool (!oneOf s l)) ∧ Below w.heap.size w w' := by
  obtain ⟨a, c, rfl, hz1, hz2⟩ := id hl
  clear hz1 hz2
  have HC := Lib.hid (contains_strs 63 #[.pointer (some ⟨B, 0, none⟩)] enters_h1 (H3.hasB s) l a c w hl fun W x hW => has_fn s hs B x W (hB.below hW))
  have c0 := hC.cell 0
  simp only [List.getElem?_toArray, List.getElem?_cons_zero] at c0
  clear hB hC hl
  unfold oneOf
  generalize l.any (H3.hasB s) = r at HC ⊢
  go_enter Tryd.func65, Tryd.ntmps65
  go_wp2_with (go_at_call 57; refine HC.out.mono ?_; rintro e w' ⟨rfl, hb'⟩)
  go_ret
  exact ⟨rfl, hb'⟩

set_option maxRecDepth 100000 in
theorem hasOfEach_any (s : ByteArray) (hs : s.size ≤ 1048576) (ls : List (List ByteArray)) (av : Value) (w : World) (h : TextsAt w av ls) :
    Calls Tryd.prog 31 #[.string s, av] w fun e w' => e = .returned (.bool (ls.all (oneOf s))) ∧ Below w.heap.size w w' := by
  have hmf : ∀ (fn : Fn) (first cap : Array Value) (w : World), (Instr.makeFunc fn first cap).run Tryd.prog w = .ok (.func fn first cap) w := fun _ _ _ _ => rfl
  obtain ⟨a, c, rfl, hz1, hz2⟩ := id h
  clear hz1 hz2
  obtain ⟨w1, hw1⟩ : ∃ w1, w1 = w.alloc (.cells #[.string s] 9) := ⟨_, rfl⟩
  have hb1 : Below w.heap.size w w1 := by rw [hw1]; exact (Below.refl _ w).alloc (Nat.le_refl _) _
  have hk1 : Bl w1 w.heap.size 9 #[.string s] := by rw [hw1]; exact Bl.new w 9 _
  have hs1 : w1.heap.size = w.heap.size + 1 := by rw [hw1]; simp
  obtain ⟨w2, hw2⟩ : ∃ w2, w2 = w1.alloc (.cells #[.func (.func 63) #[] #[.pointer (some ⟨w.heap.size, 0, none⟩)]] 52) := ⟨_, rfl⟩
  have hb2 : Below w1.heap.size w1 w2 := by rw [hw2]; exact (Below.refl _ w1).alloc (Nat.le_refl _) _
  have hk2 : Bl w2 (w.heap.size + 1) 52 #[.func (.func 63) #[] #[.pointer (some ⟨w.heap.size, 0, none⟩)]] := by rw [hw2, ← hs1]; exact Bl.new w1 52 _
  have HC := Lib.hid (contains_rows 65 #[.pointer (some ⟨w.heap.size + 1, 0, none⟩)] enters_h2 (fun l => !oneOf s l) ls a c w2 (h.below (below_mid12 hb1 hb2)) fun W x rv hW hx => lacks_fn s hs _ _ x rv W ((hk1.below hb2).below hW) (hk2.below hW) hx)
  have HB := Lib.hid (below_mid12 hb1 hb2)
  rw [hw1] at hw2
  have HW := Lib.hid hw2.symm
  rw [show ls.all (oneOf s) = !ls.any (fun l => !oneOf s l) by simp [List.all_eq_not_any_not]]
  generalize ls.any (fun l => !oneOf s l) = r at HC ⊢
  clear h hw1 hb1 hk1 hs1 hw2 hb2 hk2
  go_enter Tryd.func31, Tryd.ntmps31
  go_upto_region 3 with fail
  rw [HW.out]
  go_wp2_with (go_at_call 58; refine HC.out.mono ?_; rintro e w' ⟨rfl, hb'⟩)
  go_ret
  exact ⟨rfl, below_mid12 HB.out hb'⟩

/-- Does a question ask for an entry? -/
def Ask.asks (a : Ask) (e : Ent) : Bool :=
  decide ((1 ≤ a.kd ∧ a.kd ≤ 3) ∧ a.src ≤ e.tm ∧ e.tm ≤ a.til) && (if a.kd = 2 then a.mat.all (keepsM e) else if a.kd = 3 then true else a.all.all (oneOf e.line))
theorem asks_no {a : Ask} {e : Ent} (h : a.kd < 1 ∨ 3 < a.kd ∨ e.tm < a.src ∨ a.til < e.tm) : a.asks e = false := by
  unfold Ask.asks
  rw [decide_eq_false (by omega)]
  rfl
theorem asks_in {a : Ask} {e : Ent} (h : (1 ≤ a.kd ∧ a.kd ≤ 3) ∧ a.src ≤ e.tm ∧ e.tm ≤ a.til) : a.asks e = if a.kd = 2 then a.mat.all (keepsM e) else if a.kd = 3 then true else a.all.all (oneOf e.line) := by
  unfold Ask.asks
  rw [decide_eq_true h]
  rfl

set_option maxHeartbeats 4000000 in
set_option maxRecDepth 100000 in
theorem ownKeeps_any (a : Ask) (av mv : Value) (e : Ent) (lv : Value) (w : World) (h1 : TextsAt w av a.all) (h2 : MsAt w mv a.mat) (he : LabsAt (fun _ => True) w lv e.labs) (hs : e.line.size ≤ 1048576) :
    Calls Tryd.prog 14 #[a.dyn av mv, e.val lv] w fun x w' => x = .returned (.bool (a.asks e)) ∧ Below w.heap.size w w' := by
  have q1 := is59_yes
  have q2 := is59_nil
  have q3 := is59_no66
  have q4 := is59_no55
  have r1 := is66_yes
  have r2 := is66_nil
  have r3 := is66_no55
  have s1 := is55_yes
  have s2 := is55_nil
  obtain ⟨aa, ca, rfl, hz1, hz2⟩ := id h1
  obtain ⟨am, cm, rfl, hz3, hz4⟩ := id h2
  obtain ⟨al, cl, rfl, hz5, hz6⟩ := id he
  clear hz1 hz2 hz3 hz4 hz5 hz6
  obtain ⟨w1, hw1⟩ : ∃ w1, w1 = w.alloc (.cells #[.int .i64 e.tm, .slice al e.labs.length cl, .string e.line] 28) := ⟨_, rfl⟩
  have hb1 : Below w.heap.size w w1 := by rw [hw1]; exact (Below.refl _ w).alloc (Nat.le_refl _) _
  have hk1 : Bl w1 w.heap.size 28 #[.int .i64 e.tm, .slice al e.labs.length cl, .string e.line] := by rw [hw1]; exact Bl.new w 28 _
  have HT := Lib.hid (times_any a aa am a.all.length ca a.mat.length cm w1)
  have HW1 := Lib.hid hw1.symm
  have HB1 := Lib.hid hb1
  have HK1 := Lib.hid hk1
  have H1 := Lib.hid (h1.below hb1)
  have H2 := Lib.hid (MsAt.below12 h2 hb1)
  have H3 := Lib.hid (E4.labs_below he hb1)
  clear h1 h2 he hw1 hb1 hk1
  simp only [Ent.val]
  by_cases hk : 1 ≤ a.kd ∧ a.kd ≤ 3
  · have ht : a.times = .tuple #[.int .i64 a.src, .int .i64 a.til, .bool true] := by unfold Ask.times Ask.timed; rw [decide_eq_true hk]; rfl
    rw [ht] at HT
    clear ht
    have HKD := Lib.hid hk
    clear hk
    obtain ⟨dv, hdv⟩ : ∃ v, v = a.dyn (.slice aa a.all.length ca) (.slice am a.mat.length cm) := ⟨_, rfl⟩
    rw [← hdv] at HT ⊢
    have HDV := Lib.hid hdv
    clear hdv
    by_cases k1 : e.tm < a.src
    · have HNO : Hid (a.asks e = false) := Lib.hid (asks_no (by omega))
      go_enter Tryd.func14, Tryd.ntmps14
      go_upto_region 1 with fail
      rw [HW1.out]
      go_wp2_with (go_at_call 11; refine HT.out.mono ?_; rintro x w2 ⟨rfl, hb2⟩; have HB2 := Lib.hid (below_mid12 HB1.out hb2); have c0 := (HK1.out.below hb2).cell 0; simp only [List.getElem?_toArray, List.getElem?_cons_zero] at c0; clear hb2)
      go_ret
      exact ⟨by rw [HNO.out]; rfl, HB2.out⟩
    by_cases k2 : a.til < e.tm
    · have HNO : Hid (a.asks e = false) := Lib.hid (asks_no (by omega))
      go_enter Tryd.func14, Tryd.ntmps14
      go_upto_region 1 with fail
      rw [HW1.out]
      go_wp2_with (go_at_call 11; refine HT.out.mono ?_; rintro x w2 ⟨rfl, hb2⟩; have HB2 := Lib.hid (below_mid12 HB1.out hb2); have c0 := (HK1.out.below hb2).cell 0; simp only [List.getElem?_toArray, List.getElem?_cons_zero] at c0; clear hb2)
      go_ret
      exact ⟨by rw [HNO.out]; rfl, HB2.out⟩
    have HIN : Hid (a.asks e = if a.kd = 2 then a.mat.all (keepsM e) else if a.kd = 3 then true else a.all.all (oneOf e.line)) := Lib.hid (asks_in ⟨HKD.out, by omega, by omega⟩)
    go_enter Tryd.func14, Tryd.ntmps14
    go_upto_region 1 with fail
    rw [HW1.out]
    go_upto_region 5 with (go_at_call 11; refine HT.out.mono ?_; rintro x w2 ⟨rfl, hb2⟩; have HB2 := Lib.hid (below_mid12 HB1.out hb2); have HK2 := Lib.hid (HK1.out.below hb2); have H1 := Lib.hid (H1.out.below hb2); have H2 := Lib.hid (MsAt.below12 H2.out hb2); have H3 := Lib.hid (E4.labs_below H3.out hb2); have c0 := HK2.out.cell 0; simp only [List.getElem?_toArray, List.getElem?_cons_zero] at c0; clear hb2)
    have hdv := HDV.out
    by_cases q1 : a.kd = 1
    · rw [dyn1 q1] at hdv
      subst hdv
      have HG : Hid (a.asks e = a.all.all (oneOf e.line)) := Lib.hid (by rw [HIN.out, if_neg (by omega), if_neg (by omega)])
      have hb3 := (Below.refl _ w2).alloc (Nat.le_refl _) (.cells #[.int .i64 a.src, .int .i64 a.til, .slice aa a.all.length ca] 59)
      have hn3 := Bl.new w2 59 #[.int .i64 a.src, .int .i64 a.til, .slice aa a.all.length ca]
      obtain ⟨w3, hw3⟩ : ∃ w3, w3 = w2.alloc (.cells #[.int .i64 a.src, .int .i64 a.til, .slice aa a.all.length ca] 59) := ⟨_, rfl⟩
      rw [← hw3] at hb3 hn3
      have HC := Lib.hid (hasOfEach_any e.line hs a.all _ w3 (H1.out.below hb3))
      have HW3 := Lib.hid hw3.symm
      have HB3 := Lib.hid (below_mid12 HB2.out hb3)
      have c2 := (HK2.out.below hb3).cell 2
      have d2 := hn3.cell 2
      simp only [List.getElem?_toArray, List.getElem?_cons_succ, List.getElem?_cons_zero] at c2 d2
      clear q1 hw3 hb3 hn3 c0 H1 H2 H3 HK2
      go_upto_region 7 with fail
      rw [HW3.out]
      go_wp2_with (go_at_call 31; refine HC.out.mono ?_; rintro x w4 ⟨rfl, hb4⟩)
      go_ret
      exact ⟨by rw [HG.out]; rfl, below_mid12 HB3.out hb4⟩
    by_cases q2 : a.kd = 2
    · rw [dyn2 q2] at hdv
      subst hdv
      have HG : Hid (a.asks e = a.mat.all (keepsM e)) := Lib.hid (by rw [HIN.out, if_pos q2])
      have hb3 := (Below.refl _ w2).alloc (Nat.le_refl _) (.cells #[.int .i64 a.src, .int .i64 a.til, .slice am a.mat.length cm] 66)
      have hn3 := Bl.new w2 66 #[.int .i64 a.src, .int .i64 a.til, .slice am a.mat.length cm]
      obtain ⟨w3, hw3⟩ : ∃ w3, w3 = w2.alloc (.cells #[.int .i64 a.src, .int .i64 a.til, .slice am a.mat.length cm] 66) := ⟨_, rfl⟩
      rw [← hw3] at hb3 hn3
      have HC := Lib.hid (labels_any a.mat _ e _ w3 (MsAt.below12 H2.out hb3) (E4.labs_below H3.out hb3))
      simp only [Ent.val] at HC
      have HW3 := Lib.hid hw3.symm
      have HB3 := Lib.hid (below_mid12 HB2.out hb3)
      have c0 := (HK2.out.below hb3).cell 0
      have c1 := (HK2.out.below hb3).cell 1
      have c2 := (HK2.out.below hb3).cell 2
      have d2 := hn3.cell 2
      simp only [List.getElem?_toArray, List.getElem?_cons_succ, List.getElem?_cons_zero] at c0 c1 c2 d2
      clear q1 q2 hw3 hb3 hn3 H1 H2 H3 HK2
      go_upto_region 10 with fail
      rw [HW3.out]
      go_wp2_with (go_at_call 32; refine HC.out.mono ?_; rintro x w4 ⟨rfl, hb4⟩)
      go_ret
      exact ⟨by rw [HG.out]; rfl, below_mid12 HB3.out hb4⟩
    · have h12 := HKD.out
      have q3 : a.kd = 3 := by omega
      rw [dyn3 q3] at hdv
      subst hdv
      have HG : Hid (a.asks e = true) := Lib.hid (by rw [HIN.out, if_neg q2, if_pos q3])
      clear q1 q2 q3 h12 c0 H1 H2 H3 HK2
      go_wp2_with fail
      go_ret
      exact ⟨by rw [HG.out]; rfl, HB2.out⟩
  · have ht : a.times = .tuple #[.int .i64 0, .int .i64 0, .bool false] := by unfold Ask.times Ask.timed; rw [decide_eq_false hk]; rfl
    rw [ht] at HT
    have HNO : Hid (a.asks e = false) := Lib.hid (asks_no (by omega))
    rw [dyn0 hk] at HT ⊢
    clear ht hk
    go_enter Tryd.func14, Tryd.ntmps14
    go_upto_region 1 with fail
    rw [HW1.out]
    go_wp2_with (go_at_call 11; refine HT.out.mono ?_; rintro x w2 ⟨rfl, hb2⟩)
    go_ret
    exact ⟨by rw [HNO.out]; rfl, below_mid12 HB1.out hb2⟩

end Go.Proofs.YtaghogfkkmphoaaDoor.E4

/-
  QUESTIONS OF SCANS: whether one can be, and what it asks for; the program's answers, and the document's.
-/
import Derived.Test.YtdjddlebjbngfaaGreatDoorTy12
import Derived.Test.YtdjddlebjbngfaaGreatDoorBs13
namespace Go.Proofs.YtdjddlebjbngfaaGreatDoor.E4
open Go.RowKit Go

/-- Its times can be. -/
def Ask.gd (a : Ask) : Bool := timeOK a.src && timeOK a.til
/-- An entry of these times. -/
def inT (src til : Int) (e : Ent) : Bool := decide (src ≤ e.tm) && decide (e.tm ≤ til)
theorem inT_no {src til : Int} {e : Ent} (h : e.tm < src ∨ til < e.tm) : inT src til e = false := by
  unfold inT
  rcases h with h | h
  · rw [decide_eq_false (by omega), Bool.false_and]
  · rw [decide_eq_false (p := e.tm ≤ til) (by omega), Bool.and_false]
theorem inT_yes {src til : Int} {e : Ent} (h1 : ¬ e.tm < src) (h2 : ¬ til < e.tm) : inT src til e = true := by
  unfold inT
  rw [decide_eq_true (by omega), decide_eq_true (by omega)]
  rfl
theorem gd_no {a : Ask} (h : 1099511627776 < a.src ∨ a.src < -1099511627776 ∨ 1099511627776 < a.til ∨ a.til < -1099511627776) : a.gd = false := by
  unfold Ask.gd timeOK
  rw [Bool.eq_false_iff]
  intro hh
  simp only [Bool.and_eq_true, decide_eq_true_eq] at hh
  omega
theorem gd_yes {a : Ask} (h1 : ¬ 1099511627776 < a.src) (h2 : ¬ a.src < -1099511627776) (h3 : ¬ 1099511627776 < a.til) (h4 : ¬ a.til < -1099511627776) : a.gd = true := by
  unfold Ask.gd timeOK
  simp only [Bool.and_eq_true, decide_eq_true_eq]
  omega

theorem times3 {a : Ask} (h : a.kd = 3) : a.times = .tuple #[.int .i64 a.src, .int .i64 a.til, .bool true] := by unfold Ask.times Ask.timed; rw [decide_eq_true (by omega)]; rfl

set_option maxHeartbeats 4000000 in
set_option maxRecDepth 100000 in
/-- dialect.Good. -/
theorem ownGood3 (a : Ask) (hk : a.kd = 3) (x y : Option Addr) (n c m d : Nat) (w : World) :
    Calls Tryz.prog 24 #[a.dyn (.slice x n c) (.slice y m d)] w fun x w' => x = .returned (.bool a.gd) ∧ Below w.heap.size w w' := by
  have q4 := is63_no51
  have r3 := is65_no51
  have HT := Lib.hid (times_any a x y n c m d w)
  rw [times3 hk] at HT
  obtain ⟨dv, hdv⟩ : ∃ v, v = a.dyn (.slice x n c) (.slice y m d) := ⟨_, rfl⟩
  rw [← hdv] at HT ⊢
  rw [dyn3 hk] at hdv
  have HDV := Lib.hid hdv
  have HTA := Lib.hid (time_any a.src)
  have HTB := Lib.hid (time_any a.til)
  clear hdv hk
  cases e1 : timeOK a.src with
  | false =>
    have HNO : Hid (a.gd = false) := Lib.hid (by unfold Ask.gd; rw [e1]; rfl)
    rw [e1] at HTA
    clear e1
    go_enter Tryz.func24, Tryz.ntmps24
    go_wp2_with (first | (go_at_call 38; refine HT.out.mono ?_; rintro x w2 ⟨rfl, hb2⟩) | (go_at_call 39; refine (HTA.out _).mono ?_; rintro x w3 ⟨rfl, rfl⟩))
    go_ret
    exact ⟨by rw [HNO.out]; rfl, hb2⟩
  | true =>
  cases e2 : timeOK a.til with
  | false =>
    have HNO : Hid (a.gd = false) := Lib.hid (by unfold Ask.gd; rw [e1, e2]; rfl)
    rw [e1] at HTA
    rw [e2] at HTB
    clear e1 e2
    go_enter Tryz.func24, Tryz.ntmps24
    go_wp2_with (first | (go_at_call 38; refine HT.out.mono ?_; rintro x w2 ⟨rfl, hb2⟩) | (go_at_call 39; (first | (with_reducible refine (HTA.out _).mono ?_) | (with_reducible refine (HTB.out _).mono ?_)); rintro x w3 ⟨rfl, hx3⟩; have hx4 := Eq.symm hx3; clear hx3; subst hx4))
    go_ret
    exact ⟨by rw [HNO.out]; rfl, hb2⟩
  | true =>
  have HG : Hid (a.gd = true) := Lib.hid (by unfold Ask.gd; rw [e1, e2]; rfl)
  rw [e1] at HTA
  rw [e2] at HTB
  clear e1 e2
  go_enter Tryz.func24, Tryz.ntmps24
  go_upto_region 5 with (first | (go_at_call 38; refine HT.out.mono ?_; rintro x w2 ⟨rfl, hb2⟩; have HB2 := Lib.hid hb2; clear hb2) | (go_at_call 39; (first | (with_reducible refine (HTA.out _).mono ?_) | (with_reducible refine (HTB.out _).mono ?_)); rintro x w3 ⟨rfl, hx3⟩; have hx4 := Eq.symm hx3; clear hx3; subst hx4))
  have hdv := HDV.out
  subst hdv
  go_wp2_with fail
  go_ret
  exact ⟨by rw [HG.out]; rfl, HB2.out⟩

set_option maxHeartbeats 4000000 in
set_option maxRecDepth 100000 in
/-- dialect.Keeps. -/
theorem ownKeeps3 (a : Ask) (hk : a.kd = 3) (x y : Option Addr) (n c m d : Nat) (e : Ent) (al : Option Addr) (nl cl : Nat) (w : World) :
    Calls Tryz.prog 49 #[a.dyn (.slice x n c) (.slice y m d), .agg #[.int .i64 e.tm, .slice al nl cl, .string e.line]] w fun x w' => x = .returned (.bool (inT a.src a.til e)) ∧ Below w.heap.size w w' := by
  have q4 := is63_no51
  have r3 := is65_no51
  obtain ⟨w1, hw1⟩ : ∃ w1, w1 = w.alloc (.cells #[.int .i64 e.tm, .slice al nl cl, .string e.line] 29) := ⟨_, rfl⟩
  have hb1 : Below w.heap.size w w1 := by rw [hw1]; exact (Below.refl _ w).alloc (Nat.le_refl _) _
  have hk1 : Bl w1 w.heap.size 29 #[.int .i64 e.tm, .slice al nl cl, .string e.line] := by rw [hw1]; exact Bl.new w 29 _
  have HT := Lib.hid (times_any a x y n c m d w1)
  rw [times3 hk] at HT
  obtain ⟨dv, hdv⟩ : ∃ v, v = a.dyn (.slice x n c) (.slice y m d) := ⟨_, rfl⟩
  rw [← hdv] at HT ⊢
  rw [dyn3 hk] at hdv
  have HDV := Lib.hid hdv
  have HW1 := Lib.hid hw1.symm
  have HB1 := Lib.hid hb1
  have HK1 := Lib.hid hk1
  clear hdv hk hw1 hb1 hk1
  by_cases k1 : e.tm < a.src
  · have HNO : Hid (inT a.src a.til e = false) := Lib.hid (inT_no (.inl k1))
    go_enter Tryz.func49, Tryz.ntmps49
    go_upto_region 1 with fail
    rw [HW1.out]
    go_wp2_with (go_at_call 38; refine HT.out.mono ?_; rintro x w2 ⟨rfl, hb2⟩; have HB2 := Lib.hid (below_mid12 HB1.out hb2); have c0 := (HK1.out.below hb2).cell 0; simp only [List.getElem?_toArray, List.getElem?_cons_zero] at c0; clear hb2)
    go_ret
    exact ⟨by rw [HNO.out]; rfl, HB2.out⟩
  by_cases k2 : a.til < e.tm
  · have HNO : Hid (inT a.src a.til e = false) := Lib.hid (inT_no (.inr k2))
    go_enter Tryz.func49, Tryz.ntmps49
    go_upto_region 1 with fail
    rw [HW1.out]
    go_wp2_with (go_at_call 38; refine HT.out.mono ?_; rintro x w2 ⟨rfl, hb2⟩; have HB2 := Lib.hid (below_mid12 HB1.out hb2); have c0 := (HK1.out.below hb2).cell 0; simp only [List.getElem?_toArray, List.getElem?_cons_zero] at c0; clear hb2)
    go_ret
    exact ⟨by rw [HNO.out]; rfl, HB2.out⟩
  have HG : Hid (inT a.src a.til e = true) := Lib.hid (inT_yes k1 k2)
  go_enter Tryz.func49, Tryz.ntmps49
  go_upto_region 1 with fail
  rw [HW1.out]
  go_upto_region 5 with (go_at_call 38; refine HT.out.mono ?_; rintro x w2 ⟨rfl, hb2⟩; have HB2 := Lib.hid (below_mid12 HB1.out hb2); have c0 := (HK1.out.below hb2).cell 0; simp only [List.getElem?_toArray, List.getElem?_cons_zero] at c0; clear hb2)
  have hdv := HDV.out
  subst hdv
  go_wp2_with fail
  go_ret
  exact ⟨by rw [HG.out]; rfl, HB2.out⟩

set_option maxHeartbeats 4000000 in
set_option maxRecDepth 100000 in
/-- The document's Good. -/
theorem refGood3 (a : Ask) (hk : a.kd = 3) (v : Value) (w : World) (h : AskAt w v a) :
    Calls Tryz.prog 17 #[v] w fun e w' => e = .returned (.bool a.gd) ∧ Below w.heap.size w w' := by
  obtain ⟨av, mv, rfl, hall, hmat⟩ := h
  obtain ⟨aa, ca, rfl, _⟩ := id hall
  obtain ⟨am, cm, rfl, _⟩ := id hmat
  unfold Ask.cells
  obtain ⟨w1, hw1⟩ : ∃ w1, w1 = w.alloc (.cells #[.int .i64 a.kd, .int .i64 a.src, .int .i64 a.til, .slice aa a.all.length ca, .slice am a.mat.length cm] 26) := ⟨_, rfl⟩
  have hb1 : Below w.heap.size w w1 := by rw [hw1]; exact (Below.refl _ w).alloc (Nat.le_refl _) _
  have hk1 : Bl w1 w.heap.size 26 #[.int .i64 a.kd, .int .i64 a.src, .int .i64 a.til, .slice aa a.all.length ca, .slice am a.mat.length cm] := by rw [hw1]; exact Bl.new w 26 _
  have HW1 := Lib.hid hw1.symm
  have HB1 := Lib.hid hb1
  have c0 := hk1.cell 0
  have c1 := hk1.cell 1
  have c2 := hk1.cell 2
  simp only [List.getElem?_toArray, List.getElem?_cons_succ, List.getElem?_cons_zero] at c0 c1 c2
  clear hall hmat hw1 hb1 hk1
  rw [hk] at c0 HW1 ⊢
  go_enter Tryz.func17, Tryz.ntmps17
  go_upto_region 1 with fail
  rw [HW1.out]
  by_cases k3 : 1099511627776 < a.src
  · have HNO : Hid (a.gd = false) := Lib.hid (gd_no (by omega))
    go_wp2_with fail
    go_ret
    exact ⟨by rw [HNO.out]; rfl, HB1.out⟩
  by_cases k4 : a.src < -1099511627776
  · have HNO : Hid (a.gd = false) := Lib.hid (gd_no (by omega))
    go_wp2_with fail
    go_ret
    exact ⟨by rw [HNO.out]; rfl, HB1.out⟩
  by_cases k5 : 1099511627776 < a.til
  · have HNO : Hid (a.gd = false) := Lib.hid (gd_no (by omega))
    go_wp2_with fail
    go_ret
    exact ⟨by rw [HNO.out]; rfl, HB1.out⟩
  by_cases k6 : a.til < -1099511627776
  · have HNO : Hid (a.gd = false) := Lib.hid (gd_no (by omega))
    go_wp2_with fail
    go_ret
    exact ⟨by rw [HNO.out]; rfl, HB1.out⟩
  have HG : Hid (a.gd = true) := Lib.hid (gd_yes k3 k4 k5 k6)
  go_wp2_with fail
  go_ret
  exact ⟨by rw [HG.out]; rfl, HB1.out⟩

set_option maxHeartbeats 4000000 in
set_option maxRecDepth 100000 in
/-- The document's Keeps. -/
theorem refKeeps3 (a : Ask) (hk : a.kd = 3) (v : Value) (e : Ent) (al : Option Addr) (nl cl : Nat) (w : World) (h : AskAt w v a) :
    Calls Tryz.prog 29 #[v, .agg #[.int .i64 e.tm, .slice al nl cl, .string e.line]] w fun x w' => x = .returned (.bool (inT a.src a.til e)) ∧ Below w.heap.size w w' := by
  obtain ⟨av, mv, rfl, hall, hmat⟩ := h
  obtain ⟨aa, ca, rfl, _⟩ := id hall
  obtain ⟨am, cm, rfl, _⟩ := id hmat
  unfold Ask.cells
  obtain ⟨w1, hw1⟩ : ∃ w1, w1 = w.alloc (.cells #[.int .i64 a.kd, .int .i64 a.src, .int .i64 a.til, .slice aa a.all.length ca, .slice am a.mat.length cm] 26) := ⟨_, rfl⟩
  have hb1 : Below w.heap.size w w1 := by rw [hw1]; exact (Below.refl _ w).alloc (Nat.le_refl _) _
  have hk1 : Bl w1 w.heap.size 26 #[.int .i64 a.kd, .int .i64 a.src, .int .i64 a.til, .slice aa a.all.length ca, .slice am a.mat.length cm] := by rw [hw1]; exact Bl.new w 26 _
  obtain ⟨w2, hw2⟩ : ∃ w2, w2 = w1.alloc (.cells #[.int .i64 e.tm, .slice al nl cl, .string e.line] 29) := ⟨_, rfl⟩
  have hs1 : w1.heap.size = w.heap.size + 1 := by rw [hw1]; simp
  have hb12 : Below w1.heap.size w1 w2 := by rw [hw2]; exact (Below.refl _ w1).alloc (Nat.le_refl _) _
  have hk2 : Bl w2 (w.heap.size + 1) 29 #[.int .i64 e.tm, .slice al nl cl, .string e.line] := by rw [hw2, ← hs1]; exact Bl.new w1 29 _
  have hka := Bl.below hk1 hb12
  rw [hw1] at hw2
  have HW2 := Lib.hid hw2.symm
  have HB2 := Lib.hid (below_mid12 hb1 hb12)
  have c0 := hka.cell 0
  have c1 := hka.cell 1
  have c2 := hka.cell 2
  have d0 := hk2.cell 0
  simp only [List.getElem?_toArray, List.getElem?_cons_succ, List.getElem?_cons_zero] at c0 c1 c2 d0
  clear hall hmat hw1 hw2 hb1 hb12 hk1 hk2 hka hs1
  rw [hk] at c0 HW2 ⊢
  go_enter Tryz.func29, Tryz.ntmps29
  go_upto_region 1 with fail
  rw [HW2.out]
  by_cases k3 : e.tm < a.src
  · have HNO : Hid (inT a.src a.til e = false) := Lib.hid (inT_no (.inl k3))
    go_wp2_with fail
    go_ret
    exact ⟨by rw [HNO.out]; rfl, HB2.out⟩
  by_cases k4 : a.til < e.tm
  · have HNO : Hid (inT a.src a.til e = false) := Lib.hid (inT_no (.inr k4))
    go_wp2_with fail
    go_ret
    exact ⟨by rw [HNO.out]; rfl, HB2.out⟩
  have HG : Hid (inT a.src a.til e = true) := Lib.hid (inT_yes k3 k4)
  go_wp2_with fail
  go_ret
  exact ⟨by rw [HG.out]; rfl, HB2.out⟩

end Go.Proofs.YtdjddlebjbngfaaGreatDoor.E4

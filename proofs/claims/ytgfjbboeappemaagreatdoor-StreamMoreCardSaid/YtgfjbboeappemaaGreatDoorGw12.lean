/-
  dialect.Good: CAN A QUESTION BE?
-/
import Derived.Test.YtgfjbboeappemaaGreatDoorCw12
import Derived.Test.YtgfjbboeappemaaGreatDoorGo12
import Derived.Test.YtgfjbboeappemaaGreatDoorOq8
import Derived.Laws.EntriesVeiled
namespace Go.Proofs.YtgfjbboeappemaaGreatDoor.E4
open Go.RowKit Go

theorem enters_r1 : ∀ args w, (callFunc 70 args).run Tryz.prog w = .ok (.enter 70 args) w := enters_of Tryz.func70 (by kernel_rfl) rfl
theorem enters_r2 : ∀ args w, (callFunc 71 args).run Tryz.prog w = .ok (.enter 71 args) w := enters_of Tryz.func71 (by kernel_rfl) rfl
theorem enters_m1 : ∀ args w, (callFunc 74 args).run Tryz.prog w = .ok (.enter 74 args) w := enters_of Tryz.func74 (by kernel_rfl) rfl

def longW (w : ByteArray) : Bool := decide (1024 < w.size)
theorem any_long (l : List ByteArray) : l.any longW = !l.all smallW := by
  rw [List.all_eq_not_any_not, Bool.not_not]
  congr 1
  funext w
  unfold longW smallW
  by_cases h : w.size ≤ 1024
  · rw [decide_eq_true h, decide_eq_false (by omega)]; rfl
  · rw [decide_eq_false h, decide_eq_true (by omega)]; rfl

set_option maxRecDepth 100000 in
theorem long_fn (t : ByteArray) (w : World) : Calls Tryz.prog 70 (#[.string t] ++ #[]) w fun e w' => e = .returned (.bool (longW t)) ∧ Below w.heap.size w w' := by
  by_cases h : 1024 < t.size
  · have HL : Hid (longW t = true) := Lib.hid (by unfold longW; rw [decide_eq_true h])
    have d1 : (1024 : Int) < (t.size : Int) := by omega
    clear h
    go_enter Tryz.func70, Tryz.ntmps70
    go_wp2_with fail
    go_ret
    exact ⟨by rw [HL.out]; rfl, Below.refl _ _⟩
  · have HL : Hid (longW t = false) := Lib.hid (by unfold longW; rw [decide_eq_false h])
    have d1 : ¬ (1024 : Int) < (t.size : Int) := by omega
    clear h
    go_enter Tryz.func70, Tryz.ntmps70
    go_wp2_with fail
    go_ret
    exact ⟨by rw [HL.out]; rfl, Below.refl _ _⟩

set_option maxRecDepth 100000 in
theorem wrongRow_fn (C : Nat) (l : List ByteArray) (rv : Value) (w : World) (hC : Bl w C 83 #[.func (.func 70) #[] #[]]) (hl : StrsAt w rv l) :
    Calls Tryz.prog 71 (#[rv] ++ #[.pointer (some ⟨C, 0, none⟩)]) w fun e w' => e = .returned (.bool (!rowG l)) ∧ Below w.heap.size w w' := by
  obtain ⟨a, c, rfl, hz1, hz2⟩ := id hl
  clear hz1 hz2
  have HC := Lib.hid (contains_strs 70 #[] enters_r1 longW l a c w hl fun W x _ => long_fn x W)
  have c0 := hC.cell 0
  simp only [List.getElem?_toArray, List.getElem?_cons_zero] at c0
  clear hC hl
  by_cases h : 64 < l.length
  · have HL : Hid (rowG l = false) := Lib.hid (by unfold rowG; rw [decide_eq_false (by omega)]; rfl)
    have d1 : (64 : Int) < (l.length : Int) := by omega
    clear h
    go_enter Tryz.func71, Tryz.ntmps71
    go_wp2_with fail
    go_ret
    exact ⟨by rw [HL.out]; rfl, Below.refl _ _⟩
  · have HL : Hid ((!rowG l) = l.any longW) := Lib.hid (by unfold rowG; rw [decide_eq_true (by omega), Bool.true_and, any_long])
    have d1 : ¬ (64 : Int) < (l.length : Int) := by omega
    clear h
    generalize l.any longW = r at HC HL
    go_enter Tryz.func71, Tryz.ntmps71
    go_wp2_with (go_at_call 72; refine HC.out.mono ?_; rintro e w' ⟨rfl, hb'⟩)
    go_ret
    exact ⟨by rw [HL.out]; rfl, hb'⟩

def goodR (ls : List (List ByteArray)) : Bool := ls.all rowG && decide (ls.length ≤ 64)
def goodM (isT : ByteArray → Bool) (ms : List Mt) : Bool := ms.all (matG isT) && decide (ms.length ≤ 4)

set_option maxRecDepth 100000 in
theorem goodRows_any (ls : List (List ByteArray)) (av : Value) (w : World) (h : TextsAt w av ls) :
    Calls Tryz.prog 43 #[av] w fun e w' => e = .returned (.bool (goodR ls)) ∧ Below w.heap.size w w' := by
  have hmf : ∀ (fn : Fn) (first cap : Array Value) (w : World), (Instr.makeFunc fn first cap).run Tryz.prog w = .ok (.func fn first cap) w := fun _ _ _ _ => rfl
  obtain ⟨a, c, rfl, hz1, hz2⟩ := id h
  clear hz1 hz2
  obtain ⟨w1, hw1⟩ : ∃ w1, w1 = w.alloc (.cells #[.func (.func 70) #[] #[]] 83) := ⟨_, rfl⟩
  have hb1 : Below w.heap.size w w1 := by rw [hw1]; exact (Below.refl _ w).alloc (Nat.le_refl _) _
  have hk1 : Bl w1 w.heap.size 83 #[.func (.func 70) #[] #[]] := by rw [hw1]; exact Bl.new w 83 _
  have HC := Lib.hid (contains_rows 71 #[.pointer (some ⟨w.heap.size, 0, none⟩)] enters_r2 (fun l => !rowG l) ls a c w1 (h.below hb1) fun W x rv hW hx => wrongRow_fn _ x rv W (hk1.below hW) hx)
  have HB := Lib.hid hb1
  have HW := Lib.hid hw1.symm
  clear h hw1 hb1 hk1
  by_cases h : ls.length ≤ 64
  · have HL : Hid (goodR ls = !ls.any (fun l => !rowG l)) := Lib.hid (by unfold goodR; rw [decide_eq_true h, Bool.and_true]; simp [List.all_eq_not_any_not])
    have d1 : ((ls.length : Int) ≤ 64) := by omega
    clear h
    generalize ls.any (fun l => !rowG l) = r at HC HL
    go_enter Tryz.func43, Tryz.ntmps43
    go_upto_region 2 with fail
    rw [HW.out]
    go_wp2_with (go_at_call 73; refine HC.out.mono ?_; rintro e w' ⟨rfl, hb'⟩)
    go_ret
    exact ⟨by rw [HL.out]; rfl, below_mid12 HB.out hb'⟩
  · have HL : Hid (goodR ls = false) := Lib.hid (by unfold goodR; rw [decide_eq_false h, Bool.and_false])
    have d1 : ¬ ((ls.length : Int) ≤ 64) := by omega
    clear h
    go_enter Tryz.func43, Tryz.ntmps43
    go_upto_region 2 with fail
    rw [HW.out]
    go_wp2_with fail
    go_ret
    exact ⟨by rw [HL.out]; rfl, HB.out⟩

/-- Can a text say it? -/
def isTx (s : ByteArray) : Bool := LX.isText s.data.toList

set_option maxHeartbeats 2000000 in
set_option maxRecDepth 100000 in
theorem wrongMat_fn (m : Mt) (w : World) (hT : Lib.Utf8Tabs 1 2 w) :
    Calls Tryz.prog 74 (#[m.val] ++ #[]) w fun e w' => e = .returned (.bool (!matG isTx m)) ∧ Below w.heap.size w w' := by
  obtain ⟨w1, hw1⟩ : ∃ w1, w1 = w.alloc (.cells #[.string m.name, .bool m.not, .string m.value] 59) := ⟨_, rfl⟩
  have hb1 : Below w.heap.size w w1 := by rw [hw1]; exact (Below.refl _ w).alloc (Nat.le_refl _) _
  have hk1 : Bl w1 w.heap.size 59 #[.string m.name, .bool m.not, .string m.value] := by rw [hw1]; exact Bl.new w 59 _
  have HNM := Lib.hid (name_any m.name w1)
  have HT := Lib.hid hT
  have HB1 := Lib.hid hb1
  have HK1 := Lib.hid hk1
  have HW := Lib.hid hw1.symm
  have c0 := hk1.cell 0
  simp only [List.getElem?_toArray, List.getElem?_cons_zero] at c0
  clear hT hw1 hb1 hk1
  simp only [Mt.val]
  go_enter Tryz.func74, Tryz.ntmps74
  go_upto_region 1 with fail
  rw [HW.out]
  cases hn : MW.name m.name.data.toList with
  | false =>
    rw [hn] at HNM
    have HL : Hid (matG isTx m = false) := Lib.hid (by unfold matG; rw [hn]; rfl)
    clear hn
    go_wp2_with (go_at_call 75; refine HNM.out.mono ?_; rintro e w2 ⟨rfl, hl2⟩)
    go_ret
    exact ⟨by rw [HL.out]; rfl, below_mid12 HB1.out (E4.lay_below hl2)⟩
  | true =>
    rw [hn] at HNM
    by_cases h : 1024 < m.value.size
    · have HL : Hid (matG isTx m = false) := Lib.hid (by unfold matG; rw [hn, decide_eq_false (by omega)]; rfl)
      have d1 : (1024 : Int) < (m.value.size : Int) := by omega
      clear hn h
      go_wp2_with (go_at_call 75; refine HNM.out.mono ?_; rintro e w2 ⟨rfl, hl2⟩; have c2 := (HK1.out.below (E4.lay_below hl2)).cell 2; simp only [List.getElem?_toArray, List.getElem?_cons_succ, List.getElem?_cons_zero] at c2)
      go_ret
      exact ⟨by rw [HL.out]; rfl, below_mid12 HB1.out (E4.lay_below hl2)⟩
    · have HL : Hid (matG isTx m = isTx m.value) := Lib.hid (by unfold matG; rw [hn, decide_eq_true (by omega)]; rfl)
      have d1 : ¬ (1024 : Int) < (m.value.size : Int) := by omega
      have HI := Lib.hid (fun W hW => own_isText_any m.value (by omega) W hW)
      clear hn h
      go_wp2_with (first | (go_at_call 75; refine HNM.out.mono ?_; rintro e w2 ⟨rfl, hl2⟩; have HB2 := Lib.hid (below_mid12 HB1.out (E4.lay_below hl2)); have c2 := (HK1.out.below (E4.lay_below hl2)).cell 2; simp only [List.getElem?_toArray, List.getElem?_cons_succ, List.getElem?_cons_zero] at c2; have HIT := Lib.hid (HI.out w2 (Utf8Tabs_below HT.out HB2.out)); clear hl2) | (go_at_call 76; refine HIT.out.mono ?_; rintro e w3 ⟨rfl, hb3⟩))
      go_ret
      refine ⟨?_, below_mid12 HB2.out hb3⟩
      rw [HL.out]
      show Ending.returned (.bool (decide ((1024 : Int) < (m.value.size : Int)) || !LX.isText m.value.data.toList)) = _
      rw [decide_eq_false (by omega)]
      rfl

set_option maxRecDepth 100000 in
theorem goodMatchers_any (ms : List Mt) (mv : Value) (w : World) (h : MsAt w mv ms) (hT : Lib.Utf8Tabs 1 2 w) :
    Calls Tryz.prog 44 #[mv] w fun e w' => e = .returned (.bool (goodM isTx ms)) ∧ Below w.heap.size w w' := by
  obtain ⟨a, c, rfl, hz1, hz2⟩ := id h
  clear hz1 hz2
  have HC := Lib.hid (contains_mats 74 #[] enters_m1 (fun m => !matG isTx m) ms a c w h fun W x hW => wrongMat_fn x W (Utf8Tabs_below hT hW))
  clear h hT
  by_cases h : ms.length ≤ 4
  · have HL : Hid (goodM isTx ms = !ms.any (fun l => !matG isTx l)) := Lib.hid (by unfold goodM; rw [decide_eq_true h, Bool.and_true]; simp [List.all_eq_not_any_not])
    have d1 : ((ms.length : Int) ≤ 4) := by omega
    clear h
    generalize ms.any (fun l => !matG isTx l) = r at HC HL
    go_enter Tryz.func44, Tryz.ntmps44
    go_wp2_with (go_at_call 77; refine HC.out.mono ?_; rintro e w' ⟨rfl, hb'⟩)
    go_ret
    exact ⟨by rw [HL.out]; rfl, hb'⟩
  · have HL : Hid (goodM isTx ms = false) := Lib.hid (by unfold goodM; rw [decide_eq_false h, Bool.and_false])
    have d1 : ¬ ((ms.length : Int) ≤ 4) := by omega
    clear h
    go_enter Tryz.func44, Tryz.ntmps44
    go_wp2_with fail
    go_ret
    exact ⟨by rw [HL.out]; rfl, Below.refl _ _⟩

theorem timeOK_iff (n : Int) : timeOK n = decide (-1099511627776 ≤ n ∧ n ≤ 1099511627776) := by unfold timeOK; rw [Bool.decide_and]

set_option maxHeartbeats 4000000 in
set_option maxRecDepth 100000 in
theorem ownGood_any (a : Ask) (av mv : Value) (w : World) (h1 : TextsAt w av a.all) (h2 : MsAt w mv a.mat) (hT : Lib.Utf8Tabs 1 2 w) :
    Calls Tryz.prog 25 #[a.dyn av mv] w fun x w' => x = .returned (.bool (a.good isTx)) ∧ Below w.heap.size w w' := by
  have q1 := is71_yes
  have q2 := is71_nil
  have q3 := is71_no51
  have q4 := is71_no73
  have r1 := is51_yes
  have r2 := is51_nil
  have r3 := is51_no73
  have s1 := is73_yes
  have s2 := is73_nil
  obtain ⟨aa, ca, rfl, hz1, hz2⟩ := id h1
  obtain ⟨am, cm, rfl, hz3, hz4⟩ := id h2
  clear hz1 hz2 hz3 hz4
  have HT := Lib.hid (times_any a aa am a.all.length ca a.mat.length cm w)
  have HU := Lib.hid hT
  have H1 := Lib.hid h1
  have H2 := Lib.hid h2
  clear h1 h2 hT
  by_cases hk : 1 ≤ a.kd ∧ a.kd ≤ 3
  · have ht : a.times = .tuple #[.int .i64 a.src, .int .i64 a.til, .bool true] := by unfold Ask.times Ask.timed; rw [decide_eq_true hk]; rfl
    rw [ht] at HT
    clear ht
    have HKD := Lib.hid hk
    obtain ⟨dv, hdv⟩ : ∃ v, v = a.dyn (.slice aa a.all.length ca) (.slice am a.mat.length cm) := ⟨_, rfl⟩
    rw [← hdv] at HT ⊢
    have HDV := Lib.hid hdv
    clear hdv
    cases e1 : timeOK a.src with
    | false =>
      have hx := timeOK_iff a.src
      rw [e1] at hx
      have hx' := of_decide_eq_false hx.symm
      have HNO : Hid (a.good isTx = false) := Lib.hid (good_no (by omega))
      have HTA := Lib.hid (time_any a.src)
      rw [e1] at HTA
      clear hx hx' hk e1
      go_enter Tryz.func25, Tryz.ntmps25
      go_wp2_with (first | (go_at_call 41; refine HT.out.mono ?_; rintro x w2 ⟨rfl, hb2⟩) | (go_at_call 42; refine (HTA.out _).mono ?_; rintro x w3 ⟨rfl, rfl⟩))
      go_ret
      exact ⟨by rw [HNO.out]; rfl, hb2⟩
    | true =>
    cases e2 : timeOK a.til with
    | false =>
      have hx := timeOK_iff a.til
      rw [e2] at hx
      have hx' := of_decide_eq_false hx.symm
      have HNO : Hid (a.good isTx = false) := Lib.hid (good_no (by omega))
      have HTA := Lib.hid (time_any a.src)
      rw [e1] at HTA
      have HTB := Lib.hid (time_any a.til)
      rw [e2] at HTB
      clear hx hx' hk e1 e2
      go_enter Tryz.func25, Tryz.ntmps25
      go_wp2_with (first | (go_at_call 41; refine HT.out.mono ?_; rintro x w2 ⟨rfl, hb2⟩) | (go_at_call 42; (first | (with_reducible refine (HTA.out _).mono ?_) | (with_reducible refine (HTB.out _).mono ?_)); rintro x w3 ⟨rfl, hx3⟩; have hx4 := Eq.symm hx3; clear hx3; subst hx4))
      go_ret
      exact ⟨by rw [HNO.out]; rfl, hb2⟩
    | true =>
    have hx1 := of_decide_eq_true ((timeOK_iff a.src).symm.trans e1)
    have hx2 := of_decide_eq_true ((timeOK_iff a.til).symm.trans e2)
    have HIN : Hid a.inn := Lib.hid ⟨hk, hx1, hx2⟩
    have HTA := Lib.hid (time_any a.src)
    rw [e1] at HTA
    have HTB := Lib.hid (time_any a.til)
    rw [e2] at HTB
    clear hx1 hx2 hk e1 e2
    go_enter Tryz.func25, Tryz.ntmps25
    go_upto_region 5 with (first | (go_at_call 41; refine HT.out.mono ?_; rintro x w2 ⟨rfl, hb2⟩; have HB2 := Lib.hid hb2; clear hb2) | (go_at_call 42; (first | (with_reducible refine (HTA.out _).mono ?_) | (with_reducible refine (HTB.out _).mono ?_)); rintro x w3 ⟨rfl, hx3⟩; have hx4 := Eq.symm hx3; clear hx3; subst hx4))
    have hdv := HDV.out
    by_cases k1 : a.kd = 1
    · rw [dyn1 k1] at hdv
      subst hdv
      have HG : Hid (a.good isTx = goodR a.all) := Lib.hid (good_1 HIN.out k1)
      have hb3 := (Below.refl _ w2).alloc (Nat.le_refl _) (.cells #[.int .i64 a.src, .int .i64 a.til, .slice aa a.all.length ca] 71)
      have hn3 := Bl.new w2 71 #[.int .i64 a.src, .int .i64 a.til, .slice aa a.all.length ca]
      obtain ⟨w3, hw3⟩ : ∃ w3, w3 = w2.alloc (.cells #[.int .i64 a.src, .int .i64 a.til, .slice aa a.all.length ca] 71) := ⟨_, rfl⟩
      rw [← hw3] at hb3 hn3
      have HC := Lib.hid (goodRows_any a.all _ w3 ((H1.out.below HB2.out).below hb3))
      have HW3 := Lib.hid hw3.symm
      have HB3 := Lib.hid (below_mid12 HB2.out hb3)
      have d2 := hn3.cell 2
      simp only [List.getElem?_toArray, List.getElem?_cons_succ, List.getElem?_cons_zero] at d2
      clear hw3 hb3 hn3 H1 H2
      go_upto_region 7 with fail
      rw [HW3.out]
      go_wp2_with (go_at_call 43; refine HC.out.mono ?_; rintro x w4 ⟨rfl, hb4⟩)
      go_ret
      exact ⟨by rw [HG.out]; rfl, below_mid12 HB3.out hb4⟩
    by_cases k2 : a.kd = 2
    · rw [dyn2 k2] at hdv
      subst hdv
      have HG : Hid (a.good isTx = goodM isTx a.mat) := Lib.hid (good_2 HIN.out k2)
      have hb3 := (Below.refl _ w2).alloc (Nat.le_refl _) (.cells #[.int .i64 a.src, .int .i64 a.til, .slice am a.mat.length cm] 51)
      have hn3 := Bl.new w2 51 #[.int .i64 a.src, .int .i64 a.til, .slice am a.mat.length cm]
      obtain ⟨w3, hw3⟩ : ∃ w3, w3 = w2.alloc (.cells #[.int .i64 a.src, .int .i64 a.til, .slice am a.mat.length cm] 51) := ⟨_, rfl⟩
      rw [← hw3] at hb3 hn3
      have HC := Lib.hid (goodMatchers_any a.mat _ w3 (MsAt.below12 (MsAt.below12 H2.out HB2.out) hb3) (Utf8Tabs_below HU.out (below_mid12 HB2.out hb3)))
      have HW3 := Lib.hid hw3.symm
      have HB3 := Lib.hid (below_mid12 HB2.out hb3)
      have d2 := hn3.cell 2
      simp only [List.getElem?_toArray, List.getElem?_cons_succ, List.getElem?_cons_zero] at d2
      clear hw3 hb3 hn3 H1 H2
      go_upto_region 10 with fail
      rw [HW3.out]
      go_wp2_with (go_at_call 44; refine HC.out.mono ?_; rintro x w4 ⟨rfl, hb4⟩)
      go_ret
      exact ⟨by rw [HG.out]; rfl, below_mid12 HB3.out hb4⟩
    · have h12 := HKD.out
      have k3 : a.kd = 3 := by omega
      rw [dyn3 k3] at hdv
      subst hdv
      have HG : Hid (a.good isTx = true) := Lib.hid (good_3 HIN.out k1 k2)
      clear k1 k2 k3 h12 H1 H2
      go_wp2_with fail
      go_ret
      exact ⟨by rw [HG.out]; rfl, HB2.out⟩
  · have ht : a.times = .tuple #[.int .i64 0, .int .i64 0, .bool false] := by unfold Ask.times Ask.timed; rw [decide_eq_false hk]; rfl
    rw [ht] at HT
    have HNO : Hid (a.good isTx = false) := Lib.hid (good_no (by omega))
    rw [dyn0 hk] at HT ⊢
    clear ht hk
    go_enter Tryz.func25, Tryz.ntmps25
    go_wp2_with (go_at_call 41; refine HT.out.mono ?_; rintro x w2 ⟨rfl, hb2⟩)
    go_ret
    exact ⟨by rw [HNO.out]; rfl, hb2⟩

end Go.Proofs.YtgfjbboeappemaaGreatDoor.E4

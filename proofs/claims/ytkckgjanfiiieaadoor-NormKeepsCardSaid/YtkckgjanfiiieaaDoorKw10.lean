/-
  THE PLAIN FORM KEEPS THE SAME, OF ALL LINES AND ENTRIES: the law's walk.
-/
import Derived.Test.YtkckgjanfiiieaaDoorAl10
import Derived.Test.YtkckgjanfiiieaaDoorFl10
import Derived.Test.YtkckgjanfiiieaaDoorQn10
import Derived.Test.YtkckgjanfiiieaaDoorQryB6
import Derived.Test.YtkckgjanfiiieaaDoorRq9
namespace Go.Proofs.YtkckgjanfiiieaaDoor
open Go.RowKit Go

attribute [local go_sem] Oper.semAt_some wide_fn wide_depth

theorem E4.big_line {e : E4.Ent} (h : e.big = false) : e.line.size ≤ 1000 := by
  unfold E4.Ent.big at h
  simp only [Bool.or_eq_false_iff, decide_eq_false_iff_not] at h
  omega

theorem query_fit (l : List Int) : Fit (Qy.query l).fil := by
  unfold Qy.query
  simp only
  split
  · exact fit_leaf _ _ _ (by decide) fit_nil fit_nil
  · exact make_fit l 3 _
theorem query_gd (l : List Int) : Nr.Gd (Qy.query l).fil := by
  unfold Qy.query
  simp only
  split
  · exact .const 1 (.inl rfl)
  · exact Nr.make_gd l 3 _
theorem query_small (l : List Int) : (Qy.query l).fil.count ≤ 64 ∧ (Qy.query l).mat.length ≤ 2 := by
  refine ⟨Qy.query_count l, ?_⟩
  have h := Ft.next_lt (l := l) (n := 3) (p := (Ft.next l 20 (Ft.next l 8 (Ft.next l 2 (Ft.next l 20 0).2).2).2).2) (by decide)
  unfold Qy.query
  dsimp only
  rw [Qy.mats_length]
  omega

theorem gd_whole {f : Ft} (h : Nr.Gd f) : Whole f := by
  induction h with
  | const o h => exact .mk _ _ _ _ (fun h6 => by omega) (fun _ h => by cases h)
  | leaf o n t h => exact .mk _ _ _ _ (fun h6 => by omega) (fun _ h => by cases h)
  | not x _ ih => exact .mk _ _ _ _ (fun _ => by simp) (fun y hy => by rw [List.mem_singleton] at hy; rw [hy]; exact ih)
  | row o k h h2 _ ih => exact .mk _ _ _ _ (fun h6 => by omega) ih

theorem keeps_normQ (q : Qy) (hg : Nr.Gd q.fil) (e : E4.Ent) : keepsQ (normQ q) e = keepsQ q e := by
  unfold keepsQ normQ normM
  dsimp only
  rw [Nr.norm_keeps _ hg, Nr.nub_keeps ordM]

/-- What the last line's operations leave in memory. -/
def KSp (f : Ft) (q : Qy) : Nat → Value → World → Prop
  | 1, v, w => FAt w v (Nr.norm f)
  | 12, v, w => QAt w v (normQ q)
  | _, _, _ => True
theorem KSp.below {f : Ft} {q : Qy} : ∀ j v w w', KSp f q j v w → Below w.heap.size w w' → KSp f q j v w' := by
  intro j v w w' h hb
  unfold KSp at h ⊢
  split at h
  · exact h.below hb
  · exact h.below hb
  · trivial

set_option maxHeartbeats 16000000 in
set_option maxRecDepth 100000 in
theorem keeps_walk (l : List Int) (u : Value) (e : E4.Ent) (lv : Value) (w : World) (hu : IntsAt w u l) (hl : E4.LabsAt (fun _ => True) w lv e.labs) (hT : Lib.Utf8Tabs 0 1 w) :
    Calls Tryd.prog 3 #[u, e.val lv] w fun e w' => e = .returned (.bool true) ∧ Below w.heap.size w w' := by
  obtain ⟨a, cap, rfl, hl63, _⟩ := id hu
  obtain ⟨al, cl, rfl, hll, _⟩ := id hl
  have hb0 : Below w.heap.size w (w.alloc (.cells #[.int .i64 e.tm, .slice al e.labs.length cl, .string e.line] 25)) := (Below.refl _ w).alloc (Nat.le_refl _) _
  have he0 := CB.new w 25 #[.int .i64 e.tm, .slice al e.labs.length cl, .string e.line]
  have HB0 := Lib.hid hb0
  have HU := Lib.hid (hu.belowN hb0)
  have HL := Lib.hid (E4.labs_below hl hb0)
  have HT := Lib.hid (Utf8Tabs_below hT hb0)
  have HE := Lib.hid he0
  have HA := Lib.hid (alive_any (w.alloc (.cells #[.int .i64 e.tm, .slice al e.labs.length cl, .string e.line] 25)))
  clear hu hl hb0 he0 hT
  simp only [E4.Ent.val]
  by_cases hg : 300 < l.length
  · have hd : decide (300 < (l.length : Int)) = true := by simp; omega
    go_enter Tryd.func3, Tryd.ntmps3
    go_wp2_with (go_at_call 6; refine HA.out.mono ?_; rintro e w1 ⟨rfl, hl1⟩; have hb1 := hl1.below)
    go_ret
    exact ⟨rfl, HB0.out.trans (hb1.mono HB0.out.size)⟩
  have d0 : decide (300 < (l.length : Int)) = false := by simp; omega
  clear hg
  go_enter Tryd.func3, Tryd.ntmps3
  go_wp2_with fail
  refine HA.out.mono ?_
  rintro r w1 ⟨rfl, hl1⟩
  have hb1 := hl1.below
  clear hl1
  have HB1 := Lib.hid (HB0.out.trans (hb1.mono HB0.out.size))
  have HU1 := Lib.hid (HU.out.belowN hb1)
  have HL1 := Lib.hid (E4.labs_below HL.out hb1)
  have HE1 := Lib.hid ((hb1.block _ HE.out.lt).trans HE.out)
  have HT1 := Lib.hid (Utf8Tabs_below HT.out hb1)
  have HG := Lib.hid (E4.great_any (e := e) HL1.out)
  have c0 := CB.cell HE1.out 0
  have c1 := CB.cell HE1.out 1
  have c2 := CB.cell HE1.out 2
  simp only [List.getElem?_toArray, List.getElem?_cons_succ, List.getElem?_cons_zero] at c0 c1 c2
  clear hb1 HA HB0 HU HL HE HT
  simp only [E4.Ent.val] at HG
  by_cases hbig : e.big = true
  · rw [hbig] at HG
    go_wp2_with (go_at_call 7; refine HG.out.mono ?_; rintro r w2 ⟨rfl, hb2⟩)
    go_ret
    exact ⟨rfl, HB1.out.trans ((E4.lay_below hb2).mono HB1.out.size)⟩
  have hbig := Bool.eq_false_iff.2 hbig
  have hline := E4.big_line hbig
  rw [hbig] at HG
  clear hbig
  go_wp2_with fail
  refine HG.out.mono ?_
  rintro r w2 ⟨rfl, hb2⟩
  have hb2 := E4.lay_below hb2
  have HB2 := Lib.hid (HB1.out.trans (hb2.mono HB1.out.size))
  have HU2 := Lib.hid (HU1.out.belowN hb2)
  have HL2 := Lib.hid (E4.labs_below HL1.out hb2)
  have HE2 := Lib.hid ((hb2.block _ (CB.lt HE1.out)).trans HE1.out)
  have HT2 := Lib.hid (Utf8Tabs_below HT1.out hb2)
  have HF := Lib.hid (law_filter l w2 _ HU2.out)
  clear hb2 HB1 HU1 HL1 HE1 HT1 HG c0 c1 c2
  go_wp2_with fail
  refine HF.out.mono ?_
  rintro r w3 ⟨kf, rfl, hkb3, hl3⟩
  have hkf := KsB.at _ _ hkb3
  have hb3 := hl3.below
  clear hkb3 hl3
  have HFG := Lib.hid (Nr.make_gd l 4 0)
  have HFC := Lib.hid (Ft.make_count l 4 0)
  have HFF := Lib.hid (make_fit l 4 0)
  generalize (Ft.make l 4 0).1 = f at hkf HFF HFG HFC ⊢
  obtain ⟨af, cf, rfl⟩ := id hkf.shape
  have HKF := Lib.hid hkf
  have HB3 := Lib.hid hb3
  have HQ := Lib.hid (query_any l w3 _ (HU2.out.belowN hb3))
  clear hkf hb3 HF HU2
  simp only [Ft.val]
  go_wp2_with fail
  refine HQ.out.mono ?_
  rintro r w4 ⟨vq, rfl, ⟨mv, kv, rfl, hm, hk⟩, hl4⟩
  have HQF := Lib.hid (query_fit l)
  have HQG := Lib.hid (query_gd l)
  have HQC := Lib.hid (query_small l)
  generalize Qy.query l = q at hm hk HQF HQG HQC ⊢
  obtain ⟨am, cm, rfl, hm63, _⟩ := id hm
  obtain ⟨ak, ck, rfl⟩ := hk.shape
  have hb4 := hl4.below
  have hbn : Below w4.heap.size w4 ((w4.alloc (.cells #[.int .i64 f.op, .string f.name, .string f.text, .slice af f.kids.length cf] 30)).alloc (.cells #[.int .i64 q.src, .int .i64 q.til, .slice am q.mat.length cm, .int .i64 q.fil.op, .string q.fil.name, .string q.fil.text, .slice ak q.fil.kids.length ck, .bool q.desc, .int .i64 q.lim, .string q.page] 34)) := ((Below.refl _ w4).alloc (Nat.le_refl _) _).alloc (by simp) _
  have hb3n := hb4.trans (hbn.mono hb4.size)
  have hb2n := HB3.out.trans (hb3n.mono HB3.out.size)
  have hcf : CB ((w4.alloc (.cells #[.int .i64 f.op, .string f.name, .string f.text, .slice af f.kids.length cf] 30)).alloc (.cells #[.int .i64 q.src, .int .i64 q.til, .slice am q.mat.length cm, .int .i64 q.fil.op, .string q.fil.name, .string q.fil.text, .slice ak q.fil.kids.length ck, .bool q.desc, .int .i64 q.lim, .string q.page] 34)) w4.heap.size 30 #[.int .i64 f.op, .string f.name, .string f.text, .slice af f.kids.length cf] := (Below.heap_alloc _ _ _ (by simp)).trans (CB.new w4 30 _)
  have hcq : CB ((w4.alloc (.cells #[.int .i64 f.op, .string f.name, .string f.text, .slice af f.kids.length cf] 30)).alloc (.cells #[.int .i64 q.src, .int .i64 q.til, .slice am q.mat.length cm, .int .i64 q.fil.op, .string q.fil.name, .string q.fil.text, .slice ak q.fil.kids.length ck, .bool q.desc, .int .i64 q.lim, .string q.page] 34)) (w4.heap.size + 1) 34 #[.int .i64 q.src, .int .i64 q.til, .slice am q.mat.length cm, .int .i64 q.fil.op, .string q.fil.name, .string q.fil.text, .slice ak q.fil.kids.length ck, .bool q.desc, .int .i64 q.lim, .string q.page] := by
    have := CB.new (w4.alloc (.cells #[.int .i64 f.op, .string f.name, .string f.text, .slice af f.kids.length cf] 30)) 34 #[.int .i64 q.src, .int .i64 q.til, .slice am q.mat.length cm, .int .i64 q.fil.op, .string q.fil.name, .string q.fil.text, .slice ak q.fil.kids.length ck, .bool q.desc, .int .i64 q.lim, .string q.page]
    rw [World.size_alloc] at this
    exact this
  have HCF0 := Lib.hid hcf
  have HCQ0 := Lib.hid hcq
  have HCE0 := Lib.hid ((hb2n.block _ (CB.lt HE2.out)).trans HE2.out)
  have HKF4 := Lib.hid (KsAt.below hb3n _ _ HKF.out)
  have HM4 := Lib.hid (MsAt.below hm hbn)
  have HK4 := Lib.hid (KsAt.below hbn _ _ hk)
  have HL4 := Lib.hid (E4.labs_below HL2.out hb2n)
  have HT4 := Lib.hid (Utf8Tabs_below HT2.out hb2n)
  have HB4 := Lib.hid (HB2.out.trans (hb2n.mono HB2.out.size))
  clear hm hk hl4 hb4 hbn hb3n hb2n hcf hcq HB2 HB3 HL2 HE2 HT2 HKF HQ
  simp only [Qy.val]
  go_wp2_with fail
  revert HCF0 HCQ0 HCE0 HKF4 HM4 HK4 HL4 HT4 HB4
  generalize (w4.alloc (.cells #[.int .i64 f.op, .string f.name, .string f.text, .slice af f.kids.length cf] 30)).alloc (.cells #[.int .i64 q.src, .int .i64 q.til, .slice am q.mat.length cm, .int .i64 q.fil.op, .string q.fil.name, .string q.fil.text, .slice ak q.fil.kids.length ck, .bool q.desc, .int .i64 q.lim, .string q.page] 34) = w5
  generalize w4.heap.size + 1 = C
  generalize w4.heap.size = A
  intro HCF0 HCQ0 HCE0 HKF4 HM4 HK4 HL4 HT4 HB4
  obtain ⟨E, hE⟩ : ∃ E, E = w.heap.size := ⟨_, rfl⟩
  obtain ⟨vf, hvf⟩ : ∃ vf, vf = f.val (.slice af f.kids.length cf) := ⟨_, rfl⟩
  obtain ⟨vq, hvq⟩ : ∃ vq, vq = q.val (.slice am q.mat.length cm) (.slice ak q.fil.kids.length ck) := ⟨_, rfl⟩
  obtain ⟨ve, hve⟩ : ∃ ve, ve = e.val (.slice al e.labs.length cl) := ⟨_, rfl⟩
  obtain ⟨r1, hr1⟩ : ∃ r1, r1 = keeps e.line f := ⟨_, rfl⟩
  obtain ⟨r2, hr2⟩ : ∃ r2, r2 = keepsQ q e := ⟨_, rfl⟩
  have hsz : e.line.size ≤ 100000 := by omega
  have hn1 : ∀ W, Below w5.heap.size w5 W → Calls Tryd.prog 11 #[vf] W fun x w' => ∃ u, x = .returned u ∧ FAt w' u (Nr.norm f) ∧ Below W.heap.size W w' := fun W h => by
    rw [hvf]
    exact (ownNorm_any HFG.out (by have := HFC.out; omega) W _ (KsAt.below h _ _ HKF4.out)).mono fun x w' ⟨kv, h1, h2, h3⟩ => ⟨_, h1, ⟨_, rfl, KsB.at _ _ h2⟩, h3.below⟩
  have hl1 : ∀ W v, Below w5.heap.size w5 W → FAt W v (Nr.norm f) → Calls Tryd.prog 10 #[v, .string e.line] W fun x w' => x = .returned (.bool r1) ∧ Below W.heap.size W w' := fun W v h hv => by
    have := refLine_any e.line hsz (Nr.norm f) (Nr.norm_fit HFG.out HFF.out) (gd_whole (Nr.norm_pl HFG.out).gd) W v hv (Utf8Tabs_below HT4.out h)
    rwa [Nr.norm_keeps _ HFG.out, ← hr1] at this
  have hl2 : ∀ W, Below w5.heap.size w5 W → Calls Tryd.prog 10 #[vf, .string e.line] W fun x w' => x = .returned (.bool r1) ∧ Below W.heap.size W w' := fun W h => by
    have := refLine_any e.line hsz f HFF.out (gd_whole HFG.out) W vf ⟨_, hvf, KsAt.below h _ _ HKF4.out⟩ (Utf8Tabs_below HT4.out h)
    rwa [← hr1] at this
  have hq1 : ∀ W, Below w5.heap.size w5 W → Calls Tryd.prog 13 #[vq] W fun x w' => ∃ u, x = .returned u ∧ QAt w' u (normQ q) ∧ Below W.heap.size W w' := fun W h =>
    (ownQ_any q HQG.out (by have := HQC.out.1; omega) (by have := HQC.out.2; omega) W vq ⟨_, _, hvq, MsAt.below HM4.out h, KsAt.below h _ _ HK4.out⟩).mono fun x w' ⟨u, h1, h2, h3⟩ => ⟨u, h1, h2, h3.below⟩
  have hk1 : ∀ W v, Below w5.heap.size w5 W → QAt W v (normQ q) → Calls Tryd.prog 12 #[v, ve] W fun x w' => x = .returned (.bool r2) ∧ Below W.heap.size W w' := fun W v h hv => by
    have := refQuery_keeps (normQ q) v e _ W hv (Nr.norm_fit HQG.out HQF.out) (gd_whole (Nr.norm_pl HQG.out).gd) hsz (E4.labs_below HL4.out h) (Utf8Tabs_below HT4.out h)
    rwa [keeps_normQ q HQG.out, ← hr2, ← hve] at this
  have hk2 : ∀ W, Below w5.heap.size w5 W → Calls Tryd.prog 12 #[vq, ve] W fun x w' => x = .returned (.bool r2) ∧ Below W.heap.size W w' := fun W h => by
    have := refQuery_keeps q vq e _ W ⟨_, _, hvq, MsAt.below HM4.out h, KsAt.below h _ _ HK4.out⟩ HQF.out (gd_whole HQG.out) hsz (E4.labs_below HL4.out h) (Utf8Tabs_below HT4.out h)
    rwa [← hr2, ← hve] at this
  have hcf : ∀ W, Below w5.heap.size w5 W → CB W A 30 #[.int .i64 f.op, .string f.name, .string f.text, .slice af f.kids.length cf] := fun W h => (h.block _ HCF0.out.lt).trans HCF0.out
  have hcq : ∀ W, Below w5.heap.size w5 W → CB W C 34 #[.int .i64 q.src, .int .i64 q.til, .slice am q.mat.length cm, .int .i64 q.fil.op, .string q.fil.name, .string q.fil.text, .slice ak q.fil.kids.length ck, .bool q.desc, .int .i64 q.lim, .string q.page] := fun W h => (h.block _ HCQ0.out.lt).trans HCQ0.out
  have hce : ∀ W, Below w5.heap.size w5 W → CB W E 25 #[.int .i64 e.tm, .slice al e.labs.length cl, .string e.line] := fun W h => by rw [hE]; exact (h.block _ (CB.lt HCE0.out)).trans HCE0.out
  have HN1 := Lib.hid hn1
  have HL1 := Lib.hid hl1
  have HL2 := Lib.hid hl2
  have HQ1 := Lib.hid hq1
  have HK1 := Lib.hid hk1
  have HK2 := Lib.hid hk2
  have HCF := Lib.hid hcf
  have HCQ := Lib.hid hcq
  have HCE := Lib.hid hce
  have HVF := Lib.hid hvf
  have HVQ := Lib.hid hvq
  have HVE := Lib.hid hve
  simp only [← hE]
  clear hn1 hl1 hl2 hq1 hk1 hk2 hcf hcq hce hvf hvq hve hr1 hr2 HCF0 HCQ0 HCE0 HKF4 HM4 HK4 HL4 HT4 hE HFG HFC HFF HQF HQG HQC
  refine (wpIn_wide (n := 9)).1 ?_
  refine wpIn_region_flow (fun _ => trivial) (by kernel_rfl) (fun _ _ w' => Below w5.heap.size w5 w') (fun _ _ u1 u2 => Below u1.heap.size u1 u2) (GV [some (vf), none, some (.pointer (some ⟨E, 2, none⟩)), some (.string e.line), some (.bool r1), some (vf), some (.pointer (some ⟨E, 2, none⟩)), some (.string e.line), some (.bool r1), some (.bool true), some (.bool true), some (vq), none, some (ve), some (.bool r2), some (vq), some (ve), some (.bool r2), some (.bool true), some (.bool true), some (.bool true)] [1, 12] (KSp f q)) (fun j => j == 20) (by kernel_rfl) (by kernel_rfl) (fun i j ys v u1 u2 hij _ _ hV hR => GV.keep KSp.below hij hV hR) ((Below.refl _ w5).drew) ?step ?fin
  case step =>
    refine ⟨?_, ?_, ?_, ?_, ?_, ?_, ?_, ?_, ?_, ?_, ?_, ?_, ?_, ?_, ?_, ?_, ?_, ?_, ?_, ?_, ?_, trivial⟩
    · intro listed ys X W hsz hsd hi2 hall hX hI hd K hK
      have e5 : X.tmps.getD 5 undef = .pointer (some ⟨A, 0, none⟩) := hX 5 (Nat.le_of_ble_eq_true rfl)
      have c0 := CB.cell (HCF.out W hI) 0
      have c1 := CB.cell (HCF.out W hI) 1
      have c2 := CB.cell (HCF.out W hI) 2
      have c3 := CB.cell (HCF.out W hI) 3
      simp only [List.getElem?_toArray, List.getElem?_cons_succ, List.getElem?_cons_zero] at c0 c1 c2 c3
      have HI := Lib.hid hI
      refine step_run (.inl rfl) ?_
      clear hX hd hI
      go_simp
      exact hK _ _ HI.out (Below.refl _ _) (GV.of (by decide) (fun u h => by cases h; exact HVF.out))
    · intro listed ys X W hsz hsd hi2 hall hX hI hd K hK
      have e20 : X.tmps.getD 20 undef = vf := (hX 20 (Nat.le_of_ble_eq_true rfl)).trans (GV.val (hd ⟨0, .data⟩ (by simp) rfl) (by decide) rfl)
      have HI := Lib.hid hI
      refine step_run (.inl rfl) ?_
      clear hX hd hI
      go_simp
      refine (callsIn_wide.2 (HN1.out W HI.out)).mono ?_
      rintro e u2 ⟨u, rfl, hu, hb⟩
      exact hK _ _ (HI.out.trans (hb.mono HI.out.size)) hb (GV.ofsp (by decide) hu)
    · intro listed ys X W hsz hsd hi2 hall hX hI hd K hK
      have e3 : X.tmps.getD 3 undef = .pointer (some ⟨E, 0, none⟩) := hX 3 (Nat.le_of_ble_eq_true rfl)
      have HI := Lib.hid hI
      refine step_run (.inl rfl) ?_
      clear hX hd hI
      go_simp
      exact hK _ _ HI.out (Below.refl _ _) (GV.of (by decide) (fun u h => by cases h; rfl))
    · intro listed ys X W hsz hsd hi2 hall hX hI hd K hK
      have e22 : X.tmps.getD 22 undef = .pointer (some ⟨E, 2, none⟩) := (hX 22 (Nat.le_of_ble_eq_true rfl)).trans (GV.val (hd ⟨2, .data⟩ (by simp) rfl) (by decide) rfl)
      have c0 := CB.cell (HCE.out W hI) 0
      have c1 := CB.cell (HCE.out W hI) 1
      have c2 := CB.cell (HCE.out W hI) 2
      simp only [List.getElem?_toArray, List.getElem?_cons_succ, List.getElem?_cons_zero] at c0 c1 c2
      have HI := Lib.hid hI
      refine step_run (.inl rfl) ?_
      clear hX hd hI
      go_simp
      exact hK _ _ HI.out (Below.refl _ _) (GV.of (by decide) (fun u h => by cases h; rfl))
    · intro listed ys X W hsz hsd hi2 hall hX hI hd K hK
      have e21 : X.tmps.getD 21 undef = ys 1 := hX 21 (Nat.le_of_ble_eq_true rfl)
      have HY1 := Lib.hid (show FAt W (ys 1) (Nr.norm f) from GV.sp (hd ⟨1, .data⟩ (by simp) rfl) (by decide))
      have e23 : X.tmps.getD 23 undef = .string e.line := (hX 23 (Nat.le_of_ble_eq_true rfl)).trans (GV.val (hd ⟨3, .data⟩ (by simp) rfl) (by decide) rfl)
      have HI := Lib.hid hI
      refine step_run (.inl rfl) ?_
      clear hX hd hI
      go_simp
      refine (callsIn_wide.2 (HL1.out W _ HI.out HY1.out)).mono ?_
      rintro e u2 ⟨rfl, hb⟩
      exact hK _ _ (HI.out.trans (hb.mono HI.out.size)) hb (GV.of (by decide) (fun u h => by cases h; rfl))
    · intro listed ys X W hsz hsd hi2 hall hX hI hd K hK
      have e5 : X.tmps.getD 5 undef = .pointer (some ⟨A, 0, none⟩) := hX 5 (Nat.le_of_ble_eq_true rfl)
      have c0 := CB.cell (HCF.out W hI) 0
      have c1 := CB.cell (HCF.out W hI) 1
      have c2 := CB.cell (HCF.out W hI) 2
      have c3 := CB.cell (HCF.out W hI) 3
      simp only [List.getElem?_toArray, List.getElem?_cons_succ, List.getElem?_cons_zero] at c0 c1 c2 c3
      have HI := Lib.hid hI
      refine step_run (.inl rfl) ?_
      clear hX hd hI
      go_simp
      exact hK _ _ HI.out (Below.refl _ _) (GV.of (by decide) (fun u h => by cases h; exact HVF.out))
    · intro listed ys X W hsz hsd hi2 hall hX hI hd K hK
      have e3 : X.tmps.getD 3 undef = .pointer (some ⟨E, 0, none⟩) := hX 3 (Nat.le_of_ble_eq_true rfl)
      have HI := Lib.hid hI
      refine step_run (.inl rfl) ?_
      clear hX hd hI
      go_simp
      exact hK _ _ HI.out (Below.refl _ _) (GV.of (by decide) (fun u h => by cases h; rfl))
    · intro listed ys X W hsz hsd hi2 hall hX hI hd K hK
      have e26 : X.tmps.getD 26 undef = .pointer (some ⟨E, 2, none⟩) := (hX 26 (Nat.le_of_ble_eq_true rfl)).trans (GV.val (hd ⟨6, .data⟩ (by simp) rfl) (by decide) rfl)
      have c0 := CB.cell (HCE.out W hI) 0
      have c1 := CB.cell (HCE.out W hI) 1
      have c2 := CB.cell (HCE.out W hI) 2
      simp only [List.getElem?_toArray, List.getElem?_cons_succ, List.getElem?_cons_zero] at c0 c1 c2
      have HI := Lib.hid hI
      refine step_run (.inl rfl) ?_
      clear hX hd hI
      go_simp
      exact hK _ _ HI.out (Below.refl _ _) (GV.of (by decide) (fun u h => by cases h; rfl))
    · intro listed ys X W hsz hsd hi2 hall hX hI hd K hK
      have e25 : X.tmps.getD 25 undef = vf := (hX 25 (Nat.le_of_ble_eq_true rfl)).trans (GV.val (hd ⟨5, .data⟩ (by simp) rfl) (by decide) rfl)
      have e27 : X.tmps.getD 27 undef = .string e.line := (hX 27 (Nat.le_of_ble_eq_true rfl)).trans (GV.val (hd ⟨7, .data⟩ (by simp) rfl) (by decide) rfl)
      have HI := Lib.hid hI
      refine step_run (.inl rfl) ?_
      clear hX hd hI
      go_simp
      refine (callsIn_wide.2 (HL2.out W HI.out)).mono ?_
      rintro e u2 ⟨rfl, hb⟩
      exact hK _ _ (HI.out.trans (hb.mono HI.out.size)) hb (GV.of (by decide) (fun u h => by cases h; rfl))
    · intro listed ys X W hsz hsd hi2 hall hX hI hd K hK
      have e24 : X.tmps.getD 24 undef = .bool r1 := (hX 24 (Nat.le_of_ble_eq_true rfl)).trans (GV.val (hd ⟨4, .data⟩ (by simp) rfl) (by decide) rfl)
      have e28 : X.tmps.getD 28 undef = .bool r1 := (hX 28 (Nat.le_of_ble_eq_true rfl)).trans (GV.val (hd ⟨8, .data⟩ (by simp) rfl) (by decide) rfl)
      have HI := Lib.hid hI
      refine step_run (.inl rfl) ?_
      clear hX hd hI
      go_simp
      exact hK _ _ HI.out (Below.refl _ _) (GV.of (by decide) (fun u h => by cases h; rfl))
    · intro listed ys X W hsz hsd hi2 hall hX hI hd K hK
      have e29 : X.tmps.getD 29 undef = .bool true := (hX 29 (Nat.le_of_ble_eq_true rfl)).trans (GV.val (hd ⟨9, .data⟩ (by simp) rfl) (by decide) rfl)
      have HI := Lib.hid hI
      refine step_run (.inl rfl) ?_
      clear hX hd hI
      go_simp
      exact hK _ _ HI.out (Below.refl _ _) (GV.of (by decide) (fun u h => by cases h; rfl))
    · intro listed ys X W hsz hsd hi2 hall hX hI hd K hK
      have eg : X.tmps.getD 30 undef = .bool true := (hX 30 (Nat.le_of_ble_eq_true rfl)).trans (GV.val (hd ⟨10, .guard⟩ (by simp) rfl) (by decide) rfl)
      have e6 : X.tmps.getD 6 undef = .pointer (some ⟨C, 0, none⟩) := hX 6 (Nat.le_of_ble_eq_true rfl)
      have c0 := CB.cell (HCQ.out W hI) 0
      have c1 := CB.cell (HCQ.out W hI) 1
      have c2 := CB.cell (HCQ.out W hI) 2
      have c3 := CB.cell (HCQ.out W hI) 3
      have c4 := CB.cell (HCQ.out W hI) 4
      have c5 := CB.cell (HCQ.out W hI) 5
      have c6 := CB.cell (HCQ.out W hI) 6
      have c7 := CB.cell (HCQ.out W hI) 7
      have c8 := CB.cell (HCQ.out W hI) 8
      have c9 := CB.cell (HCQ.out W hI) 9
      simp only [List.getElem?_toArray, List.getElem?_cons_succ, List.getElem?_cons_zero] at c0 c1 c2 c3 c4 c5 c6 c7 c8 c9
      have HI := Lib.hid hI
      refine step_run (.inr ⟨10, 30, true, rfl, rfl, eg⟩) ?_
      clear hX hd hI
      go_simp
      exact hK _ _ HI.out (Below.refl _ _) (GV.of (by decide) (fun u h => by cases h; exact HVQ.out))
    · intro listed ys X W hsz hsd hi2 hall hX hI hd K hK
      have eg : X.tmps.getD 30 undef = .bool true := (hX 30 (Nat.le_of_ble_eq_true rfl)).trans (GV.val (hd ⟨10, .guard⟩ (by simp) rfl) (by decide) rfl)
      have e31 : X.tmps.getD 31 undef = vq := (hX 31 (Nat.le_of_ble_eq_true rfl)).trans (GV.val (hd ⟨11, .data⟩ (by simp) rfl) (by decide) rfl)
      have HI := Lib.hid hI
      refine step_run (.inr ⟨10, 30, true, rfl, rfl, eg⟩) ?_
      clear hX hd hI
      go_simp
      refine (callsIn_wide.2 (HQ1.out W HI.out)).mono ?_
      rintro e u2 ⟨u, rfl, hu, hb⟩
      exact hK _ _ (HI.out.trans (hb.mono HI.out.size)) hb (GV.ofsp (by decide) hu)
    · intro listed ys X W hsz hsd hi2 hall hX hI hd K hK
      have eg : X.tmps.getD 30 undef = .bool true := (hX 30 (Nat.le_of_ble_eq_true rfl)).trans (GV.val (hd ⟨10, .guard⟩ (by simp) rfl) (by decide) rfl)
      have e3 : X.tmps.getD 3 undef = .pointer (some ⟨E, 0, none⟩) := hX 3 (Nat.le_of_ble_eq_true rfl)
      have c0 := CB.cell (HCE.out W hI) 0
      have c1 := CB.cell (HCE.out W hI) 1
      have c2 := CB.cell (HCE.out W hI) 2
      simp only [List.getElem?_toArray, List.getElem?_cons_succ, List.getElem?_cons_zero] at c0 c1 c2
      have HI := Lib.hid hI
      refine step_run (.inr ⟨10, 30, true, rfl, rfl, eg⟩) ?_
      clear hX hd hI
      go_simp
      exact hK _ _ HI.out (Below.refl _ _) (GV.of (by decide) (fun u h => by cases h; exact HVE.out))
    · intro listed ys X W hsz hsd hi2 hall hX hI hd K hK
      have eg : X.tmps.getD 30 undef = .bool true := (hX 30 (Nat.le_of_ble_eq_true rfl)).trans (GV.val (hd ⟨10, .guard⟩ (by simp) rfl) (by decide) rfl)
      have e32 : X.tmps.getD 32 undef = ys 12 := hX 32 (Nat.le_of_ble_eq_true rfl)
      have HY12 := Lib.hid (show QAt W (ys 12) (normQ q) from GV.sp (hd ⟨12, .data⟩ (by simp) rfl) (by decide))
      have e33 : X.tmps.getD 33 undef = ve := (hX 33 (Nat.le_of_ble_eq_true rfl)).trans (GV.val (hd ⟨13, .data⟩ (by simp) rfl) (by decide) rfl)
      have HI := Lib.hid hI
      refine step_run (.inr ⟨10, 30, true, rfl, rfl, eg⟩) ?_
      clear hX hd hI
      go_simp
      refine (callsIn_wide.2 (HK1.out W _ HI.out HY12.out)).mono ?_
      rintro e u2 ⟨rfl, hb⟩
      exact hK _ _ (HI.out.trans (hb.mono HI.out.size)) hb (GV.of (by decide) (fun u h => by cases h; rfl))
    · intro listed ys X W hsz hsd hi2 hall hX hI hd K hK
      have eg : X.tmps.getD 30 undef = .bool true := (hX 30 (Nat.le_of_ble_eq_true rfl)).trans (GV.val (hd ⟨10, .guard⟩ (by simp) rfl) (by decide) rfl)
      have e6 : X.tmps.getD 6 undef = .pointer (some ⟨C, 0, none⟩) := hX 6 (Nat.le_of_ble_eq_true rfl)
      have c0 := CB.cell (HCQ.out W hI) 0
      have c1 := CB.cell (HCQ.out W hI) 1
      have c2 := CB.cell (HCQ.out W hI) 2
      have c3 := CB.cell (HCQ.out W hI) 3
      have c4 := CB.cell (HCQ.out W hI) 4
      have c5 := CB.cell (HCQ.out W hI) 5
      have c6 := CB.cell (HCQ.out W hI) 6
      have c7 := CB.cell (HCQ.out W hI) 7
      have c8 := CB.cell (HCQ.out W hI) 8
      have c9 := CB.cell (HCQ.out W hI) 9
      simp only [List.getElem?_toArray, List.getElem?_cons_succ, List.getElem?_cons_zero] at c0 c1 c2 c3 c4 c5 c6 c7 c8 c9
      have HI := Lib.hid hI
      refine step_run (.inr ⟨10, 30, true, rfl, rfl, eg⟩) ?_
      clear hX hd hI
      go_simp
      exact hK _ _ HI.out (Below.refl _ _) (GV.of (by decide) (fun u h => by cases h; exact HVQ.out))
    · intro listed ys X W hsz hsd hi2 hall hX hI hd K hK
      have eg : X.tmps.getD 30 undef = .bool true := (hX 30 (Nat.le_of_ble_eq_true rfl)).trans (GV.val (hd ⟨10, .guard⟩ (by simp) rfl) (by decide) rfl)
      have e3 : X.tmps.getD 3 undef = .pointer (some ⟨E, 0, none⟩) := hX 3 (Nat.le_of_ble_eq_true rfl)
      have c0 := CB.cell (HCE.out W hI) 0
      have c1 := CB.cell (HCE.out W hI) 1
      have c2 := CB.cell (HCE.out W hI) 2
      simp only [List.getElem?_toArray, List.getElem?_cons_succ, List.getElem?_cons_zero] at c0 c1 c2
      have HI := Lib.hid hI
      refine step_run (.inr ⟨10, 30, true, rfl, rfl, eg⟩) ?_
      clear hX hd hI
      go_simp
      exact hK _ _ HI.out (Below.refl _ _) (GV.of (by decide) (fun u h => by cases h; exact HVE.out))
    · intro listed ys X W hsz hsd hi2 hall hX hI hd K hK
      have eg : X.tmps.getD 30 undef = .bool true := (hX 30 (Nat.le_of_ble_eq_true rfl)).trans (GV.val (hd ⟨10, .guard⟩ (by simp) rfl) (by decide) rfl)
      have e35 : X.tmps.getD 35 undef = vq := (hX 35 (Nat.le_of_ble_eq_true rfl)).trans (GV.val (hd ⟨15, .data⟩ (by simp) rfl) (by decide) rfl)
      have e36 : X.tmps.getD 36 undef = ve := (hX 36 (Nat.le_of_ble_eq_true rfl)).trans (GV.val (hd ⟨16, .data⟩ (by simp) rfl) (by decide) rfl)
      have HI := Lib.hid hI
      refine step_run (.inr ⟨10, 30, true, rfl, rfl, eg⟩) ?_
      clear hX hd hI
      go_simp
      refine (callsIn_wide.2 (HK2.out W HI.out)).mono ?_
      rintro e u2 ⟨rfl, hb⟩
      exact hK _ _ (HI.out.trans (hb.mono HI.out.size)) hb (GV.of (by decide) (fun u h => by cases h; rfl))
    · intro listed ys X W hsz hsd hi2 hall hX hI hd K hK
      have eg : X.tmps.getD 30 undef = .bool true := (hX 30 (Nat.le_of_ble_eq_true rfl)).trans (GV.val (hd ⟨10, .guard⟩ (by simp) rfl) (by decide) rfl)
      have e34 : X.tmps.getD 34 undef = .bool r2 := (hX 34 (Nat.le_of_ble_eq_true rfl)).trans (GV.val (hd ⟨14, .data⟩ (by simp) rfl) (by decide) rfl)
      have e37 : X.tmps.getD 37 undef = .bool r2 := (hX 37 (Nat.le_of_ble_eq_true rfl)).trans (GV.val (hd ⟨17, .data⟩ (by simp) rfl) (by decide) rfl)
      have HI := Lib.hid hI
      refine step_run (.inr ⟨10, 30, true, rfl, rfl, eg⟩) ?_
      clear hX hd hI
      go_simp
      exact hK _ _ HI.out (Below.refl _ _) (GV.of (by decide) (fun u h => by cases h; rfl))
    · intro listed ys X W hsz hsd hi2 hall hX hI hd K hK
      have e30 : X.tmps.getD 30 undef = .bool true := (hX 30 (Nat.le_of_ble_eq_true rfl)).trans (GV.val (hd ⟨10, .data⟩ (by simp) rfl) (by decide) rfl)
      have e38 : X.tmps.getD 38 undef = .bool true := (hX 38 (Nat.le_of_ble_eq_true rfl)).trans (GV.val (hd ⟨18, .data⟩ (by simp) rfl) (by decide) rfl)
      have HI := Lib.hid hI
      refine step_run (.inl rfl) ?_
      clear hX hd hI
      go_simp
      exact hK _ _ HI.out (Below.refl _ _) (GV.of (by decide) (fun u h => by cases h; rfl))
    · intro listed ys X W hsz hsd hi2 hall hX hI hd K hK
      have e39 : X.tmps.getD 39 undef = .bool true := (hX 39 (Nat.le_of_ble_eq_true rfl)).trans (GV.val (hd ⟨19, .data⟩ (by simp) rfl) (by decide) rfl)
      have HI := Lib.hid hI
      refine step_run (.inl rfl) ?_
      clear hX hd hI
      go_simp
      exact hK _ _ HI.out (Below.refl _ _) (GV.of (by decide) (fun u h => by cases h; rfl))
  case fin =>
    intro listed ys w6 hall hI hV
    have hy := GV.val (hV 20 (by decide) rfl) (by decide) rfl
    have HB6 := Lib.hid (HB4.out.trans (hI.mono HB4.out.size))
    clear hall hI hV
    refine fin_of 4 (v := .bool true) ?_ (by simp) hy
    intro P6 h6 hdf
    have x6 : P6.tmps[4]?.getD undef = .bool true := by rw [← Array.getD_eq_getD_getElem?]; exact h6
    go_wp2_with fail
    refine bodyPost_ret (v := .bool true) (by simp [results, Tryd.results3, go_sem, x6]) hdf ⟨rfl, HB6.out⟩

end Go.Proofs.YtkckgjanfiiieaaDoor

/-
  Line, Label, Labels AND Query ANSWER WHAT THE DOCUMENT SAYS: the law's walk.
-/
import Derived.Test.YtbcpcahfafghkaaDoorAl9
import Derived.Test.YtbcpcahfafghkaaDoorFl9
import Derived.Test.YtbcpcahfafghkaaDoorQryB6
import Derived.Test.YtbcpcahfafghkaaDoorRq9
import Derived.Lib.QuietBelow
namespace Go.Proofs.YtbcpcahfafghkaaDoor
open Go.RowKit Go
open Go.Sort (grow)

theorem E4.big_line {e : E4.Ent} (h : e.big = false) : e.line.size ≤ 1000 := by
  unfold E4.Ent.big at h
  simp only [Bool.or_eq_false_iff, decide_eq_false_iff_not] at h
  omega

theorem query_fit (l : List Int) : Fit (Qy.query l).fil := by
  unfold Qy.query
  simp only
  split
  · exact fit_leaf _ _ _ (by decide) fit_nil fit_nil
  · exact make_fit l 3 _
theorem query_whole (l : List Int) : Whole (Qy.query l).fil := by
  unfold Qy.query
  simp only
  split
  · exact whole_leaf _ _ _ (by decide)
  · exact make_whole l 3 _

/-- A filter's cells, a query's, an entry's. -/
def cellsF (f : Ft) (kv : Value) : Array Value := #[.int .i64 f.op, .string f.name, .string f.text, kv]
def cellsQ (q : Qy) (mv kv : Value) : Array Value := #[.int .i64 q.src, .int .i64 q.til, mv, .int .i64 q.fil.op, .string q.fil.name, .string q.fil.text, kv, .bool q.desc, .int .i64 q.lim, .string q.page]
def cellsE (e : E4.Ent) (lv : Value) : Array Value := #[.int .i64 e.tm, lv, .string e.line]

/-- The filter, the query, and the entry, each in a box of its own. -/
structure IQ (W : World) (A B C : Nat) (f : Ft) (q : Qy) (e : E4.Ent) (kf mv kv lv : Value) : Prop where
  cf : CB W A 30 (cellsF f kf)
  cq : CB W C 34 (cellsQ q mv kv)
  ce : CB W B 25 (cellsE e lv)
  kf : KsAt W kf f
  m : MsAt W mv q.mat
  k : KsAt W kv q.fil
  l : E4.LabsAt (fun _ => True) W lv e.labs
  sh : W.ShapedOpen Tryd.prog
  tb : Lib.Utf8Tabs 1 2 W

theorem IQ.below {W W' : World} {A B C : Nat} {f : Ft} {q : Qy} {e : E4.Ent} {kf mv kv lv : Value} (h : IQ W A B C f q e kf mv kv lv) (hb : Below W.heap.size W W') : IQ W' A B C f q e kf mv kv lv :=
  ⟨(hb.block _ h.cf.lt).trans h.cf, (hb.block _ h.cq.lt).trans h.cq, (hb.block _ h.ce.lt).trans h.ce, KsAt.below hb _ _ h.kf, h.m.below9 hb, KsAt.below hb _ _ h.k, E4.labs_below h.l hb, shaped_below h.sh hb, tabs_below h.tb hb⟩

attribute [local irreducible] wpQuiet

set_option maxHeartbeats 8000000 in
set_option maxRecDepth 100000 in
theorem is_walk (l : List Int) (u : Value) (e : E4.Ent) (lv : Value) (w : World) (hu : IntsAt w u l) (hl : E4.LabsAt (fun _ => True) w lv e.labs) (hT : Lib.Utf8Tabs 1 2 w) (hSh : w.ShapedOpen Tryd.prog) :
    Calls Tryd.prog 3 #[u, e.val lv] w fun e w' => e = .returned (.bool true) ∧ Below w.heap.size w w' := by
  have hmx : Tryd.prog.follows .mixedOrders = true := by kernel_rfl
  obtain ⟨a, cap, rfl, hl63, _⟩ := id hu
  obtain ⟨al, cl, rfl, hll, _⟩ := id hl
  have hb0 : Below w.heap.size w (w.alloc (.cells #[.int .i64 e.tm, .slice al e.labs.length cl, .string e.line] 25)) := (Below.refl _ w).alloc (Nat.le_refl _) _
  have he0 := CB.new w 25 #[.int .i64 e.tm, .slice al e.labs.length cl, .string e.line]
  have HB0 := Lib.hid hb0
  have HU := Lib.hid (hu.below9 hb0)
  have HL := Lib.hid (E4.labs_below hl hb0)
  have HS := Lib.hid (shaped_below hSh hb0)
  have HT := Lib.hid (tabs_below hT hb0)
  have HE := Lib.hid he0
  have HA := Lib.hid (alive_any _ HS.out)
  clear hu hl hSh hb0 he0 hT
  simp only [E4.Ent.val]
  by_cases hg : 300 < l.length
  · have hd : decide (300 < (l.length : Int)) = true := by simp; omega
    go_enter Tryd.func3, Tryd.ntmps3
    go_wp2_with (go_at_call 5; refine HA.out.mono ?_; rintro e w1 ⟨rfl, hb1⟩)
    go_ret
    exact ⟨rfl, HB0.out.trans (hb1.mono HB0.out.size)⟩
  have d0 : decide (300 < (l.length : Int)) = false := by simp; omega
  clear hg
  go_enter Tryd.func3, Tryd.ntmps3
  go_wp2_with fail
  refine HA.out.mono ?_
  rintro r w1 ⟨rfl, hb1⟩
  have HB1 := Lib.hid (HB0.out.trans (hb1.mono HB0.out.size))
  have HU1 := Lib.hid (HU.out.below9 hb1)
  have HL1 := Lib.hid (E4.labs_below HL.out hb1)
  have HE1 := Lib.hid ((hb1.block _ HE.out.lt).trans HE.out)
  have HS1 := Lib.hid (shaped_below HS.out hb1)
  have HT1 := Lib.hid (tabs_below HT.out hb1)
  have HG := Lib.hid (E4.great_any (e := e) HL1.out)
  have c0 := CB.cell HE1.out 0
  have c1 := CB.cell HE1.out 1
  have c2 := CB.cell HE1.out 2
  simp only [List.getElem?_toArray, List.getElem?_cons_succ, List.getElem?_cons_zero] at c0 c1 c2
  clear hb1 HA HB0 HU HL HE HS HT
  simp only [E4.Ent.val] at HG
  by_cases hbig : e.big = true
  · rw [hbig] at HG
    go_wp2_with (go_at_call 6; refine HG.out.mono ?_; rintro r w2 ⟨rfl, hb2⟩)
    go_ret
    exact ⟨rfl, HB1.out.trans ((E4.lay_below hb2).mono HB1.out.size)⟩
  have hbig := Bool.eq_false_iff.2 hbig
  have hline := E4.big_line hbig
  rw [hbig] at HG
  clear hbig
  go_wp2_with fail
  refine HG.out.mono ?_
  rintro r w2 ⟨rfl, hb2⟩
  have hb2 := E4.lay_below hb2
  have HB2 := Lib.hid (HB1.out.trans (hb2.mono HB1.out.size))
  have HU2 := Lib.hid (HU1.out.below9 hb2)
  have HL2 := Lib.hid (E4.labs_below HL1.out hb2)
  have HE2 := Lib.hid ((hb2.block _ (CB.lt HE1.out)).trans HE1.out)
  have HS2 := Lib.hid (shaped_below HS1.out hb2)
  have HT2 := Lib.hid (tabs_below HT1.out hb2)
  have HF := Lib.hid (filter_any l w2 _ HU2.out)
  clear hb2 HB1 HU1 HL1 HE1 HS1 HT1 HG c0 c1 c2
  go_wp2_with fail
  refine HF.out.mono ?_
  rintro r w3 ⟨kf, rfl, hkf, hb3⟩
  have HFF := Lib.hid (make_fit l 4 0)
  have HFW := Lib.hid (make_whole l 4 0)
  generalize (Ft.make l 4 0).1 = f at hkf HFF HFW ⊢
  obtain ⟨af, cf, rfl⟩ := id hkf.shape
  have HKF := Lib.hid hkf
  have HB3 := Lib.hid hb3
  have HQ := Lib.hid (query_any l w3 _ (HU2.out.below9 hb3))
  clear hkf hb3 HF HU2
  simp only [Ft.val]
  go_wp2_with fail
  refine HQ.out.mono ?_
  rintro r w4 ⟨vq, rfl, ⟨mv, kv, rfl, hm, hk⟩, hl4⟩
  have HQF := Lib.hid (query_fit l)
  have HQW := Lib.hid (query_whole l)
  generalize Qy.query l = q at hm hk HQF HQW ⊢
  obtain ⟨am, cm, rfl, hm63, _⟩ := id hm
  obtain ⟨ak, ck, rfl⟩ := hk.shape
  have hb4 := hl4.below
  have hbn : Below w4.heap.size w4 ((w4.alloc (.cells (cellsF f (.slice af f.kids.length cf)) 30)).alloc (.cells (cellsQ q (.slice am q.mat.length cm) (.slice ak q.fil.kids.length ck)) 34)) := ((Below.refl _ w4).alloc (Nat.le_refl _) _).alloc (by simp) _
  have hb3n := hb4.trans (hbn.mono hb4.size)
  have hb2n := HB3.out.trans (hb3n.mono HB3.out.size)
  have hcf : CB ((w4.alloc (.cells (cellsF f (.slice af f.kids.length cf)) 30)).alloc (.cells (cellsQ q (.slice am q.mat.length cm) (.slice ak q.fil.kids.length ck)) 34)) w4.heap.size 30 (cellsF f (.slice af f.kids.length cf)) := (Below.heap_alloc _ _ _ (by simp)).trans (CB.new w4 30 _)
  have hcq : CB ((w4.alloc (.cells (cellsF f (.slice af f.kids.length cf)) 30)).alloc (.cells (cellsQ q (.slice am q.mat.length cm) (.slice ak q.fil.kids.length ck)) 34)) (w4.heap.size + 1) 34 (cellsQ q (.slice am q.mat.length cm) (.slice ak q.fil.kids.length ck)) := by
    have := CB.new (w4.alloc (.cells (cellsF f (.slice af f.kids.length cf)) 30)) 34 (cellsQ q (.slice am q.mat.length cm) (.slice ak q.fil.kids.length ck))
    rw [World.size_alloc] at this
    exact this
  have HP : Hid (IQ _ w4.heap.size w.heap.size (w4.heap.size + 1) f q e (.slice af f.kids.length cf) (.slice am q.mat.length cm) (.slice ak q.fil.kids.length ck) (.slice al e.labs.length cl)) :=
    Lib.hid ⟨hcf, hcq, (hb2n.block _ (CB.lt HE2.out)).trans HE2.out, KsAt.below hb3n _ _ HKF.out, hm.below9 hbn, KsAt.below hbn _ _ hk, E4.labs_below HL2.out hb2n, shaped_below HS2.out hb2n, tabs_below HT2.out hb2n⟩
  have HB4 := Lib.hid (HB2.out.trans (hb2n.mono HB2.out.size))
  clear hm hk hl4 hb4 hbn hb3n hb2n hcf hcq HB2 HB3 HL2 HE2 HS2 HT2 HKF HQ
  simp only [Qy.val]
  simp only [cellsF, cellsQ] at HP HB4
  have a2 : ((w4.alloc (.cells #[.int .i64 f.op, .string f.name, .string f.text, .slice af f.kids.length cf] 30)).alloc (.cells #[.int .i64 q.src, .int .i64 q.til, .slice am q.mat.length cm, .int .i64 q.fil.op, .string q.fil.name, .string q.fil.text, .slice ak q.fil.kids.length ck, .bool q.desc, .int .i64 q.lim, .string q.page] 34)).cell? ⟨w4.heap.size + 1, 2, none⟩ = some (.slice am q.mat.length cm) := CB.cell HP.out.cq 2
  go_wp2_with fail
  revert HP HB4 a2
  generalize (w4.alloc (.cells #[.int .i64 f.op, .string f.name, .string f.text, .slice af f.kids.length cf] 30)).alloc (.cells #[.int .i64 q.src, .int .i64 q.til, .slice am q.mat.length cm, .int .i64 q.fil.op, .string q.fil.name, .string q.fil.text, .slice ak q.fil.kids.length ck, .bool q.desc, .int .i64 q.lim, .string q.page] 34) = w5
  generalize w4.heap.size + 1 = C
  generalize w4.heap.size = A
  intro HP HB4 a2
  obtain ⟨p, hp⟩ : ∃ p, p = keepsM e := ⟨_, rfl⟩
  have HPP := Lib.hid hp
  clear hp a2
  go_loopw [25] (fun vi wr => ∃ i : Nat, vi = .int .i64 i ∧ i ≤ q.mat.length ∧ Below w5.heap.size w5 wr) (fun vi _ => q.mat.length - (intOf vi).toNat)
  case atStart => exact ⟨0, rfl, Nat.zero_le _, Below.refl _ _⟩
  case round =>
    obtain ⟨i, rfl, hi, hb⟩ := hrel
    have HPR := Lib.hid (HP.out.below hb)
    have HBR := Lib.hid (HB4.out.trans (hb.mono HB4.out.size))
    have HBX := Lib.hid hb
    clear hb
    by_cases hlt : i < q.mat.length
    · obtain ⟨a', cap', hev, _, h0 | ⟨bm, off, rfl, hbl, hka⟩⟩ := HPR.out.m
      · exact absurd hlt (by rw [h0]; simp)
      obtain ⟨rfl, rfl⟩ : am = some ⟨bm, off, none⟩ ∧ cm = cap' := by simpa using hev
      obtain ⟨y0, y1, y2⟩ := hka i hlt
      generalize q.mat[i] = x at y0 y1 y2
      obtain ⟨w6, hw6⟩ : ∃ w6, w6 = wr.alloc (.cells #[.string x.name, .bool x.not, .string x.value] 37) := ⟨_, rfl⟩
      have hb6 : Below wr.heap.size wr w6 := by rw [hw6]; exact (Below.refl _ wr).alloc (Nat.le_refl _) _
      have hm6 : CB w6 wr.heap.size 37 #[.string x.name, .bool x.not, .string x.value] := by rw [hw6]; exact CB.new wr 37 _
      have HP6 := Lib.hid (HPR.out.below hb6)
      have HB6 := Lib.hid (HBX.out.trans (hb6.mono HBX.out.size))
      have HW6 := Lib.hid hw6.symm
      have HM6 := Lib.hid hm6
      clear hb6 hm6 hw6 hka hev
      go_wp2_with fail
      rw [HW6.out]
      have KA := quiet_bool (w := w6) (b := keepsM e x) (fun W hW => label_any x e _ W (E4.labs_below HP6.out.l hW))
      have KB := quiet_bool (w := w6) (b := keepsM e x) (fun W hW => refLabel_any x e _ W (E4.labs_below HP6.out.l hW))
      generalize keepsM e x = kb at KA KB
      have hkb : (kb != kb) = false := by cases kb <;> rfl
      have c0 := fun d os => cell_regrown (CB.cell HM6.out 0) d os
      have c1 := fun d os => cell_regrown (CB.cell HM6.out 1) d os
      have c2 := fun d os => cell_regrown (CB.cell HM6.out 2) d os
      have d0 := fun d os => cell_regrown (CB.cell HP6.out.ce 0) d os
      have d1 := fun d os => cell_regrown (CB.cell HP6.out.ce 1) d os
      have d2 := fun d os => cell_regrown (CB.cell HP6.out.ce 2) d os
      simp only [cellsE] at c0 c1 c2 d0 d1 d2
      simp only [E4.Ent.val] at KA KB
      clear y0 y1 y2
      refine wp_region_quiet_below (by assumption) (by kernel_rfl) ?_
      repeat (quiet_step (with_reducible first | exact KA _ _ | exact KB _ _))
      refine wpQuiet_nil ?_
      intro _ hw'
      obtain ⟨⟨dq, osq⟩, hw''⟩ := hw'
      subst hw''
      have HB7 := Lib.hid (HB6.out.trans ((below_regrown w6 dq osq).mono HB6.out.size))
      clear c0 c1 c2 d0 d1 d2 KA KB
      go_wp2_with fail
      go_roundw
      case rel => exact ⟨i + 1, by go_num, by omega, HB7.out⟩
      case measure => simp [intOf] <;> omega
    · obtain rfl : i = q.mat.length := by omega
      go_wp2_with fail
      have hs5 : e.line.size ≤ 100000 := by omega
      have KLA := quiet_bool (w := wr) (b := keeps e.line f) (fun W hW => line_any e.line hs5 f HFF.out W (f.val (.slice af f.kids.length cf)) ⟨_, rfl, KsAt.below hW _ _ HPR.out.kf⟩ (shaped_below HPR.out.sh hW))
      have KLB := quiet_bool (w := wr) (b := keeps e.line f) (fun W hW => refLine_any e.line hs5 f HFF.out HFW.out W (f.val (.slice af f.kids.length cf)) ⟨_, rfl, KsAt.below hW _ _ HPR.out.kf⟩ (tabs_below HPR.out.tb hW))
      have KMA := quiet_bool (w := wr) (b := q.mat.all (keepsM e)) (fun W hW => labels_any q.mat _ e _ W (HPR.out.m.below9 hW) (E4.labs_below HPR.out.l hW))
      have KMB := quiet_bool (w := wr) (b := q.mat.all (keepsM e)) (fun W hW => refLabels_any q.mat _ e _ W (HPR.out.m.below9 hW) (E4.labs_below HPR.out.l hW))
      have KQA := quiet_bool (w := wr) (b := keepsQ q e) (fun W hW => query_keeps q (q.val (.slice am q.mat.length cm) (.slice ak q.fil.kids.length ck)) e _ W ⟨_, _, rfl, HPR.out.m.below9 hW, KsAt.below hW _ _ HPR.out.k⟩ HQF.out hs5 (E4.labs_below HPR.out.l hW) (shaped_below HPR.out.sh hW))
      have KQB := quiet_bool (w := wr) (b := keepsQ q e) (fun W hW => refQuery_keeps q (q.val (.slice am q.mat.length cm) (.slice ak q.fil.kids.length ck)) e _ W ⟨_, _, rfl, HPR.out.m.below9 hW, KsAt.below hW _ _ HPR.out.k⟩ HQF.out HQW.out hs5 (E4.labs_below HPR.out.l hW) (tabs_below HPR.out.tb hW))
      generalize keeps e.line f = k1 at KLA KLB
      generalize q.mat.all (keepsM e) = k2 at KMA KMB
      generalize keepsQ q e = k3 at KQA KQB
      have e1 : (k1 == k1) = true := by cases k1 <;> rfl
      have e2 : (k2 == k2) = true := by cases k2 <;> rfl
      have e3 : (k3 == k3) = true := by cases k3 <;> rfl
      have f0 := fun d os => cell_regrown (CB.cell HPR.out.cf 0) d os
      have f1 := fun d os => cell_regrown (CB.cell HPR.out.cf 1) d os
      have f2 := fun d os => cell_regrown (CB.cell HPR.out.cf 2) d os
      have f3 := fun d os => cell_regrown (CB.cell HPR.out.cf 3) d os
      have q0 := fun d os => cell_regrown (CB.cell HPR.out.cq 0) d os
      have q1 := fun d os => cell_regrown (CB.cell HPR.out.cq 1) d os
      have q2 := fun d os => cell_regrown (CB.cell HPR.out.cq 2) d os
      have q3 := fun d os => cell_regrown (CB.cell HPR.out.cq 3) d os
      have q4 := fun d os => cell_regrown (CB.cell HPR.out.cq 4) d os
      have q5 := fun d os => cell_regrown (CB.cell HPR.out.cq 5) d os
      have q6 := fun d os => cell_regrown (CB.cell HPR.out.cq 6) d os
      have q7 := fun d os => cell_regrown (CB.cell HPR.out.cq 7) d os
      have q8 := fun d os => cell_regrown (CB.cell HPR.out.cq 8) d os
      have q9 := fun d os => cell_regrown (CB.cell HPR.out.cq 9) d os
      have d0 := fun d os => cell_regrown (CB.cell HPR.out.ce 0) d os
      have d1 := fun d os => cell_regrown (CB.cell HPR.out.ce 1) d os
      have d2 := fun d os => cell_regrown (CB.cell HPR.out.ce 2) d os
      simp only [cellsF, cellsQ, cellsE] at f0 f1 f2 f3 q0 q1 q2 q3 q4 q5 q6 q7 q8 q9 d0 d1 d2
      simp only [E4.Ent.val, Qy.val, Ft.val] at KLA KLB KMA KMB KQA KQB
      refine wp_region_quiet_below (by assumption) (by kernel_rfl) ?_
      repeat (quiet_step (with_reducible first | exact KLA _ _ | exact KLB _ _ | exact KMA _ _ | exact KMB _ _ | exact KQA _ _ | exact KQB _ _))
      refine wpQuiet_nil ?_
      intro _ hw'
      obtain ⟨⟨dq, osq⟩, hw''⟩ := hw'
      subst hw''
      have HB7 := Lib.hid (HBR.out.trans ((below_regrown wr dq osq).mono HBR.out.size))
      clear f0 f1 f2 f3 q0 q1 q2 q3 q4 q5 q6 q7 q8 q9 d0 d1 d2 KLA KLB KMA KMB KQA KQB
      go_wp2_with fail
      go_ret
      exact ⟨by first | rfl | simp, HB7.out⟩

end Go.Proofs.YtbcpcahfafghkaaDoor

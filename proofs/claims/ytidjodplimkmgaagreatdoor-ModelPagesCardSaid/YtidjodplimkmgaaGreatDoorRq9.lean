/-
  THE DOCUMENT'S OWN Label, Labels, Query: DOES A QUERY KEEP AN ENTRY?
-/
import Derived.Test.YtidjodplimkmgaaGreatDoorRl9
namespace Go.Proofs.YtidjodplimkmgaaGreatDoor
open Go.RowKit Go

set_option maxHeartbeats 4000000 in
set_option maxRecDepth 100000 in
theorem refLabel_any (m : Mt) (e : E4.Ent) (lv : Value) (w : World) (h : E4.LabsAt (fun _ => True) w lv e.labs) :
    Calls Tryz.prog 39 #[.agg #[.string m.name, .bool m.not, .string m.value], e.val lv] w fun x w' => x = .returned (.bool (keepsM e m)) ∧ Below w.heap.size w w' := by
  obtain ⟨a, ca, rfl, _, _⟩ := id h
  have hb0 : Below w.heap.size w ((w.alloc (.cells #[.string m.name, .bool m.not, .string m.value] 56)).alloc (.cells #[.int .i64 e.tm, .slice a e.labs.length ca, .string e.line] 43)) := ((Below.refl _ w).alloc (Nat.le_refl _) _).alloc (by simp) _
  have HV := Lib.hid (E4.refValue_any (e := e) m.name (E4.labs_below h hb0))
  have HB0 := Lib.hid hb0
  clear h hb0
  unfold keepsM
  generalize (E4.valOf m.name e.labs) = r at HV ⊢
  obtain ⟨x, y⟩ := r
  simp only [E4.Ent.val] at HV ⊢
  go_enter Tryz.func39, Tryz.ntmps39
  go_wp2_with fail
  refine HV.out.mono ?_
  rintro u w1 ⟨rfl, hl⟩
  have hm0 := CB.new w 56 #[.string m.name, .bool m.not, .string m.value]
  have hm1 : CB w1 w.heap.size 56 #[.string m.name, .bool m.not, .string m.value] := ((E4.lay_below hl).block _ (by simp; omega)).trans ((Below.heap_alloc _ _ _ (by simp)).trans hm0)
  have g1 := hm1.cell 1
  have g2 := hm1.cell 2
  have HB1 := Lib.hid (HB0.out.trans ((E4.lay_below hl).mono HB0.out.size))
  clear hl hm0 hm1
  simp only [List.getElem?_toArray, List.getElem?_cons_succ, List.getElem?_cons_zero] at g1 g2
  cases hn : m.not with
  | true =>
    rw [hn] at g1
    go_wp2_with fail
    go_ret
    exact ⟨by show Ending.returned (.bool _) = Ending.returned (.bool _); congr 2; rw [hn]; cases (x.toList == m.value.toList) <;> rfl, HB1.out⟩
  | false =>
    rw [hn] at g1
    go_wp2_with fail
    go_ret
    exact ⟨by show Ending.returned (.bool _) = Ending.returned (.bool _); congr 2; rw [hn]; cases (x.toList == m.value.toList) <;> rfl, HB1.out⟩

set_option maxHeartbeats 4000000 in
set_option maxRecDepth 100000 in
theorem refLabels_any (l : List Mt) (mv : Value) (e : E4.Ent) (lv : Value) (w : World) (hm : MsAt w mv l) (h : E4.LabsAt (fun _ => True) w lv e.labs) :
    Calls Tryz.prog 27 #[mv, e.val lv] w fun x w' => x = .returned (.bool (l.all (keepsM e))) ∧ Below w.heap.size w w' := by
  obtain ⟨a, ca, rfl, _, _⟩ := id h
  obtain ⟨am, cm, rfl, hm63, _⟩ := id hm
  have hb0 : Below w.heap.size w (w.alloc (.cells #[.int .i64 e.tm, .slice a e.labs.length ca, .string e.line] 43)) := (Below.refl _ w).alloc (Nat.le_refl _) _
  have he0 := CB.new w 43 #[.int .i64 e.tm, .slice a e.labs.length ca, .string e.line]
  obtain ⟨p, hp⟩ : ∃ p, p = keepsM e := ⟨_, rfl⟩
  have HM := Lib.hid (hm.below9 hb0)
  have HL := Lib.hid (E4.labs_below h hb0)
  have HB0 := Lib.hid hb0
  have HE := Lib.hid he0
  have HPP := Lib.hid hp
  rw [← hp]
  clear hm h hb0 he0 hp
  simp only [E4.Ent.val]
  go_enter Tryz.func27, Tryz.ntmps27
  go_wp2_with fail
  go_loopw [9] (fun vi wr => ∃ i : Nat, vi = .int .i64 i ∧ i ≤ l.length ∧ (l.take i).all p = true ∧ Below (w.alloc (.cells #[.int .i64 e.tm, .slice a e.labs.length ca, .string e.line] 43)).heap.size (w.alloc (.cells #[.int .i64 e.tm, .slice a e.labs.length ca, .string e.line] 43)) wr) (fun vi _ => l.length - (intOf vi).toNat)
  case atStart => exact ⟨0, rfl, Nat.zero_le _, rfl, Below.refl _ _⟩
  case round =>
    obtain ⟨i, rfl, hi, hal, hb⟩ := hrel
    have HB := Lib.hid hb
    have HBW := Lib.hid (HB0.out.trans (hb.mono HB0.out.size))
    have HAL := Lib.hid hal
    clear hal
    by_cases hlt : i < l.length
    · obtain ⟨a', cap', hev, _, h0 | ⟨bm, off, rfl, hbl, hka⟩⟩ := HM.out.below9 hb
      · exact absurd hlt (by rw [h0]; simp)
      obtain ⟨rfl, rfl⟩ : am = some ⟨bm, off, none⟩ ∧ cm = cap' := by simpa using hev
      obtain ⟨y0, y1, y2⟩ := hka i hlt
      have HT : Hid ((l.take (i + 1)).all p = ((l.take i).all p && p l[i])) := Lib.hid (by rw [List.take_succ_eq_append_getElem hlt, List.all_append, List.all_cons, List.all_nil, Bool.and_true])
      have HF : Hid (p l[i] = false → l.all p = false) := Lib.hid fun h => by
        rw [Bool.eq_false_iff]
        intro ht
        rw [List.all_eq_true] at ht
        rw [ht _ (List.getElem_mem hlt)] at h
        cases h
      generalize l[i] = x at y0 y1 y2 HT HF
      have hb6 : Below wr.heap.size wr (wr.alloc (.cells #[.string x.name, .bool x.not, .string x.value] 56)) := (Below.refl _ wr).alloc (Nat.le_refl _) _
      have hb06 := hb.trans (hb6.mono hb.size)
      have he6 := (hb06.block _ (CB.lt HE.out)).trans HE.out
      have b0 := CB.cell he6 0
      have b1 := CB.cell he6 1
      have b2 := CB.cell he6 2
      simp only [List.getElem?_toArray, List.getElem?_cons_succ, List.getElem?_cons_zero] at b0 b1 b2
      have HLB := Lib.hid (refLabel_any x e _ _ (E4.labs_below HL.out hb06))
      have HB6 := Lib.hid hb06
      have HB6W := Lib.hid (HB0.out.trans (hb06.mono HB0.out.size))
      rw [← HPP.out] at HLB
      clear hka hev hb6 hb06 he6 hb
      simp only [E4.Ent.val] at HLB
      cases hk : p x with
      | true =>
        rw [hk] at HLB HT
        go_wp2_with (go_at_call 39; refine HLB.out.mono ?_; rintro r w7 ⟨rfl, hb7⟩)
        go_roundw
        case rel => exact ⟨i + 1, by go_num, by omega, by rw [HT.out, HAL.out]; rfl, HB6.out.trans (hb7.mono HB6.out.size)⟩
        case measure => simp [intOf] <;> omega
      | false =>
        rw [hk] at HLB HF
        have HF2 := Lib.hid (HF.out rfl)
        clear HF
        go_wp2_with (go_at_call 39; refine HLB.out.mono ?_; rintro r w7 ⟨rfl, hb7⟩)
        go_ret
        exact ⟨by rw [HF2.out]; rfl, HB6W.out.trans (hb7.mono HB6W.out.size)⟩
    · obtain rfl : i = l.length := by omega
      have hal := HAL.out
      rw [List.take_length] at hal
      have HA := Lib.hid hal
      clear hal hb
      go_wp2_with fail
      go_ret
      exact ⟨by rw [HA.out]; rfl, HBW.out⟩

set_option maxHeartbeats 4000000 in
set_option maxRecDepth 100000 in
theorem refQuery_keeps (q : Qy) (qv : Value) (e : E4.Ent) (lv : Value) (w : World) (hq : QAt w qv q) (hf : Fit q.fil) (hw : Whole q.fil) (hs : e.line.size ≤ 100000) (h : E4.LabsAt (fun _ => True) w lv e.labs) (hT : Lib.Utf8Tabs 1 2 w) :
    Calls Tryz.prog 16 #[qv, e.val lv] w fun x w' => x = .returned (.bool (keepsQ q e)) ∧ Below w.heap.size w w' := by
  obtain ⟨mv, kv, rfl, hm, hk⟩ := hq
  obtain ⟨a, ca, rfl, _, _⟩ := id h
  obtain ⟨b, cb, rfl, _, _⟩ := id hm
  obtain ⟨d, cd, rfl⟩ := id hk.shape
  have hb0 : Below w.heap.size w ((w.alloc (.cells #[.int .i64 q.src, .int .i64 q.til, .slice b q.mat.length cb, .int .i64 q.fil.op, .string q.fil.name, .string q.fil.text, .slice d q.fil.kids.length cd, .bool q.desc, .int .i64 q.lim, .string q.page] 31)).alloc (.cells #[.int .i64 e.tm, .slice a e.labs.length ca, .string e.line] 43)) := ((Below.refl _ w).alloc (Nat.le_refl _) _).alloc (by simp) _
  have HB0 := Lib.hid hb0
  have HM := Lib.hid (refLabels_any q.mat _ e _ _ (hm.below9 hb0) (E4.labs_below h hb0))
  have HF := Lib.hid fun W (hW : Below w.heap.size w W) => refLine_any e.line hs q.fil hf hw W (q.fil.val (.slice d q.fil.kids.length cd)) ⟨_, rfl, KsAt.below hW _ _ hk⟩ (tabs_below hT hW)
  clear hm h hk hT hb0
  unfold keepsQ
  generalize q.mat.all (keepsM e) = r at HM ⊢
  generalize keeps e.line q.fil = s at HF ⊢
  simp only [E4.Ent.val, Qy.val, Ft.val] at HM HF ⊢
  by_cases h1 : q.src ≤ e.tm
  case neg =>
    have d1 : decide (q.src ≤ e.tm) = false := decide_eq_false h1
    have n1 : decide (e.tm < q.src) = true := decide_eq_true (by omega)
    rw [d1, Bool.false_and, Bool.false_and, Bool.false_and]
    clear h1 d1
    go_enter Tryz.func16, Tryz.ntmps16
    go_wp2_with fail
    go_ret
    exact ⟨rfl, HB0.out⟩
  have d1 : decide (q.src ≤ e.tm) = true := decide_eq_true h1
  have n1 : decide (e.tm < q.src) = false := decide_eq_false (by omega)
  clear h1
  by_cases h2 : e.tm ≤ q.til
  case neg =>
    have d2 : decide (e.tm ≤ q.til) = false := decide_eq_false h2
    have n2 : decide (q.til < e.tm) = true := decide_eq_true (by omega)
    rw [d2, Bool.and_false, Bool.false_and, Bool.false_and]
    clear h2 d1 d2
    go_enter Tryz.func16, Tryz.ntmps16
    go_wp2_with fail
    go_ret
    exact ⟨rfl, HB0.out⟩
  have d2 : decide (e.tm ≤ q.til) = true := decide_eq_true h2
  have n2 : decide (q.til < e.tm) = false := decide_eq_false (by omega)
  clear h2
  rw [d1, d2, Bool.and_self, Bool.true_and]
  clear d1 d2
  cases r with
  | false =>
    rw [Bool.false_and]
    go_enter Tryz.func16, Tryz.ntmps16
    go_wp2_with (go_at_call 27; refine HM.out.mono ?_; rintro e w' ⟨rfl, hb'⟩)
    go_ret
    exact ⟨rfl, HB0.out.trans (hb'.mono HB0.out.size)⟩
  | true =>
    rw [Bool.true_and]
    have hq0 := CB.new w 31 #[.int .i64 q.src, .int .i64 q.til, .slice b q.mat.length cb, .int .i64 q.fil.op, .string q.fil.name, .string q.fil.text, .slice d q.fil.kids.length cd, .bool q.desc, .int .i64 q.lim, .string q.page]
    have he0 := CB.new (w.alloc (.cells #[.int .i64 q.src, .int .i64 q.til, .slice b q.mat.length cb, .int .i64 q.fil.op, .string q.fil.name, .string q.fil.text, .slice d q.fil.kids.length cd, .bool q.desc, .int .i64 q.lim, .string q.page] 31)) 43 #[.int .i64 e.tm, .slice a e.labs.length ca, .string e.line]
    rw [World.size_alloc] at he0
    go_enter Tryz.func16, Tryz.ntmps16
    go_wp2_with fail
    refine HM.out.mono ?_
    rintro u w1 ⟨rfl, hb1⟩
    have hq1 : CB w1 w.heap.size 31 _ := (hb1.block _ (by simp; omega)).trans ((Below.heap_alloc _ _ _ (by simp)).trans hq0)
    have he1 : CB w1 (w.heap.size + 1) 43 _ := (hb1.block _ (by simp)).trans he0
    have c3 := hq1.cell 3
    have c4 := hq1.cell 4
    have c5 := hq1.cell 5
    have c6 := hq1.cell 6
    have e2 := he1.cell 2
    have HB1 := Lib.hid (HB0.out.trans (hb1.mono HB0.out.size))
    have HF1 := Lib.hid (HF.out _ HB1.out)
    clear hq0 he0 hb1 hq1 he1 HM HF
    simp only [List.getElem?_toArray, List.getElem?_cons_succ, List.getElem?_cons_zero] at c3 c4 c5 c6 e2
    go_wp2_with (go_at_call 28; refine HF1.out.mono ?_; rintro e w' ⟨rfl, hb'⟩)
    go_ret
    exact ⟨rfl, HB1.out.trans (hb'.mono HB1.out.size)⟩

end Go.Proofs.YtidjodplimkmgaaGreatDoor

/-
  A QUERY KEEPS WHAT ITS PARTS KEEP: the law's walk.
-/
import Derived.Test.YtbcpcahfafghkaaAl9
import Derived.Test.YtbcpcahfafghkaaQryB6
import Derived.Deep.DeepCutAuto
import Derived.Deep.CutBlock
namespace Go.Proofs.Ytbcpcahfafghkaa
open Go.RowKit Go

theorem E4.big_line {e : E4.Ent} (h : e.big = false) : e.line.size ≤ 1000 := by
  unfold E4.Ent.big at h
  simp only [Bool.or_eq_false_iff, decide_eq_false_iff_not] at h
  omega

theorem query_fit (l : List Int) : Fit (Qy.query l).fil := by
  unfold Qy.query
  simp only
  split
  · exact fit_leaf _ _ _ (by decide) fit_nil fit_nil
  · exact make_fit l 3 _

theorem QAt.below9 {w w' : World} {v : Value} {q : Qy} (h : QAt w v q) (hb : Below w.heap.size w w') : QAt w' v q := by
  obtain ⟨mv, kv, hv, hm, hk⟩ := h
  exact ⟨mv, kv, hv, hm.below9 hb, KsAt.below hb _ _ hk⟩

/-- A query's cells. -/
def cellsQ (q : Qy) (mv kv : Value) : Array Value := #[.int .i64 q.src, .int .i64 q.til, mv, .int .i64 q.fil.op, .string q.fil.name, .string q.fil.text, kv, .bool q.desc, .int .i64 q.lim, .string q.page]
/-- An entry's. -/
def cellsE (e : E4.Ent) (lv : Value) : Array Value := #[.int .i64 e.tm, lv, .string e.line]

/-- The query, and the entry, each in a box of its own. -/
structure PQ (W : World) (A B : Nat) (q : Qy) (e : E4.Ent) (mv kv lv : Value) : Prop where
  cq : CB W A 37 (cellsQ q mv kv)
  ce : CB W B 33 (cellsE e lv)
  m : MsAt W mv q.mat
  k : KsAt W kv q.fil
  l : E4.LabsAt (fun _ => True) W lv e.labs
  sh : W.ShapedOpen Try.prog

theorem PQ.below {W W' : World} {A B : Nat} {q : Qy} {e : E4.Ent} {mv kv lv : Value} (h : PQ W A B q e mv kv lv) (hb : Below W.heap.size W W') : PQ W' A B q e mv kv lv :=
  ⟨(hb.block _ h.cq.lt).trans h.cq, (hb.block _ h.ce.lt).trans h.ce, h.m.below9 hb, KsAt.below hb _ _ h.k, E4.labs_below h.l hb, shaped_below h.sh hb⟩

set_option maxHeartbeats 8000000 in
set_option maxRecDepth 100000 in
theorem parts_walk (l : List Int) (u : Value) (e : E4.Ent) (lv : Value) (w : World) (hu : IntsAt w u l) (hl : E4.LabsAt (fun _ => True) w lv e.labs) (hSh : w.ShapedOpen Try.prog) :
    Calls Try.prog 4 #[u, e.val lv] w fun e w' => e = .returned (.bool true) ∧ Below w.heap.size w w' := by
  obtain ⟨a, cap, rfl, hl63, _⟩ := id hu
  obtain ⟨al, cl, rfl, hll, _⟩ := id hl
  have hb0 : Below w.heap.size w (w.alloc (.cells #[.int .i64 e.tm, .slice al e.labs.length cl, .string e.line] 33)) := (Below.refl _ w).alloc (Nat.le_refl _) _
  have he0 := CB.new w 33 #[.int .i64 e.tm, .slice al e.labs.length cl, .string e.line]
  have HB0 := Lib.hid hb0
  have HU := Lib.hid (hu.below9 hb0)
  have HL := Lib.hid (E4.labs_below hl hb0)
  have HS := Lib.hid (shaped_below hSh hb0)
  have HE := Lib.hid he0
  have HA := Lib.hid (alive_any _ HS.out)
  clear hu hl hSh hb0 he0
  simp only [E4.Ent.val]
  by_cases hg : 300 < l.length
  · have hd : decide (300 < (l.length : Int)) = true := by simp; omega
    go_enter Try.func4, Try.ntmps4
    go_wp2_with (go_at_call 6; refine HA.out.mono ?_; rintro e w1 ⟨rfl, hb1⟩)
    go_ret
    exact ⟨rfl, HB0.out.trans (hb1.mono HB0.out.size)⟩
  have d0 : decide (300 < (l.length : Int)) = false := by simp; omega
  clear hg
  go_enter Try.func4, Try.ntmps4
  go_wp2_with fail
  refine HA.out.mono ?_
  rintro r w1 ⟨rfl, hb1⟩
  have HB1 := Lib.hid (HB0.out.trans (hb1.mono HB0.out.size))
  have HU1 := Lib.hid (HU.out.below9 hb1)
  have HL1 := Lib.hid (E4.labs_below HL.out hb1)
  have HE1 := Lib.hid ((hb1.block _ HE.out.lt).trans HE.out)
  have HS1 := Lib.hid (shaped_below HS.out hb1)
  have HG := Lib.hid (E4.great_any (e := e) HL1.out)
  have c0 := CB.cell HE1.out 0
  have c1 := CB.cell HE1.out 1
  have c2 := CB.cell HE1.out 2
  simp only [List.getElem?_toArray, List.getElem?_cons_succ, List.getElem?_cons_zero] at c0 c1 c2
  clear hb1 HA HB0 HU HL HE HS
  simp only [E4.Ent.val] at HG
  by_cases hbig : e.big = true
  · rw [hbig] at HG
    go_wp2_with (go_at_call 10; refine HG.out.mono ?_; rintro r w2 ⟨rfl, hb2⟩)
    go_ret
    exact ⟨rfl, HB1.out.trans ((E4.lay_below hb2).mono HB1.out.size)⟩
  have hbig := Bool.eq_false_iff.2 hbig
  have hline := E4.big_line hbig
  rw [hbig] at HG
  clear hbig
  go_wp2_with fail
  refine HG.out.mono ?_
  rintro r w2 ⟨rfl, hb2⟩
  have hb2 := E4.lay_below hb2
  have HB2 := Lib.hid (HB1.out.trans (hb2.mono HB1.out.size))
  have HU2 := Lib.hid (HU1.out.below9 hb2)
  have HL2 := Lib.hid (E4.labs_below HL1.out hb2)
  have HE2 := Lib.hid ((hb2.block _ (CB.lt HE1.out)).trans HE1.out)
  have HS2 := Lib.hid (shaped_below HS1.out hb2)
  have HQ := Lib.hid (query_any l w2 _ HU2.out)
  clear hb2 HB1 HU1 HL1 HE1 HS1 HG c0 c1 c2
  go_wp2_with fail
  refine HQ.out.mono ?_
  rintro r w3 ⟨vq, rfl, ⟨mv, kv, rfl, hm, hk⟩, hl3⟩
  have HFI := Lib.hid (query_fit l)
  generalize Qy.query l = q at hm hk HFI ⊢
  obtain ⟨am, cm, rfl, hm63, _⟩ := id hm
  obtain ⟨ak, ck, rfl⟩ := hk.shape
  have hb3 := hl3.below
  have hb4 : Below w3.heap.size w3 (w3.alloc (.cells (cellsQ q (.slice am q.mat.length cm) (.slice ak q.fil.kids.length ck)) 37)) := (Below.refl _ w3).alloc (Nat.le_refl _) _
  have hb24 := hb3.trans (hb4.mono hb3.size)
  have HP : Hid (PQ _ w3.heap.size w.heap.size q e (.slice am q.mat.length cm) (.slice ak q.fil.kids.length ck) (.slice al e.labs.length cl)) := Lib.hid ⟨CB.new w3 37 (cellsQ q (.slice am q.mat.length cm) (.slice ak q.fil.kids.length ck)), (hb24.block _ (CB.lt HE2.out)).trans HE2.out, hm.below9 hb4, KsAt.below hb4 _ _ hk, E4.labs_below HL2.out hb24, shaped_below HS2.out hb24⟩
  have HB4 := Lib.hid (HB2.out.trans (hb24.mono HB2.out.size))
  clear hm hk hl3 hb3 hb4 hb24 HB2 HU2 HL2 HE2 HS2 HQ
  simp only [Qy.val]
  simp only [cellsQ] at HP HB4
  go_upto_region 6 with fail
  revert HP HB4
  generalize w3.alloc (.cells #[.int .i64 q.src, .int .i64 q.til, .slice am q.mat.length cm, .int .i64 q.fil.op, .string q.fil.name, .string q.fil.text, .slice ak q.fil.kids.length ck, .bool q.desc, .int .i64 q.lim, .string q.page] 37) = w4
  generalize w3.heap.size = A
  intro HP HB4
  have HF := Lib.hid fun W (hW : Below w4.heap.size w4 W) => line_any e.line (by omega) q.fil HFI.out W (q.fil.val (.slice ak q.fil.kids.length ck)) ⟨_, rfl, (HP.out.below hW).k⟩ (HP.out.below hW).sh
  obtain ⟨s, hs⟩ : ∃ s, s = keeps e.line q.fil := ⟨_, rfl⟩
  rw [← hs] at HF
  simp only [Ft.val] at HF
  go_cut [6] from 21 (fun v6 wx => v6 = .bool (decide (q.src ≤ e.tm) && decide (e.tm ≤ q.til) && s) ∧ Below w4.heap.size w4 wx)
  case first =>
    have a0 := CB.cell HP.out.cq 0
    have a1 := CB.cell HP.out.cq 1
    have a2 := CB.cell HP.out.cq 2
    have a3 := CB.cell HP.out.cq 3
    have a4 := CB.cell HP.out.cq 4
    have a5 := CB.cell HP.out.cq 5
    have a6 := CB.cell HP.out.cq 6
    have a7 := CB.cell HP.out.cq 7
    have a8 := CB.cell HP.out.cq 8
    have a9 := CB.cell HP.out.cq 9
    have b0 := CB.cell HP.out.ce 0
    have b1 := CB.cell HP.out.ce 1
    have b2 := CB.cell HP.out.ce 2
    simp only [cellsQ, cellsE, List.getElem?_toArray, List.getElem?_cons_succ, List.getElem?_cons_zero] at a0 a1 a2 a3 a4 a5 a6 a7 a8 a9 b0 b1 b2
    have HF4 := Lib.hid (HF.out w4 (Below.refl _ _))
    clear HF hs
    by_cases h1 : q.src ≤ e.tm
    case neg =>
      have d1 : decide (q.src ≤ e.tm) = false := decide_eq_false h1
      clear h1
      go_wp2_with fail
      go_meet
      exact ⟨by rw [d1]; rfl, Below.refl _ _⟩
    have d1 : decide (q.src ≤ e.tm) = true := decide_eq_true h1
    clear h1
    by_cases h2 : e.tm ≤ q.til
    case neg =>
      have d2 : decide (e.tm ≤ q.til) = false := decide_eq_false h2
      clear h2
      go_wp2_with fail
      go_meet
      exact ⟨by rw [d1, d2]; rfl, Below.refl _ _⟩
    have d2 : decide (e.tm ≤ q.til) = true := decide_eq_true h2
    clear h2
    go_wp2_with (go_at_call 9; refine HF4.out.mono ?_; rintro r w5 ⟨rfl, hb5⟩)
    go_meet
    exact ⟨by rw [d1, d2]; simp, hb5⟩
  case rest =>
    obtain ⟨rfl, hb5⟩ := hcut
    have HP5 := Lib.hid (HP.out.below hb5)
    have HB5 := Lib.hid (HB4.out.trans (hb5.mono HB4.out.size))
    obtain ⟨z, hz⟩ : ∃ z, z = (decide (q.src ≤ e.tm) && decide (e.tm ≤ q.til) && s) := ⟨_, rfl⟩
    rw [← hz]
    have HZ := Lib.hid hz
    have HSF := Lib.hid hs
    have a2 := CB.cell HP5.out.cq 2
    simp only [cellsQ, List.getElem?_toArray, List.getElem?_cons_succ, List.getElem?_cons_zero] at a2
    clear hb5 hz hs HP HB4 HF
    go_wp2_with fail
    go_loopw [6, 43] (fun v6 vi wr => ∃ i : Nat, vi = .int .i64 i ∧ i ≤ q.mat.length ∧ v6 = .bool (z && (q.mat.take i).all (keepsM e)) ∧ Below wc.heap.size wc wr) (fun _ vi _ => q.mat.length - (intOf vi).toNat)
    case atStart => exact ⟨0, rfl, Nat.zero_le _, by simp, Below.refl _ _⟩
    case round =>
      obtain ⟨i, rfl, hi, rfl, hb⟩ := hrel
      have HPR := Lib.hid (HP5.out.below hb)
      have HBR := Lib.hid (HB5.out.trans (hb.mono HB5.out.size))
      have HBX := Lib.hid hb
      clear hb a2
      by_cases hlt : i < q.mat.length
      · obtain ⟨a', cap', hev, _, h0 | ⟨bm, off, rfl, hbl, hka⟩⟩ := HPR.out.m
        · exact absurd hlt (by rw [h0]; simp)
        obtain ⟨rfl, rfl⟩ : am = some ⟨bm, off, none⟩ ∧ cm = cap' := by simpa using hev
        obtain ⟨y0, y1, y2⟩ := hka i hlt
        have HT : Hid ((q.mat.take (i + 1)).all (keepsM e) = ((q.mat.take i).all (keepsM e) && keepsM e q.mat[i])) := Lib.hid (by rw [List.take_succ_eq_append_getElem hlt, List.all_append, List.all_cons, List.all_nil, Bool.and_true])
        generalize q.mat[i] = x at y0 y1 y2 HT
        have hb6 : Below wr.heap.size wr (wr.alloc (.cells #[.string x.name, .bool x.not, .string x.value] 40)) := (Below.refl _ wr).alloc (Nat.le_refl _) _
        have hP6 := HPR.out.below hb6
        have b0 := CB.cell hP6.ce 0
        have b1 := CB.cell hP6.ce 1
        have b2 := CB.cell hP6.ce 2
        simp only [cellsE, List.getElem?_toArray, List.getElem?_cons_succ, List.getElem?_cons_zero] at b0 b1 b2
        have HLB := Lib.hid (label_any x e _ _ hP6.l)
        have HB6 := Lib.hid hb6
        have HB6X := Lib.hid (HBX.out.trans (hb6.mono HBX.out.size))
        clear hka hev hb6 hP6
        simp only [E4.Ent.val] at HLB
        generalize keepsM e x = k at HLB HT
        cases hy : (z && (q.mat.take i).all (keepsM e)) with
        | false =>
          have HY := Lib.hid hy
          go_wp2_with fail
          go_roundw
          case rel => exact ⟨i + 1, by go_num, by omega, by rw [HT.out, ← Bool.and_assoc, HY.out]; rfl, HB6X.out⟩
          case measure => simp [intOf]; omega
        | true =>
          have HY := Lib.hid hy
          go_wp2_with (go_at_call 12; refine HLB.out.mono ?_; rintro r w7 ⟨rfl, hb7⟩)
          go_roundw
          case rel => exact ⟨i + 1, by go_num, by omega, by rw [HT.out, ← Bool.and_assoc, HY.out, Bool.true_and], HB6X.out.trans (hb7.mono HB6X.out.size)⟩
          case measure => simp [intOf]; omega
      · obtain rfl : i = q.mat.length := by omega
        have hkq : (z && (q.mat.take q.mat.length).all (keepsM e)) = keepsQ q e := by
          rw [List.take_length, HZ.out, HSF.out]
          unfold keepsQ
          cases decide (q.src ≤ e.tm) <;> cases decide (e.tm ≤ q.til) <;> cases keeps e.line q.fil <;> simp
        rw [hkq]
        clear hkq
        have a0 := CB.cell HPR.out.cq 0
        have a1 := CB.cell HPR.out.cq 1
        have a2 := CB.cell HPR.out.cq 2
        have a3 := CB.cell HPR.out.cq 3
        have a4 := CB.cell HPR.out.cq 4
        have a5 := CB.cell HPR.out.cq 5
        have a6 := CB.cell HPR.out.cq 6
        have a7 := CB.cell HPR.out.cq 7
        have a8 := CB.cell HPR.out.cq 8
        have a9 := CB.cell HPR.out.cq 9
        have b0 := CB.cell HPR.out.ce 0
        have b1 := CB.cell HPR.out.ce 1
        have b2 := CB.cell HPR.out.ce 2
        simp only [cellsQ, cellsE, List.getElem?_toArray, List.getElem?_cons_succ, List.getElem?_cons_zero] at a0 a1 a2 a3 a4 a5 a6 a7 a8 a9 b0 b1 b2
        clear hlt
        have hb8 : Below wr.heap.size wr (wr.alloc (.cells #[.int .i64 q.src, .int .i64 q.til, .slice am q.mat.length cm, .int .i64 q.fil.op, .string q.fil.name, .string q.fil.text, .slice ak q.fil.kids.length ck, .bool q.desc, .int .i64 q.lim, .string q.page] 37)) := (Below.refl _ wr).alloc (Nat.le_refl _) _
        have hb9 : Below wr.heap.size wr (wr.alloc (.cells #[.int .i64 q.src, .int .i64 q.til, .slice am q.mat.length cm, .int .i64 q.fil.op, .string q.fil.name, .string q.fil.text, .slice ak q.fil.kids.length ck, .bool (!q.desc), .int .i64 1, .string ⟨#[112]⟩] 37)) := (Below.refl _ wr).alloc (Nat.le_refl _) _
        have hP9 := HPR.out.below hb9
        have x7 := CB.cell (HPR.out.below hb8).cq 7
        have p0 := CB.cell hP9.cq 0
        have p1 := CB.cell hP9.cq 1
        have p2 := CB.cell hP9.cq 2
        have p3 := CB.cell hP9.cq 3
        have p4 := CB.cell hP9.cq 4
        have p5 := CB.cell hP9.cq 5
        have p6 := CB.cell hP9.cq 6
        have p7 := CB.cell hP9.cq 7
        have p8 := CB.cell hP9.cq 8
        have p9 := CB.cell hP9.cq 9
        have r0 := CB.cell hP9.ce 0
        have r1 := CB.cell hP9.ce 1
        have r2 := CB.cell hP9.ce 2
        have hT9 := CB.new wr 37 #[.int .i64 q.src, .int .i64 q.til, .slice am q.mat.length cm, .int .i64 q.fil.op, .string q.fil.name, .string q.fil.text, .slice ak q.fil.kids.length ck, .bool (!q.desc), .int .i64 1, .string ⟨#[112]⟩]
        have HB9 := Lib.hid (HBR.out.trans (hb9.mono HBR.out.size))
        have HP9 := Lib.hid hP9
        have HT9 := Lib.hid hT9
        have HK1 := Lib.hid (query_keeps q _ e _ _ ⟨_, _, rfl, hP9.m, hP9.k⟩ HFI.out (by omega) hP9.l hP9.sh)
        simp only [cellsQ, cellsE, List.getElem?_toArray, List.getElem?_cons_succ, List.getElem?_cons_zero] at x7 p0 p1 p2 p3 p4 p5 p6 p7 p8 p9 r0 r1 r2
        simp only [Qy.val, E4.Ent.val] at HK1
        have HQQ : Hid (keepsQ ⟨q.src, q.til, q.mat, q.fil, !q.desc, 1, ⟨#[112]⟩⟩ e = keepsQ q e) := Lib.hid rfl
        generalize keepsQ q e = kq at HK1 HQQ ⊢
        clear hb8 hb9 hP9 hT9 HBX
        go_wp2_with fail
        refine HK1.out.mono ?_
        rintro r w9 ⟨rfl, hb10⟩
        have hP10 := HP9.out.below hb10
        have hT10 : CB w9 wr.heap.size 37 _ := (hb10.block _ (CB.lt HT9.out)).trans HT9.out
        have HB10 := Lib.hid (HB9.out.trans (hb10.mono HB9.out.size))
        have HK2 := Lib.hid (query_keeps ⟨q.src, q.til, q.mat, q.fil, !q.desc, 1, ⟨#[112]⟩⟩ _ e _ w9 ⟨_, _, rfl, hP10.m, hP10.k⟩ HFI.out (by omega) hP10.l hP10.sh)
        rw [HQQ.out] at HK2
        clear a0 a1 a2 a3 a4 a5 a6 a7 a8 a9 b0 b1 b2 x7 p0 p1 p2 p3 p4 p5 p6 p7 p8 p9 r0 r1 r2 HK1
        have p0 := CB.cell hT10 0
        have p1 := CB.cell hT10 1
        have p2 := CB.cell hT10 2
        have p3 := CB.cell hT10 3
        have p4 := CB.cell hT10 4
        have p5 := CB.cell hT10 5
        have p6 := CB.cell hT10 6
        have p7 := CB.cell hT10 7
        have p8 := CB.cell hT10 8
        have p9 := CB.cell hT10 9
        have r0 := CB.cell hP10.ce 0
        have r1 := CB.cell hP10.ce 1
        have r2 := CB.cell hP10.ce 2
        simp only [cellsE, List.getElem?_toArray, List.getElem?_cons_succ, List.getElem?_cons_zero] at p0 p1 p2 p3 p4 p5 p6 p7 p8 p9 r0 r1 r2
        simp only [Qy.val, E4.Ent.val] at HK2
        clear hb10 hP10 hT10 HP9 HT9 HPR HP5
        have hkk : (kq == kq) = true := by cases kq <;> rfl
        go_wp2_with fail
        refine HK2.out.mono ?_
        rintro r w10 ⟨rfl, hb11⟩
        have HB11 := Lib.hid (HB10.out.trans (hb11.mono HB10.out.size))
        clear hb11
        go_wp2_with fail
        go_ret
        exact ⟨by simp, HB11.out⟩

end Go.Proofs.Ytbcpcahfafghkaa

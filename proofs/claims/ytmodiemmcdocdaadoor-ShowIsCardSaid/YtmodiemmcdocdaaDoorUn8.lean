/-
  TWO QUERIES HAVE ONE TEXT JUST IF THEY ARE THE SAME: the law's walk.
-/
import Derived.Test.YtmodiemmcdocdaaDoorSh8
import Derived.Lib.QuietBelow
namespace Go.Proofs.YtmodiemmcdocdaaDoor
open Go.RowKit Go
open Go.Sort (grow)

/-- A call that answers a text, in a region that draws its order. -/
theorem quiet_txt {f : FuncId} {args : Array Value} {w : World} {X : List UInt8} (h : ∀ W, Below w.heap.size w W → Calls Tryd.prog f args W fun e w' => ∃ T : ByteArray, e = .returned (.string T) ∧ T.data.toList = X ∧ Below W.heap.size W w') (d : Nat) (os : Array Obj) :
    Calls Tryd.prog f args (grow (redrawn w d) os) fun e w'' => e = .returned (.string ⟨X.toArray⟩) ∧ ∃ p : Regrown, w'' = grow (redrawn w p.d) p.os :=
  Calls.regrown_of ((h _ (below_regrown w d os)).mono fun e w' ⟨T, he, hT, hb⟩ => ⟨by rw [he]; congr 2; exact ByteArray.ext (by simp [← hT]), hb⟩)

/-- Two made queries are the same just if their texts are. -/
theorem made_inj (l m : List Int) : (PX.spell (PX.qsp Lib.itoa (Qy.query l)) = PX.spell (PX.qsp Lib.itoa (Qy.query m))) ↔ Qy.query l = Qy.query m := by
  refine ⟨fun h => ?_, fun h => by rw [h]⟩
  have hc := PX.query_can l
  have hd := PX.query_can m
  have b1 := hc.f0
  have b2 := hc.t1
  have b3 := hc.ft
  have b4 := hc.l0
  have b5 := hc.l1
  have c1 := hd.f0
  have c2 := hd.t1
  have c3 := hd.ft
  have c4 := hd.l0
  have c5 := hd.l1
  exact PX.text_inj hc (PX.query_tok l) hd (PX.query_tok m) (PX.num_it _ (by omega) (by omega)) (PX.num_it _ (by omega) (by omega)) (PX.num_it _ (by omega) (by omega)) (PX.num_it _ (by omega) (by omega)) (PX.num_it _ (by omega) (by omega)) (PX.num_it _ (by omega) (by omega)) h
set_option maxHeartbeats 8000000 in
set_option maxRecDepth 100000 in
theorem unlike_walk (l m : List Int) (u v : Value) (w : World) (hu : IntsAt w u l) (hv : IntsAt w v m) (hT : Tabs w) : Calls Tryd.prog 4 #[u, v] w fun e w' => e = .returned (.bool true) ∧ Below w.heap.size w w' := by
  have HA := Lib.hid (alive_show w hT)
  have HT := Lib.hid hT
  have HU := Lib.hid hu
  have HV := Lib.hid hv
  obtain ⟨a, cap, rfl, hl63, _⟩ := id hu
  obtain ⟨b, cbp, rfl, hm63, _⟩ := id hv
  clear hT hu hv
  by_cases hg : 300 < l.length ∨ 300 < m.length
  · have hg' : decide (300 < (l.length : Int)) = true ∨ (decide (300 < (l.length : Int)) = false ∧ decide (300 < (m.length : Int)) = true) := by
      simp
      omega
    rcases hg' with hd | ⟨hd, hd1⟩
    all_goals
      go_enter Tryd.func4, Tryd.ntmps4
      go_wp2_with (go_at_call 6; refine HA.out.mono ?_; rintro e w1 ⟨rfl, hb1⟩)
      go_ret
      exact ⟨rfl, hb1⟩
  have d0 : decide (300 < (l.length : Int)) = false := by simp; omega
  have d1 : decide (300 < (m.length : Int)) = false := by simp; omega
  clear hg
  go_enter Tryd.func4, Tryd.ntmps4
  go_wp2_with fail
  refine HA.out.mono ?_
  rintro e w1 ⟨rfl, hb1⟩
  have HB1 := Lib.hid hb1
  have HU1 := Lib.hid (IntsAt.below HU.out hb1)
  have HV1 := Lib.hid (IntsAt.below HV.out hb1)
  clear hb1 HA HU HV
  have HQA := Lib.hid (query_any l w1 _ HU1.out)
  go_wp2_with fail
  refine HQA.out.mono ?_
  rintro e w2 ⟨vq, rfl, ⟨mv, kv, rfl, hm, hk⟩, hl2⟩
  have HB2 := Lib.hid (HB1.out.trans (hl2.below.mono HB1.out.size))
  have HM2 := Lib.hid hm
  have HK2 := Lib.hid hk
  have HQB := Lib.hid (query_any m w2 _ (IntsAt.below HV1.out hl2.below))
  have HIN := Lib.hid (made_inj l m)
  have HWR := Lib.hid (query_wr l)
  have HWS := Lib.hid (query_wr m)
  have HFR := Lib.hid (made_len l)
  have HFS := Lib.hid (made_len m)
  have HCN := Lib.hid (Nat.le_trans (Qy.query_count l) (show 64 ≤ 100000 by decide))
  have HCM := Lib.hid (Nat.le_trans (Qy.query_count m) (show 64 ≤ 100000 by decide))
  generalize Qy.query l = q at HM2 HK2 HIN HWR HFR HCN ⊢
  obtain ⟨am, cm, rfl, _⟩ := id HM2.out
  obtain ⟨ak, ck, rfl⟩ := HK2.out.shape
  clear hl2 hm hk HQA HU1 HV1
  simp only [Qy.val]
  go_wp2_with fail
  refine HQB.out.mono ?_
  rintro e w3 ⟨vp, rfl, ⟨mp, kp, rfl, hm, hk⟩, hl3⟩
  generalize Qy.query m = p at hm hk HIN HWS HFS HCM ⊢
  obtain ⟨bm, dm, rfl, _⟩ := id hm
  obtain ⟨bk, dk, rfl⟩ := hk.shape
  simp only [Qy.val]
  have hb3 : Below w2.heap.size w2 ((w3.alloc (.cells #[.int .i64 q.src, .int .i64 q.til, .slice am q.mat.length cm, .int .i64 q.fil.op, .string q.fil.name, .string q.fil.text, .slice ak q.fil.kids.length ck, .bool q.desc, .int .i64 q.lim, .string q.page] 29)).alloc (.cells #[.int .i64 p.src, .int .i64 p.til, .slice bm p.mat.length dm, .int .i64 p.fil.op, .string p.fil.name, .string p.fil.text, .slice bk p.fil.kids.length dk, .bool p.desc, .int .i64 p.lim, .string p.page] 29)) := hl3.below.trans ((Lay.below (((Keep.refl (fun _ => False) w3).alloc _).alloc _)).mono hl3.size)
  have hl4 : Lay w3 ((w3.alloc (.cells #[.int .i64 q.src, .int .i64 q.til, .slice am q.mat.length cm, .int .i64 q.fil.op, .string q.fil.name, .string q.fil.text, .slice ak q.fil.kids.length ck, .bool q.desc, .int .i64 q.lim, .string q.page] 29)).alloc (.cells #[.int .i64 p.src, .int .i64 p.til, .slice bm p.mat.length dm, .int .i64 p.fil.op, .string p.fil.name, .string p.fil.text, .slice bk p.fil.kids.length dk, .bool p.desc, .int .i64 p.lim, .string p.page] 29)) := ((Keep.refl _ w3).alloc _).alloc _
  have HB4 := Lib.hid (HB2.out.trans (hb3.mono HB2.out.size))
  have HMQ := Lib.hid (MsAt.below HM2.out hb3)
  have HKQ := Lib.hid (KsAt.below hb3 _ _ HK2.out)
  have HMP := Lib.hid (hm.lay hl4)
  have HKP := Lib.hid (KsAt.below hl4.below _ _ hk)
  have HCQ : Hid (CB ((w3.alloc (.cells #[.int .i64 q.src, .int .i64 q.til, .slice am q.mat.length cm, .int .i64 q.fil.op, .string q.fil.name, .string q.fil.text, .slice ak q.fil.kids.length ck, .bool q.desc, .int .i64 q.lim, .string q.page] 29)).alloc (.cells #[.int .i64 p.src, .int .i64 p.til, .slice bm p.mat.length dm, .int .i64 p.fil.op, .string p.fil.name, .string p.fil.text, .slice bk p.fil.kids.length dk, .bool p.desc, .int .i64 p.lim, .string p.page] 29)) w3.heap.size 29 #[.int .i64 q.src, .int .i64 q.til, .slice am q.mat.length cm, .int .i64 q.fil.op, .string q.fil.name, .string q.fil.text, .slice ak q.fil.kids.length ck, .bool q.desc, .int .i64 q.lim, .string q.page]) := Lib.hid ((CB.new w3 29 _).keep ((Keep.refl (fun _ => False) _).alloc _) (fun h => h))
  have hf3 : CB ((w3.alloc (.cells #[.int .i64 q.src, .int .i64 q.til, .slice am q.mat.length cm, .int .i64 q.fil.op, .string q.fil.name, .string q.fil.text, .slice ak q.fil.kids.length ck, .bool q.desc, .int .i64 q.lim, .string q.page] 29)).alloc (.cells #[.int .i64 p.src, .int .i64 p.til, .slice bm p.mat.length dm, .int .i64 p.fil.op, .string p.fil.name, .string p.fil.text, .slice bk p.fil.kids.length dk, .bool p.desc, .int .i64 p.lim, .string p.page] 29)) (w3.heap.size + 1) 29 #[.int .i64 p.src, .int .i64 p.til, .slice bm p.mat.length dm, .int .i64 p.fil.op, .string p.fil.name, .string p.fil.text, .slice bk p.fil.kids.length dk, .bool p.desc, .int .i64 p.lim, .string p.page] := by
    have := CB.new (w3.alloc (.cells #[.int .i64 q.src, .int .i64 q.til, .slice am q.mat.length cm, .int .i64 q.fil.op, .string q.fil.name, .string q.fil.text, .slice ak q.fil.kids.length ck, .bool q.desc, .int .i64 q.lim, .string q.page] 29)) 29 #[.int .i64 p.src, .int .i64 p.til, .slice bm p.mat.length dm, .int .i64 p.fil.op, .string p.fil.name, .string p.fil.text, .slice bk p.fil.kids.length dk, .bool p.desc, .int .i64 p.lim, .string p.page]
    rw [show (w3.alloc (.cells #[.int .i64 q.src, .int .i64 q.til, .slice am q.mat.length cm, .int .i64 q.fil.op, .string q.fil.name, .string q.fil.text, .slice ak q.fil.kids.length ck, .bool q.desc, .int .i64 q.lim, .string q.page] 29)).heap.size = w3.heap.size + 1 by simp] at this
    exact this
  have HCP := Lib.hid hf3
  clear hl3 hl4 hb3 hm hk hf3 HM2 HK2 HQB
  go_upto_region 6 with fail
  revert HB4 HMQ HKQ HMP HKP HCQ HCP
  generalize (w3.alloc (.cells #[.int .i64 q.src, .int .i64 q.til, .slice am q.mat.length cm, .int .i64 q.fil.op, .string q.fil.name, .string q.fil.text, .slice ak q.fil.kids.length ck, .bool q.desc, .int .i64 q.lim, .string q.page] 29)).alloc (.cells #[.int .i64 p.src, .int .i64 p.til, .slice bm p.mat.length dm, .int .i64 p.fil.op, .string p.fil.name, .string p.fil.text, .slice bk p.fil.kids.length dk, .bool p.desc, .int .i64 p.lim, .string p.page] 29) = w4
  generalize w3.heap.size + 1 = B
  generalize w3.heap.size = A
  intro HB4 HMQ HKQ HMP HKP HCQ HCP
  have hA4 := HCQ.out.lt
  have hB4 := HCP.out.lt
  have HT4 := Lib.hid (HT.out.next HB4.out)
  -- what the calls do, at every world that keeps this one
  have HOQ := Lib.hid (fun W (h : Below w4.heap.size w4 W) => ownQuery_any q HWR.out HFR.out W am cm ak ck (MsAt.below HMQ.out h) (KsAt.below h _ _ HKQ.out) (HT4.out.next h))
  have HOP := Lib.hid (fun W (h : Below w4.heap.size w4 W) => ownQuery_any p HWS.out HFS.out W bm dm bk dk (MsAt.below HMP.out h) (KsAt.below h _ _ HKP.out) (HT4.out.next h))
  have HSA := Lib.hid (fun W (h : Below w4.heap.size w4 W) => same_any q p W (.agg #[.int .i64 q.src, .int .i64 q.til, .slice am q.mat.length cm, .int .i64 q.fil.op, .string q.fil.name, .string q.fil.text, .slice ak q.fil.kids.length ck, .bool q.desc, .int .i64 q.lim, .string q.page]) (.agg #[.int .i64 p.src, .int .i64 p.til, .slice bm p.mat.length dm, .int .i64 p.fil.op, .string p.fil.name, .string p.fil.text, .slice bk p.fil.kids.length dk, .bool p.desc, .int .i64 p.lim, .string p.page]) ⟨_, _, rfl, MsAt.below HMQ.out h, KsAt.below h _ _ HKQ.out⟩ ⟨_, _, rfl, MsAt.below HMP.out h, KsAt.below h _ _ HKP.out⟩ HCN.out HCM.out)
  obtain ⟨TQ, hTQ⟩ : ∃ TQ : ByteArray, TQ = ⟨(PX.spell (PX.qsp Lib.itoa q)).toArray⟩ := ⟨_, rfl⟩
  obtain ⟨TP, hTP⟩ : ∃ TP : ByteArray, TP = ⟨(PX.spell (PX.qsp Lib.itoa p)).toArray⟩ := ⟨_, rfl⟩
  haveI hdec : Decidable (q = p) := Classical.propDecidable _
  obtain ⟨bS, hbS⟩ : ∃ bS : Bool, bS = decide (q = p) := ⟨_, rfl⟩
  have KQ := quiet_txt HOQ.out
  have KP := quiet_txt HOP.out
  have KS := fun d os => Calls.regrown_of (d := d) (os := os) (v := .bool bS) ((HSA.out _ (below_regrown w4 d os)).mono fun e w' ⟨b, he, hb, hl⟩ => ⟨by rw [he, hbS]; congr 1; congr 1; exact (Bool.eq_iff_iff.2 (by rw [decide_eq_true_iff]; exact hb)), hl.below⟩)
  rw [← hTQ] at KQ
  rw [← hTP] at KP
  have hEQ : ((TQ.toList == TP.toList) == bS) = true := by
    have h1 : (TQ.toList == TP.toList) = decide (q = p) := by
      rw [ByteArray.toList_eq, ByteArray.toList_eq, hTQ, hTP]
      by_cases h : q = p
      · rw [decide_eq_true h, h]; simp
      · rw [decide_eq_false h, beq_eq_false_iff_ne]
        exact fun e => h (HIN.out.1 (by simpa using e))
    rw [h1, hbS]
    simp
  clear hTQ hTP hbS HIN HOQ HOP HSA hdec
  have hmx : Tryd.prog.follows .mixedOrders = true := by kernel_rfl
  have c0 := fun d os => cell_regrown (HCQ.out.cell 0) d os
  have c1 := fun d os => cell_regrown (HCQ.out.cell 1) d os
  have c2 := fun d os => cell_regrown (HCQ.out.cell 2) d os
  have c3 := fun d os => cell_regrown (HCQ.out.cell 3) d os
  have c4 := fun d os => cell_regrown (HCQ.out.cell 4) d os
  have c5 := fun d os => cell_regrown (HCQ.out.cell 5) d os
  have c6 := fun d os => cell_regrown (HCQ.out.cell 6) d os
  have c7 := fun d os => cell_regrown (HCQ.out.cell 7) d os
  have c8 := fun d os => cell_regrown (HCQ.out.cell 8) d os
  have c9 := fun d os => cell_regrown (HCQ.out.cell 9) d os
  have d0 := fun d os => cell_regrown (HCP.out.cell 0) d os
  have d1 := fun d os => cell_regrown (HCP.out.cell 1) d os
  have d2 := fun d os => cell_regrown (HCP.out.cell 2) d os
  have d3 := fun d os => cell_regrown (HCP.out.cell 3) d os
  have d4 := fun d os => cell_regrown (HCP.out.cell 4) d os
  have d5 := fun d os => cell_regrown (HCP.out.cell 5) d os
  have d6 := fun d os => cell_regrown (HCP.out.cell 6) d os
  have d7 := fun d os => cell_regrown (HCP.out.cell 7) d os
  have d8 := fun d os => cell_regrown (HCP.out.cell 8) d os
  have d9 := fun d os => cell_regrown (HCP.out.cell 9) d os
  go_wp2_with fail
  refine wp_region_quiet_below (by assumption) (by kernel_rfl) ?_
  repeat (quiet_step (with_reducible first | exact KS _ _ | exact KQ _ _ | exact KP _ _))
  refine wpQuiet_nil ?_
  intro _ hw'
  obtain ⟨⟨dq, osq⟩, hw''⟩ := hw'
  subst hw''
  go_wp2_with fail
  go_ret
  exact ⟨rfl, HB4.out.trans ((below_regrown w4 dq osq).mono HB4.out.size)⟩
end Go.Proofs.YtmodiemmcdocdaaDoor

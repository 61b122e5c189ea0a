/-
  A QUERY MADE OF NUMBERS IS PARSED FROM ITS TEXT: the law's walk.
-/
import Derived.Test.YtmodiemmcdocdaaGreatDoorTxB
import Derived.Test.YtmodiemmcdocdaaGreatDoorQryB6
namespace Go.Proofs.YtmodiemmcdocdaaGreatDoor
open Go.RowKit Go
open PX (tk isT)

theorem IntsAt.below {w w' : World} {v : Value} {l : List Int} (h : IntsAt w v l) (hl : Below w.heap.size w w') : IntsAt w' v l := by
  obtain ⟨a, cap, hv, h1, h | ⟨b, off, ha, hlt, hc⟩⟩ := h
  · exact ⟨a, cap, hv, h1, .inl h⟩
  · exact ⟨a, cap, hv, h1, .inr ⟨b, off, ha, Nat.lt_of_lt_of_le hlt hl.size, fun i hi => (World.cell?_of_block (a := ⟨b, off + i, none⟩) (hl.block b hlt)).trans (hc i hi)⟩⟩

set_option maxHeartbeats 8000000 in
set_option maxRecDepth 100000 in
theorem made_walk (l : List Int) (v : Value) (w : World) (h : IntsAt w v l) (hT : Tabs w) : Calls Tryz.prog 4 #[v] w fun e w' => e = .returned (.bool true) ∧ Below w.heap.size w w' := by
  have HA := Lib.hid (alive_own w hT)
  have HT := Lib.hid hT
  have HI := Lib.hid h
  obtain ⟨a, cap, rfl, hl63, _⟩ := id h
  clear hT h
  go_enter Tryz.func4, Tryz.ntmps4
  go_wp2_with fail
  refine HA.out.mono ?_
  rintro e w1 ⟨rfl, hb1⟩
  have HB1 := Lib.hid hb1
  have HI1 := Lib.hid (IntsAt.below HI.out hb1)
  clear hb1 HA HI
  by_cases hs : 300 < l.length
  · have d0 : decide (300 < (l.length : Int)) = true := by simp; omega
    go_wp2_with fail
    go_ret
    exact ⟨rfl, HB1.out⟩
  have d0 : decide (300 < (l.length : Int)) = false := by simp; omega
  clear hs
  have HQA := Lib.hid (query_any l w1 _ HI1.out)
  go_wp2_with fail
  refine HQA.out.mono ?_
  rintro e w2 ⟨vq, rfl, ⟨mv, kv, rfl, hm, hk⟩, hl2⟩
  have hwr := query_wr l
  have hpm := PX.parse_made l
  generalize Qy.query l = q at hm hk hwr hpm
  obtain ⟨am, cm, rfl, _⟩ := id hm
  obtain ⟨ak, ck, rfl⟩ := hk.shape
  simp only [Qy.val]
  have hl3 : Lay w2 (w2.alloc (.cells #[.int .i64 q.src, .int .i64 q.til, .slice am q.mat.length cm, .int .i64 q.fil.op, .string q.fil.name, .string q.fil.text, .slice ak q.fil.kids.length ck, .bool q.desc, .int .i64 q.lim, .string q.page] 28)) := (Keep.refl _ w2).alloc _
  have HB3 := Lib.hid (HB1.out.trans ((hl2.below.trans (hl3.below.mono hl2.size)).mono HB1.out.size))
  have HA3 : Hid (CB (w2.alloc (.cells #[.int .i64 q.src, .int .i64 q.til, .slice am q.mat.length cm, .int .i64 q.fil.op, .string q.fil.name, .string q.fil.text, .slice ak q.fil.kids.length ck, .bool q.desc, .int .i64 q.lim, .string q.page] 28)) w2.heap.size 28 #[.int .i64 q.src, .int .i64 q.til, .slice am q.mat.length cm, .int .i64 q.fil.op, .string q.fil.name, .string q.fil.text, .slice ak q.fil.kids.length ck, .bool q.desc, .int .i64 q.lim, .string q.page]) := Lib.hid (CB.new w2 28 _)
  have HM3 := Lib.hid (hm.lay hl3)
  have HK3 := Lib.hid (KsAt.below hl3.below _ _ hk)
  have HWR := Lib.hid hwr
  have HPM := Lib.hid hpm
  clear hl2 hl3 hm hk hwr hpm HQA HI1
  go_upto_region 6 with fail
  revert HB3 HA3 HM3 HK3
  generalize w2.alloc (.cells #[.int .i64 q.src, .int .i64 q.til, .slice am q.mat.length cm, .int .i64 q.fil.op, .string q.fil.name, .string q.fil.text, .slice ak q.fil.kids.length ck, .bool q.desc, .int .i64 q.lim, .string q.page] 28) = w3
  generalize w2.heap.size = A
  intro HB3 HA3 HM3 HK3
  have HTQ := Lib.hid (textQuery_any q HWR.out w3 am cm ak ck HM3.out HK3.out (HT.out.next HB3.out))
  have a0 := HA3.out.cell 0
  have a1 := HA3.out.cell 1
  have a2 := HA3.out.cell 2
  have a3 := HA3.out.cell 3
  have a4 := HA3.out.cell 4
  have a5 := HA3.out.cell 5
  have a6 := HA3.out.cell 6
  have a7 := HA3.out.cell 7
  have a8 := HA3.out.cell 8
  have a9 := HA3.out.cell 9
  go_wp2_with fail
  clear a0 a1 a2 a3 a4 a5 a6 a7 a8 a9
  refine HTQ.out.mono ?_
  rintro e w4 ⟨T, rfl, hTT, hb4⟩
  have HTT := Lib.hid hTT
  have hAl := HA3.out.lt
  have HA4 := Lib.hid (HA3.out.below hb4 hAl)
  have HB4 := Lib.hid (HB3.out.trans (hb4.mono HB3.out.size))
  have HQ4 : Hid (QAt w4 (.agg #[.int .i64 q.src, .int .i64 q.til, .slice am q.mat.length cm, .int .i64 q.fil.op, .string q.fil.name, .string q.fil.text, .slice ak q.fil.kids.length ck, .bool q.desc, .int .i64 q.lim, .string q.page]) q) := Lib.hid ⟨_, _, rfl, MsAt.below HM3.out hb4, KsAt.below hb4 _ _ HK3.out⟩
  clear hTT hb4 HTQ hAl
  by_cases hs : 1024 < T.size
  · have d1 : decide (1024 < (T.size : Int)) = true := by simp; omega
    go_wp2_with fail
    go_ret
    exact ⟨rfl, HB4.out⟩
  have d1 : decide (1024 < (T.size : Int)) = false := by simp; omega
  have hpp := HPM.out (by rw [← HTT.out, ← Lib.size_eq]; omega)
  have HCN := Lib.hid (parse_count hpp)
  have HP := Lib.hid (parse_ok HTT.out (by omega) hpp w4 (HT.out.next HB4.out))
  clear hpp hs
  go_wp2_with fail
  refine HP.out.mono ?_
  rintro e w5 ⟨bm, dm, bk, dk, rfl, hm, hk, hb5⟩
  simp only [Qy.val]
  have HQ5 := Lib.hid (QAt.below HQ4.out hb5)
  have HA5 := Lib.hid (HA4.out.below hb5 HA4.out.lt)
  have HB5 := Lib.hid (HB4.out.trans (hb5.mono HB4.out.size))
  have HR5 : Hid (QAt w5 (.agg #[.int .i64 q.src, .int .i64 q.til, .slice bm q.mat.length dm, .int .i64 q.fil.op, .string q.fil.name, .string q.fil.text, .slice bk q.fil.kids.length dk, .bool q.desc, .int .i64 q.lim, .string q.page]) q) := Lib.hid ⟨_, _, rfl, hm, hk⟩
  have hl6 : Lay w5 ((w5.alloc (.cells #[.int .i64 q.src, .int .i64 q.til, .slice bm q.mat.length dm, .int .i64 q.fil.op, .string q.fil.name, .string q.fil.text, .slice bk q.fil.kids.length dk, .bool q.desc, .int .i64 q.lim, .string q.page] 28)).alloc (.cells #[.int .i64 0, .int .i64 0] 31)) := ((Keep.refl _ w5).alloc _).alloc _
  have HA6 := Lib.hid (HA5.out.keep hl6 (fun h => h))
  have HB6 := Lib.hid (HB5.out.trans (hl6.below.mono HB5.out.size))
  have HC6 : Hid (CB ((w5.alloc (.cells #[.int .i64 q.src, .int .i64 q.til, .slice bm q.mat.length dm, .int .i64 q.fil.op, .string q.fil.name, .string q.fil.text, .slice bk q.fil.kids.length dk, .bool q.desc, .int .i64 q.lim, .string q.page] 28)).alloc (.cells #[.int .i64 0, .int .i64 0] 31)) w5.heap.size 28 #[.int .i64 q.src, .int .i64 q.til, .slice bm q.mat.length dm, .int .i64 q.fil.op, .string q.fil.name, .string q.fil.text, .slice bk q.fil.kids.length dk, .bool q.desc, .int .i64 q.lim, .string q.page]) := Lib.hid ((CB.new w5 28 _).keep ((Keep.refl (fun _ => False) _).alloc _) (fun h => h))
  have hf6 : CB ((w5.alloc (.cells #[.int .i64 q.src, .int .i64 q.til, .slice bm q.mat.length dm, .int .i64 q.fil.op, .string q.fil.name, .string q.fil.text, .slice bk q.fil.kids.length dk, .bool q.desc, .int .i64 q.lim, .string q.page] 28)).alloc (.cells #[.int .i64 0, .int .i64 0] 31)) (w5.heap.size + 1) 31 #[.int .i64 0, .int .i64 0] := by
    have := CB.new (w5.alloc (.cells #[.int .i64 q.src, .int .i64 q.til, .slice bm q.mat.length dm, .int .i64 q.fil.op, .string q.fil.name, .string q.fil.text, .slice bk q.fil.kids.length dk, .bool q.desc, .int .i64 q.lim, .string q.page] 28)) 31 #[.int .i64 0, .int .i64 0]
    rw [show (w5.alloc (.cells #[.int .i64 q.src, .int .i64 q.til, .slice bm q.mat.length dm, .int .i64 q.fil.op, .string q.fil.name, .string q.fil.text, .slice bk q.fil.kids.length dk, .bool q.desc, .int .i64 q.lim, .string q.page] 28)).heap.size = w5.heap.size + 1 by simp] at this
    exact this
  have HF6 := Lib.hid hf6
  have HS := Lib.hid (same_any q q ((w5.alloc (.cells #[.int .i64 q.src, .int .i64 q.til, .slice bm q.mat.length dm, .int .i64 q.fil.op, .string q.fil.name, .string q.fil.text, .slice bk q.fil.kids.length dk, .bool q.desc, .int .i64 q.lim, .string q.page] 28)).alloc (.cells #[.int .i64 0, .int .i64 0] 31)) _ _ (QAt.lay HQ5.out hl6) (QAt.lay HR5.out hl6) HCN.out HCN.out)
  clear hf6 hl6 hm hk hb5 HP
  go_upto_region 10 with fail
  revert HA6 HB6 HC6 HF6 HS
  generalize (w5.alloc (.cells #[.int .i64 q.src, .int .i64 q.til, .slice bm q.mat.length dm, .int .i64 q.fil.op, .string q.fil.name, .string q.fil.text, .slice bk q.fil.kids.length dk, .bool q.desc, .int .i64 q.lim, .string q.page] 28)).alloc (.cells #[.int .i64 0, .int .i64 0] 31) = w6
  generalize w5.heap.size + 1 = B
  generalize w5.heap.size = C
  intro HA6 HB6 HC6 HF6 HS
  have f0 := HF6.out.cell 0
  have f1 := HF6.out.cell 1
  have a0 := HA6.out.cell 0
  have a1 := HA6.out.cell 1
  have a2 := HA6.out.cell 2
  have a3 := HA6.out.cell 3
  have a4 := HA6.out.cell 4
  have a5 := HA6.out.cell 5
  have a6 := HA6.out.cell 6
  have a7 := HA6.out.cell 7
  have a8 := HA6.out.cell 8
  have a9 := HA6.out.cell 9
  have c0 := HC6.out.cell 0
  have c1 := HC6.out.cell 1
  have c2 := HC6.out.cell 2
  have c3 := HC6.out.cell 3
  have c4 := HC6.out.cell 4
  have c5 := HC6.out.cell 5
  have c6 := HC6.out.cell 6
  have c7 := HC6.out.cell 7
  have c8 := HC6.out.cell 8
  have c9 := HC6.out.cell 9
  go_wp2_with fail
  refine HS.out.mono ?_
  rintro e w7 ⟨b, rfl, hb, hl7⟩
  obtain rfl : b = true := by simpa using hb
  have HB7 := Lib.hid (HB6.out.trans (hl7.below.mono HB6.out.size))
  clear hb hl7
  go_wp2_with fail
  go_ret
  exact ⟨rfl, HB7.out⟩
end Go.Proofs.YtmodiemmcdocdaaGreatDoor

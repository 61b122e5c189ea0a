/-
  THE TEXT OF A QUERY IS PARSED TO THE SAME QUERY: the law's walk.
-/
import Derived.Test.YtmodiemmcdocdaaGreatDoorQQy8
import Derived.Test.YtmodiemmcdocdaaGreatDoorQRb7
import Derived.Test.YtmodiemmcdocdaaGreatDoorQKl8
import Derived.Test.YtmodiemmcdocdaaGreatDoorQKn7
namespace Go.Proofs.YtmodiemmcdocdaaGreatDoor
open Go.RowKit Go
open PX (tk isT)

def liveA : List UInt8 := [102, 114, 111, 109, 32, 48, 32, 116, 111, 32, 57, 32, 119, 104, 101, 114, 101, 32, 97, 112, 112, 33, 61, 34, 120, 34, 32, 102, 105, 110, 100, 32, 40, 119, 111, 114, 100, 32, 34, 97, 34, 32, 111, 114, 32, 119, 111, 114, 100, 32, 34, 98, 34, 41, 32, 97, 110, 100, 32, 110, 111, 116, 32, 104, 97, 115, 32, 34, 120, 34, 32, 108, 105, 109, 105, 116, 32, 53, 32, 112, 97, 103, 101, 32, 34, 112, 34]
def liveQ : Qy := ⟨0, 9, [⟨⟨#[97, 112, 112]⟩, true, ⟨#[120]⟩⟩], .mk 7 ⟨#[]⟩ ⟨#[]⟩ [.mk 8 ⟨#[]⟩ ⟨#[]⟩ [.mk 3 ⟨#[]⟩ ⟨#[97]⟩ [], .mk 3 ⟨#[]⟩ ⟨#[98]⟩ []], .mk 6 ⟨#[]⟩ ⟨#[]⟩ [.mk 4 ⟨#[]⟩ ⟨#[120]⟩ []]], false, 5, ⟨#[112]⟩⟩
theorem parse_L : PX.parse liveA = .ok liveQ := by kernel_rfl
theorem spell_L : PX.spell (PX.qsp Lib.itoa liveQ) = liveA := by kernel_rfl

theorem eq_list {T U : ByteArray} (h : T.data.toList = U.data.toList) : (T.toList == U.toList) = true := by
  rw [ByteArray.toList_eq, ByteArray.toList_eq, h]
  simp

/-- A parsed query can be told by the program, and by the document's own. -/
theorem told_q {l : List UInt8} {q : Qy} (h : PX.parse l = .ok q) : PX.Read q ∧ Wr q ∧ (fText q.fil).length ≤ 1000000000 := by
  have hr := PX.parse_told h
  have h1 := filter_cost _ q.fil (Nat.le_refl _) hr.fil
  have h2 := hr.cost
  exact ⟨hr, read_wr hr, by omega⟩

set_option maxHeartbeats 8000000 in
set_option maxRecDepth 100000 in
theorem alive_show (w : World) (hT : Tabs w) : Calls Tryz.prog 19 #[] w fun e w' => e = .returned (.bool true) ∧ Below w.heap.size w w' := by
  obtain ⟨s, hs⟩ : ∃ s : ByteArray, s = ⟨#[102, 114, 111, 109, 32, 48, 32, 116, 111, 32, 57, 32, 119, 104, 101, 114, 101, 32, 97, 112, 112, 33, 61, 34, 120, 34, 32, 102, 105, 110, 100, 32, 40, 119, 111, 114, 100, 32, 34, 97, 34, 32, 111, 114, 32, 119, 111, 114, 100, 32, 34, 98, 34, 41, 32, 97, 110, 100, 32, 110, 111, 116, 32, 104, 97, 115, 32, 34, 120, 34, 32, 108, 105, 109, 105, 116, 32, 53, 32, 112, 97, 103, 101, 32, 34, 112, 34]⟩ := ⟨_, rfl⟩
  have hsl : s.data.toList = liveA := by rw [hs]; rfl
  have hss : s.size ≤ 1000 := by rw [hs]; decide
  have hpp := parse_L
  rw [← hsl] at hpp
  have HR := Lib.hid (ref_parse s (by omega) w hT)
  rw [hpp] at HR
  obtain ⟨hrd, hwr, hfl⟩ := told_q hpp
  have HSP : Hid (PX.spell (PX.qsp Lib.itoa liveQ) = s.data.toList) := Lib.hid (by rw [hsl]; exact spell_L)
  have HWR := Lib.hid hwr
  have HFL := Lib.hid hfl
  have HT := Lib.hid hT
  clear hpp hrd hwr hfl hsl hT
  generalize liveQ = q at HR HWR HFL HSP
  go_enter Tryz.func19, Tryz.ntmps19
  go_wp2_with fail
  rw [← hs]
  clear hs
  refine HR.out.mono ?_
  rintro e w4 ⟨hb4, v4, rfl, mv, kv, rfl, hm, hk⟩
  obtain ⟨bm, dm, rfl, _⟩ := id hm
  obtain ⟨bk, dk, rfl⟩ := hk.shape
  simp only [Qy.val]
  have hl5 : Lay w4 (w4.alloc (.cells #[.int .i64 q.src, .int .i64 q.til, .slice bm q.mat.length dm, .int .i64 q.fil.op, .string q.fil.name, .string q.fil.text, .slice bk q.fil.kids.length dk, .bool q.desc, .int .i64 q.lim, .string q.page] 28)) := (Keep.refl _ w4).alloc _
  have HB5 := Lib.hid (hb4.trans (hl5.below.mono hb4.size))
  have HM5 := Lib.hid (hm.lay hl5)
  have HK5 := Lib.hid (KsAt.below hl5.below _ _ hk)
  have HC5 : Hid (CB (w4.alloc (.cells #[.int .i64 q.src, .int .i64 q.til, .slice bm q.mat.length dm, .int .i64 q.fil.op, .string q.fil.name, .string q.fil.text, .slice bk q.fil.kids.length dk, .bool q.desc, .int .i64 q.lim, .string q.page] 28)) w4.heap.size 28 #[.int .i64 q.src, .int .i64 q.til, .slice bm q.mat.length dm, .int .i64 q.fil.op, .string q.fil.name, .string q.fil.text, .slice bk q.fil.kids.length dk, .bool q.desc, .int .i64 q.lim, .string q.page]) := Lib.hid (CB.new w4 28 _)
  clear hl5 hm hk hb4 HR
  go_upto_region 3 with fail
  revert HB5 HM5 HK5 HC5
  generalize w4.alloc (.cells #[.int .i64 q.src, .int .i64 q.til, .slice bm q.mat.length dm, .int .i64 q.fil.op, .string q.fil.name, .string q.fil.text, .slice bk q.fil.kids.length dk, .bool q.desc, .int .i64 q.lim, .string q.page] 28) = w5
  generalize w4.heap.size = C
  intro HB5 HM5 HK5 HC5
  have HQ := Lib.hid (ownQuery_any q HWR.out HFL.out w5 bm dm bk dk HM5.out HK5.out (HT.out.next HB5.out))
  have c0 := HC5.out.cell 0
  have c1 := HC5.out.cell 1
  have c2 := HC5.out.cell 2
  have c3 := HC5.out.cell 3
  have c4 := HC5.out.cell 4
  have c5 := HC5.out.cell 5
  have c6 := HC5.out.cell 6
  have c7 := HC5.out.cell 7
  have c8 := HC5.out.cell 8
  have c9 := HC5.out.cell 9
  go_wp2_with fail
  refine HQ.out.mono ?_
  rintro e w6 ⟨T, rfl, hTT, hb6⟩
  have hte : (T.toList == s.toList) = true := eq_list (by rw [hTT, HSP.out])
  have HB6 := Lib.hid (HB5.out.trans (hb6.mono HB5.out.size))
  have HF := Lib.hid (ownFilter_any (.mk 2 ⟨#[]⟩ ⟨#[]⟩ []) (by rw [PX.Can]; exact .inl ⟨.inr rfl, rfl, rfl, rfl⟩) (by rw [Sm, Sms]; exact ⟨by decide, by decide, trivial⟩) (by rw [(fText_leaf ⟨#[]⟩ ⟨#[]⟩).2.1]; decide) w6 (.slice none 0 0) (by unfold KsAt; exact ⟨none, 0, rfl, by simp, .inl rfl⟩) (HT.out.next HB6.out).utf)
  simp only [Ft.val, Ft.op, Ft.name, Ft.text] at HF
  clear hb6 hTT HQ c0 c1 c2 c3 c4 c5 c6 c7 c8 c9
  go_wp2_with fail
  refine HF.out.mono ?_
  rintro e w7 ⟨U, rfl, hU, hb7⟩
  have hue : (U.toList == [102, 97, 108, 115, 101]) = true := by
    rw [ByteArray.toList_eq, hU, (fText_leaf ⟨#[]⟩ ⟨#[]⟩).2.1]
    rfl
  have HB7 := Lib.hid (HB6.out.trans (hb7.mono HB6.out.size))
  clear hb7 hU HF
  go_wp2_with fail
  go_ret
  exact ⟨rfl, HB7.out⟩

/-- The document's own Query. -/
theorem refQuery_any (q : Qy) (hw : Wr q) (w : World) (am : Option Addr) (cm : Nat) (ak : Option Addr) (ck : Nat) (hm : MsAt w (.slice am q.mat.length cm) q.mat) (hk : KsAt w (.slice ak q.fil.kids.length ck) q.fil) (hT : Tabs w) :
    Calls Tryz.prog 21 #[.agg #[.int .i64 q.src, .int .i64 q.til, .slice am q.mat.length cm, .int .i64 q.fil.op, .string q.fil.name, .string q.fil.text, .slice ak q.fil.kids.length ck, .bool q.desc, .int .i64 q.lim, .string q.page]] w fun e w' => ∃ T : ByteArray, e = .returned (.string T) ∧ T.data.toList = PX.spell (PX.qsp Lib.itoa q) ∧ Below w.heap.size w w' := by
  obtain ⟨w0, hW⟩ : ∃ w0, w0 = w.alloc (.cells #[.int .i64 q.src, .int .i64 q.til, .slice am q.mat.length cm, .int .i64 q.fil.op, .string q.fil.name, .string q.fil.text, .slice ak q.fil.kids.length ck, .bool q.desc, .int .i64 q.lim, .string q.page] 28) := ⟨_, rfl⟩
  have hl0 : Lay w w0 := by rw [hW]; exact (Keep.refl _ w).alloc _
  have HB0 := Lib.hid hl0.below
  have HC0 : Hid (CB w0 w.heap.size 28 #[.int .i64 q.src, .int .i64 q.til, .slice am q.mat.length cm, .int .i64 q.fil.op, .string q.fil.name, .string q.fil.text, .slice ak q.fil.kids.length ck, .bool q.desc, .int .i64 q.lim, .string q.page]) := Lib.hid (by rw [hW]; exact CB.new w 28 _)
  have HQ := Lib.hid (textQuery_any q hw w0 am cm ak ck (hm.lay hl0) (KsAt.below hl0.below _ _ hk) (hT.next hl0.below))
  have HW := Lib.hid hW.symm
  clear hl0 hW hw hm hk hT
  have c0 := HC0.out.cell 0
  have c1 := HC0.out.cell 1
  have c2 := HC0.out.cell 2
  have c3 := HC0.out.cell 3
  have c4 := HC0.out.cell 4
  have c5 := HC0.out.cell 5
  have c6 := HC0.out.cell 6
  have c7 := HC0.out.cell 7
  have c8 := HC0.out.cell 8
  have c9 := HC0.out.cell 9
  go_enter Tryz.func21, Tryz.ntmps21
  go_upto_region 1 with fail
  rw [HW.out]
  go_wp2_with fail
  refine HQ.out.mono ?_
  rintro e w2 ⟨T, rfl, hTT, hb2⟩
  have HB2 := Lib.hid (HB0.out.trans (hb2.mono HB0.out.size))
  have HTT := Lib.hid hTT
  clear hb2 hTT HQ c0 c1 c2 c3 c4 c5 c6 c7 c8 c9
  go_wp2_with fail
  go_ret
  exact ⟨_, rfl, HTT.out, HB2.out⟩

set_option maxHeartbeats 8000000 in
set_option maxRecDepth 100000 in
theorem back_walk (s : ByteArray) (w : World) (hT : Tabs w) : Calls Tryz.prog 9 #[.string s] w fun e w' => e = .returned (.bool true) ∧ Below w.heap.size w w' := by
  have HA := Lib.hid (alive_show w hT)
  have HT := Lib.hid hT
  clear hT
  go_enter Tryz.func9, Tryz.ntmps9
  go_wp2_with fail
  refine HA.out.mono ?_
  rintro e w1 ⟨rfl, hb1⟩
  have HB1 := Lib.hid hb1
  clear hb1 HA
  by_cases hs : 1024 < s.size
  · have d0 : decide (1024 < (s.size : Int)) = true := by simp; omega
    go_wp2_with fail
    go_ret
    exact ⟨rfl, HB1.out⟩
  have d0 : decide (1024 < (s.size : Int)) = false := by simp; omega
  have HSS : Hid (s.size ≤ 1048576) := Lib.hid (by omega)
  clear hs
  rcases hp : PX.parse s.data.toList with p | q
  · have HP := Lib.hid (parse_no rfl HSS.out hp w1 (HT.out.next HB1.out))
    have hz := PX.parse_nz hp
    have z1 : ((p.1 : Int) == 0) = false := by simp; omega
    have z2 : ((p.1 : Int) != 0) = true := by simp; omega
    clear hp hz
    go_wp2_with fail
    refine HP.out.mono ?_
    rintro e w2 ⟨rfl, hb2⟩
    simp only [zeroQ]
    have HB2 := Lib.hid (fun u v => (HB1.out.trans (hb2.mono HB1.out.size)).trans ((Lay.below (((Keep.refl (fun _ => False) w2).alloc u).alloc v)).mono (HB1.out.trans (hb2.mono HB1.out.size)).size))
    clear hb2 HP
    go_wp2_with fail
    go_ret
    exact ⟨rfl, HB2.out _ _⟩
  have HP := Lib.hid (parse_ok rfl HSS.out hp w1 (HT.out.next HB1.out))
  obtain ⟨hrd, hwr, hfl⟩ := told_q hp
  have HCN := Lib.hid (parse_count hp)
  have HNR := Lib.hid (PX.parse_near hrd)
  have HSH := Lib.hid (read_short hrd)
  have HWR := Lib.hid hwr
  have HFL := Lib.hid hfl
  clear hp hrd hwr hfl
  go_wp2_with fail
  refine HP.out.mono ?_
  rintro e w2 ⟨am, cm, ak, ck, rfl, hm, hk, hb2⟩
  simp only [Qy.val]
  have hl3 : Lay w2 ((w2.alloc (.cells #[.int .i64 q.src, .int .i64 q.til, .slice am q.mat.length cm, .int .i64 q.fil.op, .string q.fil.name, .string q.fil.text, .slice ak q.fil.kids.length ck, .bool q.desc, .int .i64 q.lim, .string q.page] 28)).alloc (.cells #[.int .i64 0, .int .i64 0] 31)) := ((Keep.refl _ w2).alloc _).alloc _
  have HB3 := Lib.hid ((HB1.out.trans (hb2.mono HB1.out.size)).trans (hl3.below.mono (HB1.out.trans (hb2.mono HB1.out.size)).size))
  have HM3 := Lib.hid (hm.lay hl3)
  have HK3 := Lib.hid (KsAt.below hl3.below _ _ hk)
  have HC3 : Hid (CB ((w2.alloc (.cells #[.int .i64 q.src, .int .i64 q.til, .slice am q.mat.length cm, .int .i64 q.fil.op, .string q.fil.name, .string q.fil.text, .slice ak q.fil.kids.length ck, .bool q.desc, .int .i64 q.lim, .string q.page] 28)).alloc (.cells #[.int .i64 0, .int .i64 0] 31)) w2.heap.size 28 #[.int .i64 q.src, .int .i64 q.til, .slice am q.mat.length cm, .int .i64 q.fil.op, .string q.fil.name, .string q.fil.text, .slice ak q.fil.kids.length ck, .bool q.desc, .int .i64 q.lim, .string q.page]) := Lib.hid ((CB.new w2 28 _).keep ((Keep.refl (fun _ => False) _).alloc _) (fun h => h))
  have hf3 : CB ((w2.alloc (.cells #[.int .i64 q.src, .int .i64 q.til, .slice am q.mat.length cm, .int .i64 q.fil.op, .string q.fil.name, .string q.fil.text, .slice ak q.fil.kids.length ck, .bool q.desc, .int .i64 q.lim, .string q.page] 28)).alloc (.cells #[.int .i64 0, .int .i64 0] 31)) (w2.heap.size + 1) 31 #[.int .i64 0, .int .i64 0] := by
    have := CB.new (w2.alloc (.cells #[.int .i64 q.src, .int .i64 q.til, .slice am q.mat.length cm, .int .i64 q.fil.op, .string q.fil.name, .string q.fil.text, .slice ak q.fil.kids.length ck, .bool q.desc, .int .i64 q.lim, .string q.page] 28)) 31 #[.int .i64 0, .int .i64 0]
    rw [show (w2.alloc (.cells #[.int .i64 q.src, .int .i64 q.til, .slice am q.mat.length cm, .int .i64 q.fil.op, .string q.fil.name, .string q.fil.text, .slice ak q.fil.kids.length ck, .bool q.desc, .int .i64 q.lim, .string q.page] 28)).heap.size = w2.heap.size + 1 by simp] at this
    exact this
  have HF3 := Lib.hid hf3
  clear hl3 hf3 hm hk hb2 HP
  go_upto_region 6 with fail
  revert HB3 HM3 HK3 HC3 HF3
  generalize ((w2.alloc (.cells #[.int .i64 q.src, .int .i64 q.til, .slice am q.mat.length cm, .int .i64 q.fil.op, .string q.fil.name, .string q.fil.text, .slice ak q.fil.kids.length ck, .bool q.desc, .int .i64 q.lim, .string q.page] 28)).alloc (.cells #[.int .i64 0, .int .i64 0] 31)) = w3
  generalize w2.heap.size + 1 = B
  generalize w2.heap.size = A
  intro HB3 HM3 HK3 HC3 HF3
  have HQ := Lib.hid (ownQuery_any q HWR.out HFL.out w3 am cm ak ck HM3.out HK3.out (HT.out.next HB3.out))
  have f0 := HF3.out.cell 0
  have f1 := HF3.out.cell 1
  have c0 := HC3.out.cell 0
  have c1 := HC3.out.cell 1
  have c2 := HC3.out.cell 2
  have c3 := HC3.out.cell 3
  have c4 := HC3.out.cell 4
  have c5 := HC3.out.cell 5
  have c6 := HC3.out.cell 6
  have c7 := HC3.out.cell 7
  have c8 := HC3.out.cell 8
  have c9 := HC3.out.cell 9
  go_wp2_with fail
  refine HQ.out.mono ?_
  rintro e w4 ⟨T, rfl, hTT, hb4⟩
  have hTs : T.size ≤ 100000 := by rw [Lib.size_eq, hTT]; exact HSH.out
  have HTT := Lib.hid hTT
  have HB4 := Lib.hid (HB3.out.trans (hb4.mono HB3.out.size))
  have HM4 := Lib.hid (MsAt.below HM3.out hb4)
  have HK4 := Lib.hid (KsAt.below hb4 _ _ HK3.out)
  have HC4 := Lib.hid (HC3.out.below hb4 HC3.out.lt)
  clear hb4 hTT HQ HM3 HK3 HC3 HF3 f0 f1 c0 c1 c2 c3 c4 c5 c6 c7 c8 c9
  rcases HNR.out with hp2 | ⟨p2, hp2⟩
  rotate_left
  · -- it stands too deep, or is too long
    have HP := Lib.hid (parse_no HTT.out (by omega) hp2 w4 (HT.out.next HB4.out))
    have HP2 := Lib.hid hp2
    clear hp2
    go_wp2_with fail
    refine HP.out.mono ?_
    rintro e w5 ⟨rfl, hb5⟩
    simp only [zeroQ]
    have hl6 : Lay w5 ((w5.alloc (.cells #[.int .i64 0, .int .i64 0, .slice none 0 0, .int .i64 0, .string ⟨#[]⟩, .string ⟨#[]⟩, .slice none 0 0, .bool false, .int .i64 0, .string ⟨#[]⟩] 28)).alloc (.cells #[.int .i64 6, .int .i64 p2] 31)) := ((Keep.refl _ w5).alloc _).alloc _
    have hb6 := hb5.trans (hl6.below.mono hb5.size)
    have HB6 := Lib.hid (HB4.out.trans (hb6.mono HB4.out.size))
    have HM6 := Lib.hid (MsAt.below HM4.out hb6)
    have HK6 := Lib.hid (KsAt.below hb6 _ _ HK4.out)
    have HC6 := Lib.hid (HC4.out.below hb6 HC4.out.lt)
    have hf6 : CB ((w5.alloc (.cells #[.int .i64 0, .int .i64 0, .slice none 0 0, .int .i64 0, .string ⟨#[]⟩, .string ⟨#[]⟩, .slice none 0 0, .bool false, .int .i64 0, .string ⟨#[]⟩] 28)).alloc (.cells #[.int .i64 6, .int .i64 p2] 31)) (w5.heap.size + 1) 31 #[.int .i64 6, .int .i64 p2] := by
      have := CB.new (w5.alloc (.cells #[.int .i64 0, .int .i64 0, .slice none 0 0, .int .i64 0, .string ⟨#[]⟩, .string ⟨#[]⟩, .slice none 0 0, .bool false, .int .i64 0, .string ⟨#[]⟩] 28)) 31 #[.int .i64 6, .int .i64 p2]
      rw [show (w5.alloc (.cells #[.int .i64 0, .int .i64 0, .slice none 0 0, .int .i64 0, .string ⟨#[]⟩, .string ⟨#[]⟩, .slice none 0 0, .bool false, .int .i64 0, .string ⟨#[]⟩] 28)).heap.size = w5.heap.size + 1 by simp] at this
      exact this
    have HF6 := Lib.hid hf6
    clear hl6 hb5 hb6 hf6 HP HM4 HK4 HC4
    go_upto_region 10 with fail
    revert HB6 HM6 HK6 HC6 HF6
    generalize ((w5.alloc (.cells #[.int .i64 0, .int .i64 0, .slice none 0 0, .int .i64 0, .string ⟨#[]⟩, .string ⟨#[]⟩, .slice none 0 0, .bool false, .int .i64 0, .string ⟨#[]⟩] 28)).alloc (.cells #[.int .i64 6, .int .i64 p2] 31)) = w6
    generalize w5.heap.size + 1 = D
    intro HB6 HM6 HK6 HC6 HF6
    have HRQ := Lib.hid (refQuery_any q HWR.out w6 am cm ak ck HM6.out HK6.out (HT.out.next HB6.out))
    have f0 := HF6.out.cell 0
    have f1 := HF6.out.cell 1
    have c0 := HC6.out.cell 0
    have c1 := HC6.out.cell 1
    have c2 := HC6.out.cell 2
    have c3 := HC6.out.cell 3
    have c4 := HC6.out.cell 4
    have c5 := HC6.out.cell 5
    have c6 := HC6.out.cell 6
    have c7 := HC6.out.cell 7
    have c8 := HC6.out.cell 8
    have c9 := HC6.out.cell 9
    go_wp2_with fail
    refine HRQ.out.mono ?_
    rintro e w7 ⟨U, rfl, hUU, hb7⟩
    have hUs : U.size ≤ 100000 := by rw [Lib.size_eq, hUU]; exact HSH.out
    have HB7 := Lib.hid (HB6.out.trans (hb7.mono HB6.out.size))
    have HRP := Lib.hid (ref_parse U (by omega) w7 (HT.out.next HB7.out))
    rw [hUU, HP2.out] at HRP
    clear hb7 hUU HRQ f0 f1 c0 c1 c2 c3 c4 c5 c6 c7 c8 c9
    go_wp2_with fail
    refine HRP.out.mono ?_
    rintro e w8 ⟨hb8, he⟩
    obtain rfl := he
    simp only [zeroQ]
    have HB8 := Lib.hid (fun u => (HB7.out.trans (hb8.mono HB7.out.size)).trans ((Lay.below ((Keep.refl (fun _ => False) w8).alloc u)).mono (HB7.out.trans (hb8.mono HB7.out.size)).size))
    clear hb8 HRP
    go_wp2_with fail
    go_ret
    exact ⟨rfl, HB8.out _⟩
  · have HP := Lib.hid (parse_ok HTT.out (by omega) hp2 w4 (HT.out.next HB4.out))
    clear hp2
    go_wp2_with fail
    refine HP.out.mono ?_
    rintro e w5 ⟨bm, dm, bk, dk, rfl, hm, hk, hb5⟩
    simp only [Qy.val]
    have hl6 : Lay w5 ((w5.alloc (.cells #[.int .i64 q.src, .int .i64 q.til, .slice bm q.mat.length dm, .int .i64 q.fil.op, .string q.fil.name, .string q.fil.text, .slice bk q.fil.kids.length dk, .bool q.desc, .int .i64 q.lim, .string q.page] 28)).alloc (.cells #[.int .i64 0, .int .i64 0] 31)) := ((Keep.refl _ w5).alloc _).alloc _
    have hb6 := hb5.trans (hl6.below.mono hb5.size)
    have HB6 := Lib.hid (HB4.out.trans (hb6.mono HB4.out.size))
    have HM6 := Lib.hid (MsAt.below HM4.out hb6)
    have HK6 := Lib.hid (KsAt.below hb6 _ _ HK4.out)
    have HC6 := Lib.hid (HC4.out.below hb6 HC4.out.lt)
    have HMN := Lib.hid (hm.lay hl6)
    have HKN := Lib.hid (KsAt.below hl6.below _ _ hk)
    have HE6 : Hid (CB ((w5.alloc (.cells #[.int .i64 q.src, .int .i64 q.til, .slice bm q.mat.length dm, .int .i64 q.fil.op, .string q.fil.name, .string q.fil.text, .slice bk q.fil.kids.length dk, .bool q.desc, .int .i64 q.lim, .string q.page] 28)).alloc (.cells #[.int .i64 0, .int .i64 0] 31)) w5.heap.size 28 #[.int .i64 q.src, .int .i64 q.til, .slice bm q.mat.length dm, .int .i64 q.fil.op, .string q.fil.name, .string q.fil.text, .slice bk q.fil.kids.length dk, .bool q.desc, .int .i64 q.lim, .string q.page]) := Lib.hid ((CB.new w5 28 _).keep ((Keep.refl (fun _ => False) _).alloc _) (fun h => h))
    have hf6 : CB ((w5.alloc (.cells #[.int .i64 q.src, .int .i64 q.til, .slice bm q.mat.length dm, .int .i64 q.fil.op, .string q.fil.name, .string q.fil.text, .slice bk q.fil.kids.length dk, .bool q.desc, .int .i64 q.lim, .string q.page] 28)).alloc (.cells #[.int .i64 0, .int .i64 0] 31)) (w5.heap.size + 1) 31 #[.int .i64 0, .int .i64 0] := by
      have := CB.new (w5.alloc (.cells #[.int .i64 q.src, .int .i64 q.til, .slice bm q.mat.length dm, .int .i64 q.fil.op, .string q.fil.name, .string q.fil.text, .slice bk q.fil.kids.length dk, .bool q.desc, .int .i64 q.lim, .string q.page] 28)) 31 #[.int .i64 0, .int .i64 0]
      rw [show (w5.alloc (.cells #[.int .i64 q.src, .int .i64 q.til, .slice bm q.mat.length dm, .int .i64 q.fil.op, .string q.fil.name, .string q.fil.text, .slice bk q.fil.kids.length dk, .bool q.desc, .int .i64 q.lim, .string q.page] 28)).heap.size = w5.heap.size + 1 by simp] at this
      exact this
    have HF6 := Lib.hid hf6
    clear hl6 hb5 hb6 hf6 HP HM4 HK4 HC4 hm hk
    go_upto_region 10 with fail
    revert HB6 HM6 HK6 HC6 HF6 HMN HKN HE6
    generalize ((w5.alloc (.cells #[.int .i64 q.src, .int .i64 q.til, .slice bm q.mat.length dm, .int .i64 q.fil.op, .string q.fil.name, .string q.fil.text, .slice bk q.fil.kids.length dk, .bool q.desc, .int .i64 q.lim, .string q.page] 28)).alloc (.cells #[.int .i64 0, .int .i64 0] 31)) = w6
    generalize w5.heap.size + 1 = D
    generalize w5.heap.size = E
    intro HB6 HM6 HK6 HC6 HMN HKN HE6 HF6
    have HS := Lib.hid (same_any q q w6 (.agg #[.int .i64 q.src, .int .i64 q.til, .slice am q.mat.length cm, .int .i64 q.fil.op, .string q.fil.name, .string q.fil.text, .slice ak q.fil.kids.length ck, .bool q.desc, .int .i64 q.lim, .string q.page]) (.agg #[.int .i64 q.src, .int .i64 q.til, .slice bm q.mat.length dm, .int .i64 q.fil.op, .string q.fil.name, .string q.fil.text, .slice bk q.fil.kids.length dk, .bool q.desc, .int .i64 q.lim, .string q.page]) ⟨_, _, rfl, HM6.out, HK6.out⟩ ⟨_, _, rfl, HMN.out, HKN.out⟩ HCN.out HCN.out)
    have f0 := HF6.out.cell 0
    have f1 := HF6.out.cell 1
    have c0 := HC6.out.cell 0
    have c1 := HC6.out.cell 1
    have c2 := HC6.out.cell 2
    have c3 := HC6.out.cell 3
    have c4 := HC6.out.cell 4
    have c5 := HC6.out.cell 5
    have c6 := HC6.out.cell 6
    have c7 := HC6.out.cell 7
    have c8 := HC6.out.cell 8
    have c9 := HC6.out.cell 9
    have e0 := HE6.out.cell 0
    have e1 := HE6.out.cell 1
    have e2 := HE6.out.cell 2
    have e3 := HE6.out.cell 3
    have e4 := HE6.out.cell 4
    have e5 := HE6.out.cell 5
    have e6 := HE6.out.cell 6
    have e7 := HE6.out.cell 7
    have e8 := HE6.out.cell 8
    have e9 := HE6.out.cell 9
    go_wp2_with fail
    refine HS.out.mono ?_
    rintro e w7 ⟨b, rfl, hb, hl7⟩
    obtain rfl : b = true := by simpa using hb
    have HB7 := Lib.hid (HB6.out.trans (hl7.below.mono HB6.out.size))
    have HE7 := Lib.hid (HE6.out.keep hl7 (fun h => h))
    have HQ7 := Lib.hid (ownQuery_any q HWR.out HFL.out w7 bm dm bk dk (MsAt.below HMN.out hl7.below) (KsAt.below hl7.below _ _ HKN.out) (HT.out.next HB7.out))
    clear hb hl7 HS f0 f1 c0 c1 c2 c3 c4 c5 c6 c7 c8 c9 e0 e1 e2 e3 e4 e5 e6 e7 e8 e9
    have c0 := HE7.out.cell 0
    have c1 := HE7.out.cell 1
    have c2 := HE7.out.cell 2
    have c3 := HE7.out.cell 3
    have c4 := HE7.out.cell 4
    have c5 := HE7.out.cell 5
    have c6 := HE7.out.cell 6
    have c7 := HE7.out.cell 7
    have c8 := HE7.out.cell 8
    have c9 := HE7.out.cell 9
    go_wp2_with fail
    refine HQ7.out.mono ?_
    rintro e w8 ⟨U, rfl, hUU, hb8⟩
    have hte : (U.toList == T.toList) = true := eq_list (by rw [hUU, HTT.out])
    have HB8 := Lib.hid (HB7.out.trans (hb8.mono HB7.out.size))
    clear hb8 hUU HQ7 c0 c1 c2 c3 c4 c5 c6 c7 c8 c9
    go_wp2_with fail
    go_ret
    exact ⟨rfl, HB8.out⟩
end Go.Proofs.YtmodiemmcdocdaaGreatDoor

/-
  THE TEXT OF A QUERY IS PARSED TO THE SAME QUERY: the law's walk.
-/
import Derived.Test.YtmodiemmcdocdaaDoorQy8
import Derived.Test.YtmodiemmcdocdaaDoorQryB6
import Derived.Test.YtmodiemmcdocdaaDoorRb7
import Derived.Test.YtmodiemmcdocdaaDoorKl8
namespace Go.Proofs.YtmodiemmcdocdaaDoor
open Go.RowKit Go
open PX (tk isT)

def liveA : List UInt8 := [102, 114, 111, 109, 32, 48, 32, 116, 111, 32, 57, 32, 119, 104, 101, 114, 101, 32, 97, 112, 112, 33, 61, 34, 120, 34, 32, 102, 105, 110, 100, 32, 40, 119, 111, 114, 100, 32, 34, 97, 34, 32, 111, 114, 32, 119, 111, 114, 100, 32, 34, 98, 34, 41, 32, 97, 110, 100, 32, 110, 111, 116, 32, 104, 97, 115, 32, 34, 120, 34, 32, 108, 105, 109, 105, 116, 32, 53, 32, 112, 97, 103, 101, 32, 34, 112, 34]
def liveQ : Qy := ⟨0, 9, [⟨⟨#[97, 112, 112]⟩, true, ⟨#[120]⟩⟩], .mk 7 ⟨#[]⟩ ⟨#[]⟩ [.mk 8 ⟨#[]⟩ ⟨#[]⟩ [.mk 3 ⟨#[]⟩ ⟨#[97]⟩ [], .mk 3 ⟨#[]⟩ ⟨#[98]⟩ []], .mk 6 ⟨#[]⟩ ⟨#[]⟩ [.mk 4 ⟨#[]⟩ ⟨#[120]⟩ []]], false, 5, ⟨#[112]⟩⟩
theorem parse_L : PX.parse liveA = .ok liveQ := by kernel_rfl
theorem spell_L : PX.spell (PX.qsp Lib.itoa liveQ) = liveA := by kernel_rfl

theorem eq_list {T U : ByteArray} (h : T.data.toList = U.data.toList) : (T.toList == U.toList) = true := by
  rw [ByteArray.toList_eq, ByteArray.toList_eq, h]
  simp

/-- A parsed query can be told by the program, and by the document's own. -/
theorem told_q {l : List UInt8} {q : Qy} (h : PX.parse l = .ok q) : PX.Read q ∧ Wr q ∧ (fText q.fil).length ≤ 1000000000 := by
  have hr := PX.parse_told h
  have h1 := filter_cost _ q.fil (Nat.le_refl _) hr.fil
  have h2 := hr.cost
  exact ⟨hr, read_wr hr, by omega⟩

set_option maxHeartbeats 8000000 in
set_option maxRecDepth 100000 in
theorem alive_show (w : World) (hT : Tabs w) : Calls Tryd.prog 6 #[] w fun e w' => e = .returned (.bool true) ∧ Below w.heap.size w w' := by
  obtain ⟨s, hs⟩ : ∃ s : ByteArray, s = ⟨#[102, 114, 111, 109, 32, 48, 32, 116, 111, 32, 57, 32, 119, 104, 101, 114, 101, 32, 97, 112, 112, 33, 61, 34, 120, 34, 32, 102, 105, 110, 100, 32, 40, 119, 111, 114, 100, 32, 34, 97, 34, 32, 111, 114, 32, 119, 111, 114, 100, 32, 34, 98, 34, 41, 32, 97, 110, 100, 32, 110, 111, 116, 32, 104, 97, 115, 32, 34, 120, 34, 32, 108, 105, 109, 105, 116, 32, 53, 32, 112, 97, 103, 101, 32, 34, 112, 34]⟩ := ⟨_, rfl⟩
  have hsl : s.data.toList = liveA := by rw [hs]; rfl
  have hss : s.size ≤ 1000 := by rw [hs]; decide
  have hpp := parse_L
  rw [← hsl] at hpp
  have HR := Lib.hid (ref_parse s (by omega) w hT)
  rw [hpp] at HR
  obtain ⟨hrd, hwr, hfl⟩ := told_q hpp
  have HSP : Hid (PX.spell (PX.qsp Lib.itoa liveQ) = s.data.toList) := Lib.hid (by rw [hsl]; exact spell_L)
  have HWR := Lib.hid hwr
  have HFL := Lib.hid hfl
  have HT := Lib.hid hT
  clear hpp hrd hwr hfl hsl hT
  generalize liveQ = q at HR HWR HFL HSP
  go_enter Tryd.func6, Tryd.ntmps6
  go_wp2_with fail
  rw [← hs]
  clear hs
  refine HR.out.mono ?_
  rintro e w4 ⟨hb4, v4, rfl, mv, kv, rfl, hm, hk⟩
  obtain ⟨bm, dm, rfl, _⟩ := id hm
  obtain ⟨bk, dk, rfl⟩ := hk.shape
  simp only [Qy.val]
  have hl5 : Lay w4 (w4.alloc (.cells #[.int .i64 q.src, .int .i64 q.til, .slice bm q.mat.length dm, .int .i64 q.fil.op, .string q.fil.name, .string q.fil.text, .slice bk q.fil.kids.length dk, .bool q.desc, .int .i64 q.lim, .string q.page] 29)) := (Keep.refl _ w4).alloc _
  have HB5 := Lib.hid (hb4.trans (hl5.below.mono hb4.size))
  have HM5 := Lib.hid (hm.lay hl5)
  have HK5 := Lib.hid (KsAt.below hl5.below _ _ hk)
  have HC5 : Hid (CB (w4.alloc (.cells #[.int .i64 q.src, .int .i64 q.til, .slice bm q.mat.length dm, .int .i64 q.fil.op, .string q.fil.name, .string q.fil.text, .slice bk q.fil.kids.length dk, .bool q.desc, .int .i64 q.lim, .string q.page] 29)) w4.heap.size 29 #[.int .i64 q.src, .int .i64 q.til, .slice bm q.mat.length dm, .int .i64 q.fil.op, .string q.fil.name, .string q.fil.text, .slice bk q.fil.kids.length dk, .bool q.desc, .int .i64 q.lim, .string q.page]) := Lib.hid (CB.new w4 29 _)
  clear hl5 hm hk hb4 HR
  go_upto_region 3 with fail
  revert HB5 HM5 HK5 HC5
  generalize w4.alloc (.cells #[.int .i64 q.src, .int .i64 q.til, .slice bm q.mat.length dm, .int .i64 q.fil.op, .string q.fil.name, .string q.fil.text, .slice bk q.fil.kids.length dk, .bool q.desc, .int .i64 q.lim, .string q.page] 29) = w5
  generalize w4.heap.size = C
  intro HB5 HM5 HK5 HC5
  have HQ := Lib.hid (ownQuery_any q HWR.out HFL.out w5 bm dm bk dk HM5.out HK5.out (HT.out.next HB5.out))
  have c0 := HC5.out.cell 0
  have c1 := HC5.out.cell 1
  have c2 := HC5.out.cell 2
  have c3 := HC5.out.cell 3
  have c4 := HC5.out.cell 4
  have c5 := HC5.out.cell 5
  have c6 := HC5.out.cell 6
  have c7 := HC5.out.cell 7
  have c8 := HC5.out.cell 8
  have c9 := HC5.out.cell 9
  go_wp2_with fail
  refine HQ.out.mono ?_
  rintro e w6 ⟨T, rfl, hTT, hb6⟩
  have hte : (T.toList == s.toList) = true := eq_list (by rw [hTT, HSP.out])
  have HB6 := Lib.hid (HB5.out.trans (hb6.mono HB5.out.size))
  have HF := Lib.hid (ownFilter_any (.mk 2 ⟨#[]⟩ ⟨#[]⟩ []) (by rw [PX.Can]; exact .inl ⟨.inr rfl, rfl, rfl, rfl⟩) (by rw [Sm, Sms]; exact ⟨by decide, by decide, trivial⟩) (by rw [(fText_leaf ⟨#[]⟩ ⟨#[]⟩).2.1]; decide) w6 (.slice none 0 0) (by unfold KsAt; exact ⟨none, 0, rfl, by simp, .inl rfl⟩) (HT.out.next HB6.out).utf)
  simp only [Ft.val, Ft.op, Ft.name, Ft.text] at HF
  clear hb6 hTT HQ c0 c1 c2 c3 c4 c5 c6 c7 c8 c9
  go_wp2_with fail
  refine HF.out.mono ?_
  rintro e w7 ⟨U, rfl, hU, hb7⟩
  have hue : (U.toList == [102, 97, 108, 115, 101]) = true := by
    rw [ByteArray.toList_eq, hU, (fText_leaf ⟨#[]⟩ ⟨#[]⟩).2.1]
    rfl
  have HB7 := Lib.hid (HB6.out.trans (hb7.mono HB6.out.size))
  clear hb7 hU HF
  go_wp2_with fail
  go_ret
  exact ⟨rfl, HB7.out⟩

/-- The document's own Query. -/
theorem refQuery_any (q : Qy) (hw : Wr q) (w : World) (am : Option Addr) (cm : Nat) (ak : Option Addr) (ck : Nat) (hm : MsAt w (.slice am q.mat.length cm) q.mat) (hk : KsAt w (.slice ak q.fil.kids.length ck) q.fil) (hT : Tabs w) :
    Calls Tryd.prog 9 #[.agg #[.int .i64 q.src, .int .i64 q.til, .slice am q.mat.length cm, .int .i64 q.fil.op, .string q.fil.name, .string q.fil.text, .slice ak q.fil.kids.length ck, .bool q.desc, .int .i64 q.lim, .string q.page]] w fun e w' => ∃ T : ByteArray, e = .returned (.string T) ∧ T.data.toList = PX.spell (PX.qsp Lib.itoa q) ∧ Below w.heap.size w w' := by
  obtain ⟨w0, hW⟩ : ∃ w0, w0 = w.alloc (.cells #[.int .i64 q.src, .int .i64 q.til, .slice am q.mat.length cm, .int .i64 q.fil.op, .string q.fil.name, .string q.fil.text, .slice ak q.fil.kids.length ck, .bool q.desc, .int .i64 q.lim, .string q.page] 29) := ⟨_, rfl⟩
  have hl0 : Lay w w0 := by rw [hW]; exact (Keep.refl _ w).alloc _
  have HB0 := Lib.hid hl0.below
  have HC0 : Hid (CB w0 w.heap.size 29 #[.int .i64 q.src, .int .i64 q.til, .slice am q.mat.length cm, .int .i64 q.fil.op, .string q.fil.name, .string q.fil.text, .slice ak q.fil.kids.length ck, .bool q.desc, .int .i64 q.lim, .string q.page]) := Lib.hid (by rw [hW]; exact CB.new w 29 _)
  have HQ := Lib.hid (textQuery_any q hw w0 am cm ak ck (hm.lay hl0) (KsAt.below hl0.below _ _ hk) (hT.next hl0.below))
  have HW := Lib.hid hW.symm
  clear hl0 hW hw hm hk hT
  have c0 := HC0.out.cell 0
  have c1 := HC0.out.cell 1
  have c2 := HC0.out.cell 2
  have c3 := HC0.out.cell 3
  have c4 := HC0.out.cell 4
  have c5 := HC0.out.cell 5
  have c6 := HC0.out.cell 6
  have c7 := HC0.out.cell 7
  have c8 := HC0.out.cell 8
  have c9 := HC0.out.cell 9
  go_enter Tryd.func9, Tryd.ntmps9
  go_upto_region 1 with fail
  rw [HW.out]
  go_wp2_with fail
  refine HQ.out.mono ?_
  rintro e w2 ⟨T, rfl, hTT, hb2⟩
  have HB2 := Lib.hid (HB0.out.trans (hb2.mono HB0.out.size))
  have HTT := Lib.hid hTT
  clear hb2 hTT HQ c0 c1 c2 c3 c4 c5 c6 c7 c8 c9
  go_wp2_with fail
  go_ret
  exact ⟨_, rfl, HTT.out, HB2.out⟩


/-- The document's own Plain, and Filter. -/
theorem refPlain_any (q : Qy) (hw : Wr q) (w : World) (am : Option Addr) (cm : Nat) (ak : Option Addr) (ck : Nat) (hm : MsAt w (.slice am q.mat.length cm) q.mat) (hk : KsAt w (.slice ak q.fil.kids.length ck) q.fil) (hT : Tabs w) :
    Calls Tryd.prog 11 #[.agg #[.int .i64 q.src, .int .i64 q.til, .slice am q.mat.length cm, .int .i64 q.fil.op, .string q.fil.name, .string q.fil.text, .slice ak q.fil.kids.length ck, .bool q.desc, .int .i64 q.lim, .string q.page]] w fun e w' => ∃ T : ByteArray, e = .returned (.string T) ∧ T.data.toList = plainT q ∧ Below w.heap.size w w' := by
  obtain ⟨w0, hW⟩ : ∃ w0, w0 = w.alloc (.cells #[.int .i64 q.src, .int .i64 q.til, .slice am q.mat.length cm, .int .i64 q.fil.op, .string q.fil.name, .string q.fil.text, .slice ak q.fil.kids.length ck, .bool q.desc, .int .i64 q.lim, .string q.page] 29) := ⟨_, rfl⟩
  have hl0 : Lay w w0 := by rw [hW]; exact (Keep.refl _ w).alloc _
  have HB0 := Lib.hid hl0.below
  have HC0 : Hid (CB w0 w.heap.size 29 #[.int .i64 q.src, .int .i64 q.til, .slice am q.mat.length cm, .int .i64 q.fil.op, .string q.fil.name, .string q.fil.text, .slice ak q.fil.kids.length ck, .bool q.desc, .int .i64 q.lim, .string q.page]) := Lib.hid (by rw [hW]; exact CB.new w 29 _)
  have HQ := Lib.hid (textPlain_any q hw w0 am cm ak ck (hm.lay hl0) (KsAt.below hl0.below _ _ hk) (hT.next hl0.below))
  have HW := Lib.hid hW.symm
  clear hl0 hW hw hm hk hT
  have c0 := HC0.out.cell 0
  have c1 := HC0.out.cell 1
  have c2 := HC0.out.cell 2
  have c3 := HC0.out.cell 3
  have c4 := HC0.out.cell 4
  have c5 := HC0.out.cell 5
  have c6 := HC0.out.cell 6
  have c7 := HC0.out.cell 7
  have c8 := HC0.out.cell 8
  have c9 := HC0.out.cell 9
  go_enter Tryd.func11, Tryd.ntmps11
  go_upto_region 1 with fail
  rw [HW.out]
  go_wp2_with fail
  refine HQ.out.mono ?_
  rintro e w2 ⟨T, rfl, hTT, hb2⟩
  have HB2 := Lib.hid (HB0.out.trans (hb2.mono HB0.out.size))
  have HTT := Lib.hid hTT
  clear hb2 hTT HQ c0 c1 c2 c3 c4 c5 c6 c7 c8 c9
  go_wp2_with fail
  go_ret
  exact ⟨_, rfl, HTT.out, HB2.out⟩

theorem refFilter_any (f : Ft) (hc : PX.Can f) (hs : Sm 100000 f) (hlen : (fText f).length ≤ 1000000000000) (w : World) (kv : Value) (hk : KsAt w kv f) (hT : Lib.Utf8Tabs 0 1 w) : Calls Tryd.prog 13 #[f.val kv] w (TextR f w) := by
  obtain ⟨W1, hW1⟩ : ∃ W1, W1 = w.alloc (.cells #[.int .i64 f.op, .string f.name, .string f.text, kv] 27) := ⟨_, rfl⟩
  have hb1 : Below w.heap.size w W1 := by rw [hW1]; exact (Below.refl _ w).alloc (Nat.le_refl _) _
  have HC1 : Hid (CB W1 w.heap.size 27 #[.int .i64 f.op, .string f.name, .string f.text, kv]) := Lib.hid (by rw [hW1]; exact CB.new w 27 _)
  have HP := Lib.hid (textFilter_any f.count f (Nat.le_refl _) hc hs hlen W1 kv (KsAt.below hb1 _ _ hk) (Utf8Tabs_below hT hb1))
  have HW := Lib.hid hW1.symm
  have HB1 := Lib.hid hb1
  obtain ⟨ak, ck, rfl⟩ := hk.shape
  clear hW1 hb1 hc hs hlen hk hT
  have c0 := HC1.out.cell 0
  have c1 := HC1.out.cell 1
  have c2 := HC1.out.cell 2
  have c3 := HC1.out.cell 3
  simp only [Ft.val] at HP ⊢
  go_enter Tryd.func13, Tryd.ntmps13
  go_upto_region 1 with fail
  rw [HW.out]
  go_wp2_with fail
  refine HP.out.mono ?_
  rintro e w2 ⟨U, rfl, hU, hb2⟩
  have HB2 := Lib.hid (HB1.out.trans (hb2.mono HB1.out.size))
  clear hb2 HP c0 c1 c2 c3
  go_wp2_with fail
  go_ret
  exact ⟨_, rfl, hU, HB2.out⟩

theorem IntsAt.below {w w' : World} {v : Value} {l : List Int} (h : IntsAt w v l) (hl : Below w.heap.size w w') : IntsAt w' v l := by
  obtain ⟨a, cap, hv, h1, h | ⟨b, off, ha, hlt, hc⟩⟩ := h
  · exact ⟨a, cap, hv, h1, .inl h⟩
  · exact ⟨a, cap, hv, h1, .inr ⟨b, off, ha, Nat.lt_of_lt_of_le hlt hl.size, fun i hi => (World.cell?_of_block (a := ⟨b, off + i, none⟩) (hl.block b hlt)).trans (hc i hi)⟩⟩

theorem made_len (l : List Int) : (fText (Qy.query l).fil).length ≤ 1000000000 := by
  have := made_fil l
  have e : tB 3 = 83900 := by decide
  omega
end Go.Proofs.YtmodiemmcdocdaaDoor

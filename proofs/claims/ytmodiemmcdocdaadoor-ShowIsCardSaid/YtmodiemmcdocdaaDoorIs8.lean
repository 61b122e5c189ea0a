/-
  THE TEXT OF A QUERY IS THE DOCUMENT'S: the law's walk.
-/
import Derived.Test.YtmodiemmcdocdaaDoorUn8
import Derived.Test.YtmodiemmcdocdaaDoorKn7
namespace Go.Proofs.YtmodiemmcdocdaaDoor
open Go.RowKit Go
open Go.Sort (grow)
attribute [local irreducible] wpQuiet

theorem ne_self (T : ByteArray) : (T.toList != T.toList) = false := by simp
theorem eq_self (T : ByteArray) : (T.toList == T.toList) = true := by simp

set_option maxHeartbeats 8000000 in
set_option maxRecDepth 100000 in
theorem is_walk (s : ByteArray) (l : List Int) (u : Value) (w : World) (hu : IntsAt w u l) (hT : Tabs w) : Calls Tryd.prog 3 #[.string s, u] w fun e w' => e = .returned (.bool true) ∧ Below w.heap.size w w' := by
  have HA := Lib.hid (alive_show w hT)
  have HT := Lib.hid hT
  have HU := Lib.hid hu
  obtain ⟨a, cap, rfl, hl63, _⟩ := id hu
  clear hT hu
  have hmx : Tryd.prog.follows .mixedOrders = true := by kernel_rfl
  by_cases hg : 1024 < s.size ∨ 300 < l.length
  · have hg' : decide (1024 < (s.size : Int)) = true ∨ (decide (1024 < (s.size : Int)) = false ∧ decide (300 < (l.length : Int)) = true) := by
      simp
      omega
    rcases hg' with hd | ⟨hd, hd1⟩
    all_goals
      go_enter Tryd.func3, Tryd.ntmps3
      go_wp2_with (go_at_call 6; refine HA.out.mono ?_; rintro e w1 ⟨rfl, hb1⟩)
      go_ret
      exact ⟨rfl, hb1⟩
  have d0 : decide (1024 < (s.size : Int)) = false := by simp; omega
  have d1 : decide (300 < (l.length : Int)) = false := by simp; omega
  have HSS : Hid (s.size ≤ 1048576) := Lib.hid (by omega)
  clear hg
  go_enter Tryd.func3, Tryd.ntmps3
  go_wp2_with fail
  refine HA.out.mono ?_
  rintro e w1 ⟨rfl, hb1⟩
  have HB1 := Lib.hid hb1
  have HQA := Lib.hid (query_any l w1 _ (IntsAt.below HU.out hb1))
  clear hb1 HA HU
  go_wp2_with fail
  refine HQA.out.mono ?_
  rintro e w2 ⟨vq, rfl, ⟨mv, kv, rfl, hm, hk⟩, hl2⟩
  have HWR := Lib.hid (query_wr l)
  have HFR := Lib.hid (made_len l)
  generalize Qy.query l = q at hm hk HWR HFR ⊢
  obtain ⟨am, cm, rfl, _⟩ := id hm
  obtain ⟨ak, ck, rfl⟩ := hk.shape
  simp only [Qy.val]
  have hl3 : Lay w2 (w2.alloc (.cells #[.int .i64 q.src, .int .i64 q.til, .slice am q.mat.length cm, .int .i64 q.fil.op, .string q.fil.name, .string q.fil.text, .slice ak q.fil.kids.length ck, .bool q.desc, .int .i64 q.lim, .string q.page] 29)) := (Keep.refl _ w2).alloc _
  have HB3 := Lib.hid (HB1.out.trans ((hl2.below.trans (hl3.below.mono hl2.size)).mono HB1.out.size))
  have HM3 := Lib.hid (hm.lay hl3)
  have HK3 := Lib.hid (KsAt.below hl3.below _ _ hk)
  have HC3 : Hid (CB (w2.alloc (.cells #[.int .i64 q.src, .int .i64 q.til, .slice am q.mat.length cm, .int .i64 q.fil.op, .string q.fil.name, .string q.fil.text, .slice ak q.fil.kids.length ck, .bool q.desc, .int .i64 q.lim, .string q.page] 29)) w2.heap.size 29 #[.int .i64 q.src, .int .i64 q.til, .slice am q.mat.length cm, .int .i64 q.fil.op, .string q.fil.name, .string q.fil.text, .slice ak q.fil.kids.length ck, .bool q.desc, .int .i64 q.lim, .string q.page]) := Lib.hid (CB.new w2 29 _)
  clear hl2 hl3 hm hk HQA
  go_upto_region 6 with fail
  revert HB3 HM3 HK3 HC3
  generalize w2.alloc (.cells #[.int .i64 q.src, .int .i64 q.til, .slice am q.mat.length cm, .int .i64 q.fil.op, .string q.fil.name, .string q.fil.text, .slice ak q.fil.kids.length ck, .bool q.desc, .int .i64 q.lim, .string q.page] 29) = w3
  generalize w2.heap.size = A
  intro HB3 HM3 HK3 HC3
  have HT3 := Lib.hid (HT.out.next HB3.out)
  obtain ⟨TQ, hTQ⟩ : ∃ TQ : ByteArray, TQ = ⟨(PX.spell (PX.qsp Lib.itoa q)).toArray⟩ := ⟨_, rfl⟩
  obtain ⟨TP, hTP⟩ : ∃ TP : ByteArray, TP = ⟨(plainT q).toArray⟩ := ⟨_, rfl⟩
  obtain ⟨TF, hTF⟩ : ∃ TF : ByteArray, TF = ⟨(fText q.fil).toArray⟩ := ⟨_, rfl⟩
  have K8 := quiet_txt (fun W (h : Below w3.heap.size w3 W) => ownQuery_any q HWR.out HFR.out W am cm ak ck (MsAt.below HM3.out h) (KsAt.below h _ _ HK3.out) (HT3.out.next h))
  have K9 := quiet_txt (fun W (h : Below w3.heap.size w3 W) => refQuery_any q HWR.out W am cm ak ck (MsAt.below HM3.out h) (KsAt.below h _ _ HK3.out) (HT3.out.next h))
  have K10 := quiet_txt (fun W (h : Below w3.heap.size w3 W) => ownPlain_any q HWR.out HFR.out (plain_len HWR.out) W am cm ak ck (MsAt.below HM3.out h) (KsAt.below h _ _ HK3.out) (HT3.out.next h))
  have K11 := quiet_txt (fun W (h : Below w3.heap.size w3 W) => refPlain_any q HWR.out W am cm ak ck (MsAt.below HM3.out h) (KsAt.below h _ _ HK3.out) (HT3.out.next h))
  have K12 := quiet_txt (fun W (h : Below w3.heap.size w3 W) => (show Calls Tryd.prog 12 #[q.fil.val (.slice ak q.fil.kids.length ck)] W (TextR q.fil W) from ownFilter_any q.fil HWR.out.can HWR.out.sm HFR.out W _ (KsAt.below h _ _ HK3.out) (HT3.out.next h).utf))
  have K13 := quiet_txt (fun W (h : Below w3.heap.size w3 W) => (show Calls Tryd.prog 13 #[q.fil.val (.slice ak q.fil.kids.length ck)] W (TextR q.fil W) from refFilter_any q.fil HWR.out.can HWR.out.sm HWR.out.len W _ (KsAt.below h _ _ HK3.out) (HT3.out.next h).utf))
  simp only [Ft.val] at K12 K13
  rw [← hTQ] at K8 K9
  rw [← hTP] at K10 K11
  rw [← hTF] at K12 K13
  have n1 := ne_self TQ
  have n2 := ne_self TP
  have n3 := ne_self TF
  clear hTQ hTP hTF
  have c0 := fun d os => cell_regrown (HC3.out.cell 0) d os
  have c1 := fun d os => cell_regrown (HC3.out.cell 1) d os
  have c2 := fun d os => cell_regrown (HC3.out.cell 2) d os
  have c3 := fun d os => cell_regrown (HC3.out.cell 3) d os
  have c4 := fun d os => cell_regrown (HC3.out.cell 4) d os
  have c5 := fun d os => cell_regrown (HC3.out.cell 5) d os
  have c6 := fun d os => cell_regrown (HC3.out.cell 6) d os
  have c7 := fun d os => cell_regrown (HC3.out.cell 7) d os
  have c8 := fun d os => cell_regrown (HC3.out.cell 8) d os
  have c9 := fun d os => cell_regrown (HC3.out.cell 9) d os
  refine wp_region_quiet_below (by assumption) (by kernel_rfl) ?_
  repeat (quiet_step (with_reducible first | exact K8 _ _ | exact K9 _ _ | exact K10 _ _ | exact K11 _ _ | exact K12 _ _ | exact K13 _ _))
  refine wpQuiet_nil ?_
  intro _ hw'
  obtain ⟨⟨dq, osq⟩, hw''⟩ := hw'
  subst hw''
  have HB4 := Lib.hid (HB3.out.trans ((below_regrown w3 dq osq).mono HB3.out.size))
  clear c0 c1 c2 c3 c4 c5 c6 c7 c8 c9 K8 K9 K10 K11 K12 K13 HM3 HK3 HC3 HT3 HWR HFR n1 n2 n3
  generalize grow (redrawn w3 dq) osq = w4 at HB4 ⊢
  have HR := Lib.hid (ref_parse s HSS.out w4 (HT.out.next HB4.out))
  rcases hp : PX.parse s.data.toList with p | q2
  · rw [hp] at HR
    have hz := PX.parse_nz hp
    have z2 : ((p.1 : Int) != 0) = true := by simp; omega
    clear hp hz
    go_wp2_with fail
    refine HR.out.mono ?_
    rintro e w5 ⟨hb5, he⟩
    obtain rfl := he
    simp only [zeroQ]
    have HB5 := Lib.hid (HB4.out.trans (hb5.mono HB4.out.size))
    have HB6 := Lib.hid (fun o => (HB5.out.trans ((Below.refl w5.heap.size w5).alloc (Nat.le_refl _) o |>.mono HB5.out.size)))
    clear hb5 HR
    go_upto_region 9 with fail
    generalize hw6 : w5.alloc (.cells #[.int .i64 0, .int .i64 0, .slice none 0 0, .int .i64 0, .string ⟨#[]⟩, .string ⟨#[]⟩, .slice none 0 0, .bool false, .int .i64 0, .string ⟨#[]⟩] 29) = w6
    have HB7 := Lib.hid (show Below w.heap.size w w6 by rw [← hw6]; exact HB6.out _)
    clear hw6
    have z3 : decide ((p.1 : Int) = 0) = false := by simpa using z2
    have z4 : ¬ ((p.1 : Int) = 0) := by simpa using z2
    generalize (p.1 : Int) = n1 at z2 z3 z4 ⊢
    generalize (p.2 : Int) = n2
    refine wp_region_quiet_below (by assumption) (by kernel_rfl) ?_
    repeat (quiet_step (fail))
    refine wpQuiet_nil ?_
    intro _ hw'
    obtain ⟨⟨dq, osq⟩, hw''⟩ := hw'
    subst hw''
    go_wp2_with fail
    go_ret
    exact ⟨rfl, HB7.out.trans ((below_regrown w6 dq osq).mono HB7.out.size)⟩
  · rw [hp] at HR
    obtain ⟨_, hwr, hfl⟩ := told_q hp
    have HWR := Lib.hid hwr
    have HFR := Lib.hid hfl
    clear hp hwr hfl
    go_wp2_with fail
    refine HR.out.mono ?_
    rintro e w5 ⟨hb5, v5, rfl, mv, kv, rfl, hm, hk⟩
    obtain ⟨bm, dm, rfl, _⟩ := id hm
    obtain ⟨bk, dk, rfl⟩ := hk.shape
    simp only [Qy.val]
    have hl6 : Lay w5 (w5.alloc (.cells #[.int .i64 q2.src, .int .i64 q2.til, .slice bm q2.mat.length dm, .int .i64 q2.fil.op, .string q2.fil.name, .string q2.fil.text, .slice bk q2.fil.kids.length dk, .bool q2.desc, .int .i64 q2.lim, .string q2.page] 29)) := (Keep.refl _ w5).alloc _
    have HB6 := Lib.hid (HB4.out.trans ((hb5.trans (hl6.below.mono hb5.size)).mono HB4.out.size))
    have HM6 := Lib.hid (hm.lay hl6)
    have HK6 := Lib.hid (KsAt.below hl6.below _ _ hk)
    have HC6 : Hid (CB (w5.alloc (.cells #[.int .i64 q2.src, .int .i64 q2.til, .slice bm q2.mat.length dm, .int .i64 q2.fil.op, .string q2.fil.name, .string q2.fil.text, .slice bk q2.fil.kids.length dk, .bool q2.desc, .int .i64 q2.lim, .string q2.page] 29)) w5.heap.size 29 #[.int .i64 q2.src, .int .i64 q2.til, .slice bm q2.mat.length dm, .int .i64 q2.fil.op, .string q2.fil.name, .string q2.fil.text, .slice bk q2.fil.kids.length dk, .bool q2.desc, .int .i64 q2.lim, .string q2.page]) := Lib.hid (CB.new w5 29 _)
    clear hl6 hm hk hb5 HR
    go_upto_region 9 with fail
    revert HB6 HM6 HK6 HC6
    generalize w5.alloc (.cells #[.int .i64 q2.src, .int .i64 q2.til, .slice bm q2.mat.length dm, .int .i64 q2.fil.op, .string q2.fil.name, .string q2.fil.text, .slice bk q2.fil.kids.length dk, .bool q2.desc, .int .i64 q2.lim, .string q2.page] 29) = w6
    generalize w5.heap.size = B
    intro HB6 HM6 HK6 HC6
    have HT6 := Lib.hid (HT.out.next HB6.out)
    obtain ⟨TQ, hTQ⟩ : ∃ TQ : ByteArray, TQ = ⟨(PX.spell (PX.qsp Lib.itoa q2)).toArray⟩ := ⟨_, rfl⟩
    obtain ⟨TP, hTP⟩ : ∃ TP : ByteArray, TP = ⟨(plainT q2).toArray⟩ := ⟨_, rfl⟩
    have K8 := quiet_txt (fun W (h : Below w6.heap.size w6 W) => ownQuery_any q2 HWR.out HFR.out W bm dm bk dk (MsAt.below HM6.out h) (KsAt.below h _ _ HK6.out) (HT6.out.next h))
    have K9 := quiet_txt (fun W (h : Below w6.heap.size w6 W) => refQuery_any q2 HWR.out W bm dm bk dk (MsAt.below HM6.out h) (KsAt.below h _ _ HK6.out) (HT6.out.next h))
    have K10 := quiet_txt (fun W (h : Below w6.heap.size w6 W) => ownPlain_any q2 HWR.out HFR.out (plain_len HWR.out) W bm dm bk dk (MsAt.below HM6.out h) (KsAt.below h _ _ HK6.out) (HT6.out.next h))
    have K11 := quiet_txt (fun W (h : Below w6.heap.size w6 W) => refPlain_any q2 HWR.out W bm dm bk dk (MsAt.below HM6.out h) (KsAt.below h _ _ HK6.out) (HT6.out.next h))
    rw [← hTQ] at K8 K9
    rw [← hTP] at K10 K11
    have n1 := eq_self TQ
    have n2 := eq_self TP
    clear hTQ hTP
    have c0 := fun d os => cell_regrown (HC6.out.cell 0) d os
    have c1 := fun d os => cell_regrown (HC6.out.cell 1) d os
    have c2 := fun d os => cell_regrown (HC6.out.cell 2) d os
    have c3 := fun d os => cell_regrown (HC6.out.cell 3) d os
    have c4 := fun d os => cell_regrown (HC6.out.cell 4) d os
    have c5 := fun d os => cell_regrown (HC6.out.cell 5) d os
    have c6 := fun d os => cell_regrown (HC6.out.cell 6) d os
    have c7 := fun d os => cell_regrown (HC6.out.cell 7) d os
    have c8 := fun d os => cell_regrown (HC6.out.cell 8) d os
    have c9 := fun d os => cell_regrown (HC6.out.cell 9) d os
    refine wp_region_quiet_below (by assumption) (by kernel_rfl) ?_
    repeat (quiet_step (with_reducible first | exact K8 _ _ | exact K9 _ _ | exact K10 _ _ | exact K11 _ _))
    refine wpQuiet_nil ?_
    intro _ hw'
    obtain ⟨⟨dq, osq⟩, hw''⟩ := hw'
    subst hw''
    go_wp2_with fail
    go_ret
    exact ⟨rfl, HB6.out.trans ((below_regrown w6 dq osq).mono HB6.out.size)⟩
end Go.Proofs.YtmodiemmcdocdaaDoor

/-
  PACKAGE show: Query.
-/
import Derived.Test.YtmodiemmcdocdaaDoorPl8
namespace Go.Proofs.YtmodiemmcdocdaaDoor
open Go.RowKit Go

set_option maxHeartbeats 8000000 in
set_option maxRecDepth 100000 in
theorem ownQuery_any (q : Qy) (hw : Wr q) (hlen : (fText q.fil).length ≤ 1000000000) (w : World) (am : Option Addr) (cm : Nat) (ak : Option Addr) (ck : Nat) (hm : MsAt w (.slice am q.mat.length cm) q.mat) (hk : KsAt w (.slice ak q.fil.kids.length ck) q.fil) (hT : Tabs w) :
    Calls Tryd.prog 8 #[.agg #[.int .i64 q.src, .int .i64 q.til, .slice am q.mat.length cm, .int .i64 q.fil.op, .string q.fil.name, .string q.fil.text, .slice ak q.fil.kids.length ck, .bool q.desc, .int .i64 q.lim, .string q.page]] w fun e w' => ∃ T : ByteArray, e = .returned (.string T) ∧ T.data.toList = PX.spell (PX.qsp Lib.itoa q) ∧ Below w.heap.size w w' := by
  obtain ⟨w0, hW⟩ : ∃ w0, w0 = w.alloc (.cells #[.int .i64 q.src, .int .i64 q.til, .slice am q.mat.length cm, .int .i64 q.fil.op, .string q.fil.name, .string q.fil.text, .slice ak q.fil.kids.length ck, .bool q.desc, .int .i64 q.lim, .string q.page] 29) := ⟨_, rfl⟩
  obtain ⟨F, hF⟩ : ∃ F, F = w.heap.size := ⟨_, rfl⟩
  have hl0 : Lay w w0 := by rw [hW]; exact (Keep.refl _ w).alloc _
  have HB0 := Lib.hid hl0.below
  have HC0 : Hid (CB w0 F 29 #[.int .i64 q.src, .int .i64 q.til, .slice am q.mat.length cm, .int .i64 q.fil.op, .string q.fil.name, .string q.fil.text, .slice ak q.fil.kids.length ck, .bool q.desc, .int .i64 q.lim, .string q.page]) := Lib.hid (by rw [hW, hF]; exact CB.new w 29 _)
  have HP := Lib.hid (fun W (hb : Below w.heap.size w W) => ownPlain_any q hw hlen (plain_len hw) W am cm ak ck (hm.below hb) (KsAt.below hb _ _ hk) (hT.next hb))
  have HQ := Lib.hid (fun W (hb : Below w.heap.size w W) => own_quote_any q.page (by have := hw.page; omega) W (hT.next hb).utf)
  have HSP := Lib.hid (qsp_spell (q := q) hw.can)
  have HPL := Lib.hid (plain_len hw)
  have HPG := Lib.hid hw.page
  have hF0 : F < w0.heap.size := HC0.out.lt
  have HW := Lib.hid hW.symm
  have HFE := Lib.hid hF.symm
  have HW0 : Hid (w.heap.size ≤ w0.heap.size) := Lib.hid HB0.out.size
  clear hl0 hW hF hw hm hk hT
  go_enter Tryd.func8, Tryd.ntmps8
  go_upto_region 1 with fail
  rw [HW.out, HFE.out]
  clear HW
  have c0 := HC0.out.cell 0
  have c1 := HC0.out.cell 1
  have c2 := HC0.out.cell 2
  have c3 := HC0.out.cell 3
  have c4 := HC0.out.cell 4
  have c5 := HC0.out.cell 5
  have c6 := HC0.out.cell 6
  have c7 := HC0.out.cell 7
  have c8 := HC0.out.cell 8
  have c9 := HC0.out.cell 9
  by_cases hp : q.page = ⟨#[]⟩
  · have HE : Hid (PX.spell (PX.qsp Lib.itoa q) = plainT q) := Lib.hid (by rw [HSP.out, if_pos hp, List.append_nil])
    have e1 : (q.page.toList == ([] : List UInt8)) = true := by rw [hp, ByteArray.toList_eq]; rfl
    have HPP := Lib.hid (HP.out w0 HB0.out)
    rw [hp] at c9
    clear e1
    go_wp2_with fail
    rw [← hp]
    refine HPP.out.mono ?_
    rintro e W5 ⟨T, rfl, hT5, hb5⟩
    have HT5 := Lib.hid hT5
    have HB5 := Lib.hid (HB0.out.trans (hb5.mono HW0.out))
    clear hT5 hb5 hp
    go_wp2_with fail
    go_ret
    exact ⟨T, rfl, by rw [HE.out]; exact HT5.out, HB5.out⟩
  · have HE : Hid (PX.spell (PX.qsp Lib.itoa q) = plainT q ++ ([32, 112, 97, 103, 101, 32] ++ LX.quote q.page.data.toList)) := Lib.hid (by rw [HSP.out, if_neg hp])
    have e1 : q.page.toList.isEmpty = false := by
      rw [ByteArray.toList_eq]
      rcases hl : q.page.data.toList with _ | ⟨x, r⟩
      · exact absurd (ByteArray.ext (by simpa using hl)) hp
      · rfl
    have hql : (⟨(LX.quote q.page.data.toList).toArray⟩ : ByteArray).size ≤ 2000000 := by
      have h1 := quote_len q.page.data.toList
      have h2 := HPG.out
      rw [str_size (l := LX.quote q.page.data.toList) (by simp)]
      rw [Lib.size_eq] at h2
      omega
    obtain ⟨QT, hQT⟩ : ∃ QT : ByteArray, QT = ⟨(LX.quote q.page.data.toList).toArray⟩ := ⟨_, rfl⟩
    rw [← hQT] at hql HQ
    have HQ5 := Lib.hid hQT
    clear hp hQT
    go_upto_region 3 with fail
    go_region_with (first | (go_at_call 10; refine (HP.out _ (by first | exact HB0.out.drew | exact HBQ.out)).mono ?_; rintro e wp ⟨TP, rfl, htp, hbp⟩; have hts : TP.size ≤ 2000000000000 := (by rw [str_size htp]; exact HPL.out); have HTP := Lib.hid htp; have HBP := Lib.hid (Below.trans (by first | exact HB0.out.drew | exact HBQ.out) (hbp.mono (by first | exact HW0.out | exact HBQ.out.size))); try (have hcp := CB.below (n := w0.drew.heap.size) (W := w0.drew) HC0.out hbp hF0; have p0 := hcp.cell 0; have p1 := hcp.cell 1; have p2 := hcp.cell 2; have p3 := hcp.cell 3; have p4 := hcp.cell 4; have p5 := hcp.cell 5; have p6 := hcp.cell 6; have p7 := hcp.cell 7; have p8 := hcp.cell 8; have p9 := hcp.cell 9)) | (go_at_call 20; refine (HQ.out _ (by first | exact HB0.out.drew | exact HBP.out)).mono ?_; rintro e wq ⟨rfl, hbq⟩; have HBQ := Lib.hid (Below.trans (by first | exact HB0.out.drew | exact HBP.out) (hbq.mono (by first | exact HW0.out | exact HBP.out.size))); try (have hcq := CB.below (n := w0.drew.heap.size) (W := w0.drew) HC0.out hbq hF0; have q0 := hcq.cell 0; have q1 := hcq.cell 1; have q2 := hcq.cell 2; have q3 := hcq.cell 3; have q4 := hcq.cell 4; have q5 := hcq.cell 5; have q6 := hcq.cell 6; have q7 := hcq.cell 7; have q8 := hcq.cell 8; have q9 := hcq.cell 9)))
    all_goals
      go_wp2_with fail
      go_ret
      refine ⟨_, rfl, ?_, ?_⟩
      · rw [HE.out, ← HTP.out, HQ5.out]
        simp
      · first | exact HBQ.out | exact HBP.out
end Go.Proofs.YtmodiemmcdocdaaDoor
